import PyProof.Rows.All
import Wide.All
import OpenK.AllK
import Wide.FinOn
import Lean
import PyProof.EqAt
import PyProof.EqKinds
import PyProof.TupleCall
import KE.KSortTup
import KE.KItemsList
import PyProof.Draws
import PyProof.EnumFor
import PyProof.EnumStmt
import PyProof.AttrMissHeap
import PyProof.WalksS
import PyProof.WalksMore
import KE.KDictOf
import KE.KDictSum
import PyProof.TupleKey
import PyProof.P3Eq
import PyProof.Rows.TupTab
import PyProof.DictRoadsH
import PyProof.MinMaxWalk
import PyProof.WalkInts
import PyProof.FactsAll.tuple_1
import PyProof.FactsAll.tuple_2
import PyProof.P3In
import PyProof.Walks
import PyProof.Seq
import PyProof.Rows.CallKwBuiltin
import KE.KRevSl
import PySem.Challenge.RW_likewise_k21_whole_worths
set_option Elab.async false
set_option linter.all false
set_option maxRecDepth 100000
def PySem.W.Fast.tw16033156732427808259 : Unit := ()
def PySem.W.Fast.tw2078169311819062966 : Unit := ()
def PySem.W.Fast.tw6321060574787286232 : Unit := ()
def PySem.W.Fast.tw13212693014632389625 : Unit := ()
def PySem.W.Fast.tw3437017354035943579 : Unit := ()
def PySem.W.Fast.tw11231084357220370683 : Unit := ()
def PySem.W.Fast.tw9224766477321517437 : Unit := ()
def PySem.W.Fast.tw18390927416766737790 : Unit := ()
namespace L2
open PySem PySem.Spec PyProof.Rows
abbrev Key := Sum Int Str
def keyIs : Key → Value → Bool
  | .inl k, v => Value.isInt k v
  | .inr x, v => Value.isStrOf x v
def keyH (w : World) : Key → Int
  | .inl k => hashInt k
  | .inr x => hashStr w x
theorem keyIs_shape : ∀ {k : Key} {v : Value}, keyIs k v = true → (∃ i t, k = Sum.inl i ∧ v = Value.int i t) ∨ (∃ x t, k = Sum.inr x ∧ v = Value.str x t)
  | .inl i, v, h => by
    obtain ⟨t, e⟩ := Value.isInt_shape (k := i) (v := v) h
    exact .inl ⟨i, t, rfl, e⟩
  | .inr x, v, h => by
    obtain ⟨t, e⟩ := Value.isStrOf_shape (x := x) (v := v) h
    exact .inr ⟨x, t, rfl, e⟩
theorem keyIs_int (i : Int) (t : Tok) : keyIs (.inl i) (.int i t) = true := by simp [keyIs, Value.isInt]
theorem keyIs_str (x : Str) (t : Tok) : keyIs (.inr x) (.str x t) = true := by simp [keyIs, Value.isStrOf]
theorem key_ll (a b : Int) : decide ((Sum.inl a : Key) = Sum.inl b) = (a == b) := by
  by_cases e : a = b
  · subst e; simp
  · have h : ¬ (Sum.inl a : Key) = Sum.inl b := fun q => e (Sum.inl.inj q)
    rw [decide_eq_false h]
    exact (beq_eq_false_iff_ne.mpr e).symm
theorem key_rr (a b : Str) : decide ((Sum.inr a : Key) = Sum.inr b) = decide (a = b) := by
  by_cases e : a = b
  · subst e; simp
  · have h : ¬ (Sum.inr a : Key) = Sum.inr b := fun q => e (Sum.inr.inj q)
    rw [decide_eq_false h, decide_eq_false e]
theorem key_lr (a : Int) (b : Str) : decide ((Sum.inl a : Key) = Sum.inr b) = false := decide_eq_false (fun q => nomatch q)
theorem key_rl (a : Str) (b : Int) : decide ((Sum.inr a : Key) = Sum.inl b) = false := decide_eq_false (fun q => nomatch q)
def mixKind (prog : Program) (w : World) : PySem.KeyKind prog w Key where
  is := keyIs
  hash := keyH w
  inj := fun v a b ha hb => by
    rcases keyIs_shape ha with ⟨i, t, rfl, rfl⟩ | ⟨x, t, rfl, rfl⟩
    · rcases keyIs_shape hb with ⟨j, u, rfl, e⟩ | ⟨y, u, rfl, e⟩
      · injection e with e1 _; rw [e1]
      · exact nomatch e
    · rcases keyIs_shape hb with ⟨j, u, rfl, e⟩ | ⟨y, u, rfl, e⟩
      · exact nomatch e
      · injection e with e1 _; rw [e1]
  byValue := fun k v h => by
    rcases keyIs_shape h with ⟨i, t, rfl, rfl⟩ | ⟨x, t, rfl, rfl⟩ <;> rfl
  pyHash := fun hv h => by
    rcases keyIs_shape hv with ⟨i, t, rfl, rfl⟩ | ⟨x, t, rfl, rfl⟩
    · exact wpAny_pyHash_int h
    · exact wpAny_pyHash_str h
  eqBool := fun hu hv h => by
    rcases keyIs_shape hu with ⟨i, t, rfl, rfl⟩ | ⟨x, t, rfl, rfl⟩
    · rcases keyIs_shape hv with ⟨j, u, rfl, rfl⟩ | ⟨y, u, rfl, rfl⟩
      · rw [key_ll] at h; exact wpAny_eqBool_int h
      · rw [key_lr] at h; exact SeqAt.EqAt.int_str i t y u _ _ _ _ h
    · rcases keyIs_shape hv with ⟨j, u, rfl, rfl⟩ | ⟨y, u, rfl, rfl⟩
      · rw [key_rl] at h; exact SeqAt.EqAt.str_int x t j u _ _ _ _ h
      · rw [key_rr] at h; exact wpAny_eqBool_str h
  «strs» := fun k x t v h => by
    rcases keyIs_shape h with ⟨i, u, rfl, e⟩ | ⟨y, u, rfl, e⟩
    · exact nomatch e
    · injection e with e1 _
      subst e1
      cases v <;> rfl
theorem mixKind_int (prog : Program) (w : World) (i : Int) (t : Tok) : (mixKind prog w).is (.inl i) (.int i t) = true := keyIs_int i t
theorem mixKind_str (prog : Program) (w : World) (x : Str) (t : Tok) : (mixKind prog w).is (.inr x) (.str x t) = true := keyIs_str x t
end L2
namespace L2
open PySem PySem.Spec PyProof.Rows
inductive V where
  | non | bl (b : Bool) | int (i : Int) | str (x : Str) | byt (b : Array UInt8) | flt (b : UInt64) | ref (a : Addr) | ty (n : String)
  deriving DecidableEq
def RelV : V → Value → Prop
  | .non, u => u = Value.none
  | .bl b, u => u = Value.bool b
  | .int i, u => ∃ t, u = Value.int i t
  | .str x, u => ∃ t, u = Value.str x t
  | .byt b, u => ∃ t, u = Value.bytes b t
  | .flt b, u => ∃ t, u = Value.float b t
  | .ref a, u => u = Value.ref a
  | .ty n, u => u = Value.type n
abbrev Vals : List V → List Value → Prop := Paired RelV
theorem Vals.length {xs : List V} {us : List Value} (r : Vals xs us) : xs.length = us.length := Paired.length r
theorem Vals.get : ∀ {xs : List V} {us : List Value} {i : Nat} {x : V}, Vals xs us → xs[i]? = some x → ∃ u, us[i]? = some u ∧ RelV x u
  | _, _, _, _, .nil, e => by simp at e
  | _, _, 0, _, .cons r _, e => by simp at e; subst e; exact ⟨_, rfl, r⟩
  | _, _, i + 1, x, .cons _ t, e => by
    obtain ⟨u, h1, h2⟩ := Vals.get (i := i) (x := x) t (by simpa using e)
    exact ⟨u, by simpa using h1, h2⟩
theorem Vals.set {x : V} {u : Value} (r : RelV x u) : ∀ {xs : List V} {us : List Value} (i : Nat), Vals xs us → Vals (xs.set i x) (us.set i u)
  | _, _, _, .nil => .nil
  | _, _, 0, .cons _ t => .cons r t
  | _, _, i + 1, .cons q t => .cons q (Vals.set r i t)
theorem Vals.append : ∀ {xs ys : List V} {us ws : List Value}, Vals xs us → Vals ys ws → Vals (xs ++ ys) (us ++ ws)
  | _, _, _, _, .nil, s => s
  | _, _, _, _, .cons r t, s => .cons r (Vals.append t s)
theorem Vals.take : ∀ {xs : List V} {us : List Value} (n : Nat), Vals xs us → Vals (xs.take n) (us.take n)
  | _, _, 0, _ => .nil
  | _, _, _ + 1, .nil => .nil
  | _, _, n + 1, .cons r t => .cons r (Vals.take n t)
theorem Vals.drop : ∀ {xs : List V} {us : List Value} (n : Nat), Vals xs us → Vals (xs.drop n) (us.drop n)
  | _, _, 0, r => r
  | _, _, _ + 1, .nil => .nil
  | _, _, n + 1, .cons _ t => Vals.drop n t
theorem Vals.none_of : ∀ {xs : List V} {us : List Value} {i : Nat}, Vals xs us → xs[i]? = none → us[i]? = none := fun {xs us i} r e => by
  have h1 := r.length
  have h2 : xs.length ≤ i := List.getElem?_eq_none_iff.mp e
  exact List.getElem?_eq_none_iff.mpr (by omega)
def RelO : Option V → Option Value → Prop
  | some v, some u => RelV v u
  | none, none => True
  | _, _ => False
def KV {κ : Type} : List (κ × V) → List (κ × Value) → Prop := Paired fun (p : κ × V) (q : κ × Value) => p.1 = q.1 ∧ RelV p.2 q.2
def kV : Key → V
  | .inl i => .int i
  | .inr x => .str x
inductive HO where
  | lst (xs : List V)
  | tup (xs : List V)
  | dK (kvs : List (Key × V)) | dT (kvs : List (List Key × V))
  | set (S : Int → Bool) (n : Nat)
  | ins (C dx : Addr) (fs : List (Str × V))
  | own (x : Addr)
  | xd (fs : List (Str × V))
  | met (f x : Addr)
  | rng (lo hi : Int)
  | frz (o : Obj) (u : HO)
  | tbl (ps : Array Value)
  | ext (φ : Heap → Prop)
abbrev Hp := Addr → Option HO
def upd (H : Hp) (a : Addr) (o : HO) : Hp := fun b => if b = a then some o else H b
theorem upd_same {H : Hp} {a : Addr} {o : HO} : upd H a o a = some o := by unfold upd; rw [if_pos rfl]
theorem upd_ne {H : Hp} {a b : Addr} {o : HO} (h : b ≠ a) : upd H a o b = H b := by unfold upd; rw [if_neg h]
theorem upd_upd {H : Hp} {a : Addr} {o u : HO} : upd (upd H a o) a u = upd H a u := by
  funext b; unfold upd; split <;> rfl
theorem ne_of {H : Hp} {a b : Addr} {o u : HO} (h : H a = some o) (h' : H b = some u) (d : o ≠ u) : a ≠ b := by
  intro e; subst e; rw [h] at h'; exact d (Option.some.inj h')
theorem ne_of_none {H : Hp} {a b : Addr} {o : HO} (h : H a = some o) (h' : H b = none) : a ≠ b := by
  intro e; subst e; rw [h] at h'; cases h'
section
variable (P : Program) (w : World)
def ObjOk (H : Hp) (h : Heap) (a : Addr) : HO → Prop
  | .lst xs => xs.length ≤ sizeLine ∧ ∃ (its : List Value) (n : Nat), Vals xs its ∧ h.get? a = some { cls := .type "list", data := .seq its.toArray n }
  | .tup xs => xs.length ≤ sizeLine ∧ (∃ its : List Value, Vals xs its ∧ IsTup h a its.toArray) ∧ ∃ o, h.get? a = some o ∧ o.dict = none
  | .dK kvs => kvs.length ≤ sizeLine ∧ (a == sysModules) = false ∧ ∃ vs, KV kvs vs ∧ h.DictOf (mixKind P w) a vs
  | .dT kvs => kvs.length ≤ sizeLine ∧ (a == sysModules) = false ∧ ∃ xs : List (List Key × Addr × Value),
      Paired (fun (p : List Key × V) (q : List Key × Addr × Value) => p.1 = q.1 ∧ H q.2.1 = some (.tup (p.1.map kV)) ∧ RelV p.2 q.2.2) kvs xs ∧
      ∃ o es ep, h.get? a = some o ∧ o.ExactDict ∧ o.data = .dict es ep ∧ es.toList = xs.map (entryOfKey (tupleKind (mixKind P w))) ∧ (xs.map (·.1)).Nodup
  | .set S n => h.SetOf (intKind P w) a S n
  | .ins C dx fs => H dx = some (.own a) ∧ fs.length ≤ 1000 ∧ dx ≠ a ∧ h.get? a = some (PySem.W.instObj C dx) ∧
      ∃ mA, h.Ns1 dx mA ∧ (∀ f, RelO (fs.lookup f) (mA f)) ∧ PySem.Within mA (fs.map (·.1))
  | .own _ => ∃ o, h.get? a = some o
  | .xd fs => ∃ mA, h.Ns1 a mA ∧ ∀ f, RelO (fs.lookup f) (mA f)
  | .rng lo hi => ∃ t u v, h.get? a = some { cls := .type "range", data := .fields #[.int lo t, .int hi u, .int 1 v] }
  | .frz o u => h.get? a = some o ∧ ObjOk H h a u
  | .tbl ps => h.get? a = some { cls := .none, data := .fields ps }
  | .met f x => h.get? a = some (PySem.W.methodObj (.ref f) (.ref x))
  | .ext φ => φ h ∧ (∃ o, h.get? a = some o) ∧ ∀ h1 h2 : Heap, φ h1 → (∀ o, h1.get? a = some o → h2.get? a = some o) → φ h2
def HOk (H : Hp) (h : Heap) : Prop := ∀ a o, H a = some o → ObjOk P w H h a o
end
section
variable {P : Program} {w : World} {H H' : Hp} {h h' : Heap} {a : Addr} {o : HO}
theorem ObjOk.lt (x : ObjOk P w H h a o) : a < h.objs.size := by
  cases o with
  | lst xs => obtain ⟨_, _, _, _, e⟩ := x; exact Heap.lt_size e
  | tup xs => obtain ⟨_, ⟨_, _, p⟩, _⟩ := x; exact p.lt
  | dK kvs => obtain ⟨_, _, _, _, o, _, _, e, _⟩ := x; exact Heap.lt_size e
  | dT kvs => obtain ⟨_, _, _, _, o, _, _, e, _⟩ := x; exact Heap.lt_size e
  | set S n => obtain ⟨o, _, _, _, e, _⟩ := x; exact Heap.lt_size e
  | ins C dx fs => obtain ⟨_, _, _, e, _⟩ := x; exact Heap.lt_size e
  | own y => obtain ⟨_, e⟩ := x; exact Heap.lt_size e
  | xd fs => obtain ⟨_, ⟨_, _, _, e, _⟩, _⟩ := x; exact Heap.lt_size e
  | rng lo hi => obtain ⟨_, _, _, e⟩ := x; exact Heap.lt_size e
  | frz ob u => obtain ⟨e, _⟩ := x; exact Heap.lt_size e
  | tbl ps => exact Heap.lt_size (show h.get? a = some _ from x)
  | met f y => exact Heap.lt_size (show h.get? a = some _ from x)
  | ext φ => obtain ⟨_, ⟨_, e⟩, _⟩ := x; exact Heap.lt_size e
theorem Paired.mapP {α β : Type} {F G : α → β → Prop} : ∀ {l₁ : List α} {l₂ : List β}, Paired F l₁ l₂ → (∀ a b, F a b → G a b) → Paired G l₁ l₂
  | _, _, .nil, _ => .nil
  | _, _, .cons r t, f => .cons (f _ _ r) (Paired.mapP t f)
theorem ObjOk.stay (x : ObjOk P w H h a o) (k : ∀ b u, (b = a ∨ H b = some (.own a)) → h.get? b = some u → h'.get? b = some u)
    (ho : ∀ b, H b = some (.own a) → H' b = some (.own a)) (ht : ∀ b xs, H b = some (.tup xs) → H' b = some (.tup xs)) : ObjOk P w H' h' a o := by
  induction o with
  | lst xs => obtain ⟨z, its, n, r, e⟩ := x; exact ⟨z, its, n, r, k _ _ (.inl rfl) e⟩
  | tup xs => obtain ⟨z, ⟨its, r, ob, e, c⟩, od, e2, c2⟩ := x; exact ⟨z, ⟨its, r, ob, k _ _ (.inl rfl) e, c⟩, od, k _ _ (.inl rfl) e2, c2⟩
  | dK kvs => obtain ⟨z, y, vs, r, ob, es, ep, e, c⟩ := x; exact ⟨z, y, vs, r, ob, es, ep, k _ _ (.inl rfl) e, c⟩
  | dT kvs =>
    obtain ⟨z, y, xs, r, ob, es, ep, e, c⟩ := x
    exact ⟨z, y, xs, Paired.mapP r fun p q z => ⟨z.1, ht _ _ z.2.1, z.2.2⟩, ob, es, ep, k _ _ (.inl rfl) e, c⟩
  | set S n => obtain ⟨ob, es, ep, t, e, c⟩ := x; exact ⟨ob, es, ep, t, k _ _ (.inl rfl) e, c⟩
  | ins C dx fs =>
    obtain ⟨d, z, ne, e, mA, ⟨od, es, ep, e2, c⟩, r⟩ := x
    exact ⟨ho _ d, z, ne, k _ _ (.inl rfl) e, mA, ⟨od, es, ep, k _ _ (.inr d) e2, c⟩, r⟩
  | own y => obtain ⟨ob, e⟩ := x; exact ⟨ob, k _ _ (.inl rfl) e⟩
  | xd fs => obtain ⟨mA, ⟨od, es, ep, e, c⟩, r⟩ := x; exact ⟨mA, ⟨od, es, ep, k _ _ (.inl rfl) e, c⟩, r⟩
  | rng lo hi => obtain ⟨t, u, v, e⟩ := x; exact ⟨t, u, v, k _ _ (.inl rfl) e⟩
  | frz ob u ih => obtain ⟨e, q⟩ := x; exact ⟨k _ _ (.inl rfl) e, ih q⟩
  | tbl ps =>
    have e : h.get? a = some { cls := .none, data := .fields ps } := x
    show h'.get? a = some { cls := .none, data := .fields ps }
    exact k a _ (.inl rfl) e
  | met f y =>
    have e : h.get? a = some (PySem.W.methodObj (.ref f) (.ref y)) := x
    show h'.get? a = some (PySem.W.methodObj (.ref f) (.ref y))
    exact k a _ (.inl rfl) e
  | ext φ => obtain ⟨p, ⟨o, e⟩, st⟩ := x; exact ⟨st _ _ p fun o q => k _ _ (.inl rfl) q, ⟨o, k _ _ (.inl rfl) e⟩, st⟩
theorem HOk.lt (x : HOk P w H h) (e : H a = some o) : a < h.objs.size := (x a o e).lt
theorem HOk.fresh (x : HOk P w H h) (e : h.objs.size ≤ a) : H a = none := by
  cases q : H a with
  | none => rfl
  | some u => exact absurd (Nat.lt_of_lt_of_le (x.lt q) e) (Nat.lt_irrefl _)
theorem HOk.kept (x : HOk P w H h) (k : ∀ b u, h.get? b = some u → h'.get? b = some u) : HOk P w H h' := fun a o e =>
  (x a o e).stay (fun b u _ q => k b u q) (fun _ q => q) fun _ _ q => q
theorem HOk.laid (x : HOk P w H h) (k : ∀ b u, h.get? b = some u → h'.get? b = some u) (hp : h.objs.size ≤ a) (new : ObjOk P w (upd H a o) h' a o) : HOk P w (upd H a o) h' := fun b u e => by
  have hn := x.fresh hp
  by_cases hb : b = a
  · subst hb; rw [upd_same] at e; cases e; exact new
  · rw [upd_ne hb] at e
    exact (x b u e).stay (fun c v _ q => k c v q) (fun c q => by rw [upd_ne (ne_of_none q hn)]; exact q) fun c xs q => by rw [upd_ne (ne_of_none q hn)]; exact q
end
def Rd (H : Hp) (a : Addr) (u : HO) : Prop := H a = some u ∨ ∃ o, H a = some (.frz o u)
theorem Rd.of {H : Hp} {a : Addr} {u : HO} (h : H a = some u) : Rd H a u := .inl h
theorem Rd.ok {P : Program} {w : World} {H : Hp} {h : Heap} {a : Addr} {u : HO} (r : Rd H a u) (x : HOk P w H h) : ObjOk P w H h a u := by
  rcases r with r | ⟨o, r⟩
  · exact x a u r
  · obtain ⟨_, q⟩ := x a _ r
    exact q
def Mut : Option HO → Prop
  | some (.lst _) => True
  | some (.dK _) => True
  | some (.dT _) => True
  | some (.set _ _) => True
  | some (.ins _ _ _) => True
  | some (.ext _) => True
  | _ => False
section
variable {P : Program} {w : World} {H : Hp} {h h' : Heap} {x e : Addr} {o' : HO}
theorem HOk.write (ok : HOk P w H h) (mu : Mut (H x)) (he : e = x ∨ H e = some (.own x)) (k : ∀ b u, b ≠ e → h.get? b = some u → h'.get? b = some u) (heo : ∃ u, h'.get? e = some u)
    (new : ObjOk P w (upd H x o') h' x o') : HOk P w (upd H x o') h' := fun b u q => by
  have nown : ∀ c y, H c = some (.own y) → c ≠ x := fun c y r z => by subst z; rw [r] at mu; exact mu
  have ntup : ∀ c xs, H c = some (.tup xs) → c ≠ x := fun c xs r z => by subst z; rw [r] at mu; exact mu
  by_cases hb : b = x
  · subst hb; rw [upd_same] at q; cases q; exact new
  · rw [upd_ne hb] at q
    by_cases hbe : b = e
    · have q' : H b = some (.own x) := by
        rcases he with z | z
        · exact absurd (hbe.trans z) hb
        · rw [hbe]; exact z
      rw [q] at q'; cases q'
      obtain ⟨v, hv⟩ := heo
      exact ⟨v, by rw [hbe]; exact hv⟩
    · refine (ok b u q).stay (fun c v hc r => k c v ?_ r) (fun c r => by rw [upd_ne (nown c b r)]; exact r) fun c xs r => by rw [upd_ne (ntup c xs r)]; exact r
      rcases hc with rfl | hc
      · exact hbe
      · rintro rfl
        rcases he with z | z
        · exact nown c b hc z
        · rw [hc] at z; cases z; exact hb rfl
end
structure Un (fs ex : List Addr) (H H' : Hp) (h h' : Heap) : Prop where
  keep : ∀ b o, h.get? b = some o → H b = none → b ∉ fs → b ∉ ex → h'.get? b = some o
  slot : ∀ b o, h.get? b = some o → H b = none → b ∈ fs → b ∉ ex → ∃ sl, h'.get? b = some { o with slots := sl }
  free : ∀ b o, h.get? b = some o → H b = none → b ∉ ex → H' b = none
  there : ∀ b o, h.get? b = some o → b ∉ ex → ∃ o', h'.get? b = some o'
  tups : ∀ b xs, H b = some (.tup xs) → H' b = some (.tup xs)
  frzs : ∀ b o u, H b = some (.frz o u) → H' b = some (.frz o u)
  tbls : ∀ b ps, H b = some (.tbl ps) → ∃ more, H' b = some (.tbl (ps ++ more))
section
variable {fs fs' ex ex' : List Addr} {H H1 H2 : Hp} {h h1 h2 h' : Heap} {a x e : Addr} {o : HO}
theorem Un.any (u : Un fs ex H H1 h h1) {b : Addr} {ob : Obj} (q : h.get? b = some ob) (n : H b = none) (hx : b ∉ ex) : ∃ sl, h1.get? b = some { ob with slots := sl } := by
  by_cases hb : b ∈ fs
  · exact u.slot b ob q n hb hx
  · exact ⟨ob.slots, u.keep b ob q n hb hx⟩
theorem Un.trans (a : Un fs ex H H1 h h1) (b : Un fs ex H1 H2 h1 h2) : Un fs ex H H2 h h2 where
  keep := fun c ob q n hc hx => b.keep c ob (a.keep c ob q n hc hx) (a.free c ob q n hx) hc hx
  slot := fun c ob q n hc hx => by
    obtain ⟨sl, e1⟩ := a.slot c ob q n hc hx
    obtain ⟨sl', e2⟩ := b.slot c _ e1 (a.free c ob q n hx) hc hx
    exact ⟨sl', e2⟩
  free := fun c ob q n hx => by
    obtain ⟨o', e1⟩ := a.there c ob q hx
    exact b.free c o' e1 (a.free c ob q n hx) hx
  there := fun c ob q hx => by
    obtain ⟨o', e1⟩ := a.there c ob q hx
    exact b.there c o' e1 hx
  tups := fun c xs q => b.tups c xs (a.tups c xs q)
  frzs := fun c ob xs q => b.frzs c ob xs (a.frzs c ob xs q)
  tbls := fun c ps q => by
    obtain ⟨m1, e1⟩ := a.tbls c ps q
    obtain ⟨m2, e2⟩ := b.tbls c _ e1
    exact ⟨m1 ++ m2, by rw [e2, Array.append_assoc]⟩
theorem Un.kept (k : ∀ b u, h.get? b = some u → h'.get? b = some u) : Un fs ex H H h h' :=
  ⟨fun b ob q _ _ _ => k b ob q, fun b ob q _ _ _ => ⟨ob.slots, k b ob q⟩, fun _ _ _ n _ => n, fun b ob q _ => ⟨ob, k b ob q⟩, fun _ _ q => q, fun _ _ _ q => q, fun _ ps q => ⟨#[], by rw [q]; simp⟩⟩
theorem Un.refl : Un fs ex H H h h := Un.kept fun _ _ q => q
theorem Un.laid (k : ∀ b u, h.get? b = some u → h'.get? b = some u) (hp : h.objs.size ≤ a) (hn : H a = none) : Un fs ex H (upd H a o) h h' where
  keep := fun b u q _ _ _ => k b u q
  slot := fun b u q _ _ _ => ⟨u.slots, k b u q⟩
  free := fun b u q n _ => by rw [upd_ne (Nat.ne_of_lt (Nat.lt_of_lt_of_le (Heap.lt_size q) hp))]; exact n
  there := fun b u q _ => ⟨u, k b u q⟩
  tups := fun b xs q => by rw [upd_ne (ne_of_none q hn)]; exact q
  frzs := fun b u xs q => by rw [upd_ne (ne_of_none q hn)]; exact q
  tbls := fun b ps q => ⟨#[], by rw [upd_ne (ne_of_none q hn), q]; simp⟩
theorem Un.write (mu : Mut (H x)) (he : e = x ∨ H e = some (.own x)) (k : ∀ b u, b ≠ e → h.get? b = some u → h'.get? b = some u) (heo : ∃ u, h'.get? e = some u) : Un fs ex H (upd H x o) h h' := by
  have hx : ∀ b, H b = none → b ≠ x := fun b n z => by subst z; rw [n] at mu; exact mu
  have hb : ∀ b, H b = none → b ≠ e := fun b n z => by
    subst z
    rcases he with r | r
    · exact hx b n r
    · rw [n] at r; cases r
  have hm : ∀ b u, H b = some u → ¬ Mut (some u) → b ≠ x := fun b u q nm z => by subst z; rw [q] at mu; exact nm mu
  refine ⟨fun b u q n _ _ => k b u (hb b n) q, fun b u q n _ _ => ⟨u.slots, k b u (hb b n) q⟩, fun b u q n _ => by rw [upd_ne (hx b n)]; exact n, fun b u q _ => ?_,
    fun b xs q => by rw [upd_ne (hm b _ q fun z => z)]; exact q, fun b u xs q => by rw [upd_ne (hm b _ q fun z => z)]; exact q, fun b ps q => ⟨#[], by rw [upd_ne (hm b _ q fun z => z), q]; simp⟩⟩
  by_cases hbe : b = e
  · subst hbe; exact heo
  · exact ⟨u, k b u hbe q⟩
theorem Un.mono (u : Un fs ex H H1 h h1) (hs : ∀ b ∈ fs, b ∈ fs') (hx : ∀ b ∈ ex, b ∈ ex') : Un fs' ex' H H1 h h1 :=
  ⟨fun b ob q n hb he => u.keep b ob q n (fun z => hb (hs b z)) fun z => he (hx b z), fun _ _ q n _ he => u.any q n fun z => he (hx _ z), fun b ob q n he => u.free b ob q n fun z => he (hx b z), fun b ob q he => u.there b ob q fun z => he (hx b z), u.tups, u.frzs, u.tbls⟩
end
def trk (h : Heap) (H : Hp) : List Addr := (List.range h.objs.size).filter fun a => (H a).isSome
def hidT (h : Heap) (H : Hp) : Heap := PySem.W.hideAll h (trk h H)
theorem hidT_size (h : Heap) (H : Hp) : (hidT h H).objs.size = h.objs.size := PySem.W.hideAll_size _ _
theorem hidT_get {h : Heap} {H : Hp} {b : Addr} {o : Obj} (e : h.get? b = some o) (n : H b = none) : (hidT h H).get? b = some o :=
  PySem.W.hideAll_get _ e fun hm => by
    have q : (H b).isSome = true := (List.mem_filter.mp hm).2
    rw [n] at q; simp at q
theorem of_hidT {h : Heap} {H : Hp} {b : Addr} {o : Obj} (e : (hidT h H).get? b = some o) : h.get? b = some o ∧ H b = none := by
  have e' : h.get? b = some o := PySem.W.of_hideAll (trk h H) e
  refine ⟨e', ?_⟩
  cases q : H b with
  | none => rfl
  | some x =>
    have hm : b ∈ trk h H := List.mem_filter.mpr ⟨List.mem_range.mpr (Heap.lt_size e'), by simp [q]⟩
    have z : (hidT h H).get? b = none := PySem.W.hideAll_none (trk h H) hm
    rw [z] at e; cases e
def allNews (g h : Heap) (L : Addr) : List (Addr × Obj) := (List.range h.objs.size).filterMap fun a => if a = L ∨ (g.get? a).isSome = true then none else (h.get? a).map fun o => (a, o)
def rest (g h : Heap) (L d : Addr) : List (Addr × Obj) := (allNews g h L).filter fun p => decide (p.1 ≠ d)
end L2
namespace L2
open PySem PySem.Spec PyProof.Rows
structure Mod (K : PySem.W.Frag) (mg : Str → Option Value) (base : Heap) : Prop where
  kin : K.In base
  glob : base.Ns mainGlobals mg
  blt : ∃ mb, base.Ns builtinsNs mb ∧ ∀ x : Str, x ≠ "__name__" → mb x = bootBuiltins x
  nolimit : base.NoLimit
structure Cx where
  prog : Program
  w : World
  K : PySem.W.Frag
  mg : Str → Option Value
  base : Heap
  A : Around
  N : List Str
  s₀ : Shared
  H₀ : Hp
  env : Env
  outer : List Env
  stack : List Env
  ex : List Addr
  fn : Str → Bool
  calm : Bool
  pn : List (Addr × Obj)
  xe : Value → Shared → Prop
def frs (l : List Env) : List Addr := l.filterMap (·.frame)
abbrev Cx.fs (X : Cx) : List Addr := frs X.outer
def Vis (sc : Scope) (x : Str) : Prop := sc.names.lookup x = some .local ∨ sc.names.lookup x = some .cell ∨ sc.names.lookup x = some .free
def Loc (sc : Scope) (x : Str) : Prop := sc.names.lookup x = some .local ∨ sc.names.lookup x = some .cell
def Look (env : Env) (h : Heap) (m : Str → Option Value) (x : Str) (u : Value) : Prop :=
  (env.kindOf x = some .local ∧ m x = some u) ∨ ((env.kindOf x = some .cell ∨ env.kindOf x = some .free) ∧ ∃ c, env.cells.lookup x = some c ∧ h.IsCell c (some u))
structure Cx.Ok (X : Cx) : Prop where
  mod : Mod X.K X.mg X.base
  kind : X.env.scope.kind = .function
  glob : X.env.globals = mainGlobals
  blt : X.env.builtins = builtinsNs
  above : X.s₀.heap.objs.size ≤ X.env.locals
  inj : ∀ x y c, X.env.cells.lookup x = some c → X.env.cells.lookup y = some c → x = y
  has : ∀ x, (X.env.kindOf x = some .cell ∨ X.env.kindOf x = some .free) → ∃ c, X.env.cells.lookup x = some c
  cab : ∀ x c, X.fn x = true → X.env.cells.lookup x = some c → X.s₀.heap.objs.size ≤ c
  hd : X.calm = true → X.A.handled = none
  frames : X.A.frames = some X.stack
  stk : X.stack = X.outer ∨ (X.stack = X.env :: X.outer ∧ X.env.frame = some X.env.locals)
  exf : ∀ b ∈ X.ex, b ≠ X.env.locals ∧ ∀ x c, X.env.cells.lookup x = some c → c ≠ b
  bs : ∀ b o, X.base.get? b = some o → X.s₀.heap.get? b = some o ∧ X.H₀ b = none
  bsz : X.base.objs.size ≤ X.s₀.heap.objs.size
  noex : ∀ b o, X.base.get? b = some o → b ∉ X.ex
  exfs : ∀ b ∈ X.ex, b ∉ X.fs
  funs : X.s₀.heap.FunFrames X.base X.outer
  frf : ∀ b ∈ X.fs, X.H₀ b = none
structure Inv (X : Cx) (pins : List (Addr × Obj)) (σ : List (Option V)) (H : Hp) (s : Shared) : Prop where
  ok : X.Ok
  os : s.os = X.s₀.os
  bare : AllBare s.gens
  base : Un X.fs X.ex X.H₀ H X.s₀.heap s.heap
  loc : ∃ m, s.heap.Ns X.env.locals m ∧ ∀ (i : Nat) (x : Str) (v : V), X.N[i]? = some x → σ[i]? = some (some v) → Vis X.env.scope x → ∃ u, RelV v u ∧ Look X.env s.heap m x u
  cell : ∀ x c, X.env.cells.lookup x = some c → ∃ v, s.heap.IsCell c v
  free : H X.env.locals = none
  freeC : ∀ x c, X.env.cells.lookup x = some c → H c = none
  pin : ∀ p ∈ X.pn ++ pins, s.heap.get? p.1 = some p.2 ∧ H p.1 = none ∧ p.1 ≠ X.env.locals ∧ p.1 ∉ X.fs ∧ ∀ v, p.2.data ≠ .cell v
  hok : HOk X.prog X.w H s.heap
  len : σ.length = X.N.length
section
variable {X : Cx} {pins : List (Addr × Obj)} {σ : List (Option V)} {H H' : Hp} {s : Shared} {h' : Heap}
theorem Cx.Ok.nofr (ok : X.Ok) {b : Addr} {o : Obj} (e : X.base.get? b = some o) : b ∉ X.fs := fun hb => by
  have := (ok.funs.mem hb).1
  rw [e] at this; cases this
theorem Inv.bs (I : Inv X pins σ H s) : ∀ b o, X.base.get? b = some o → s.heap.get? b = some o ∧ H b = none := fun b o e =>
  ⟨I.base.keep b o (I.ok.bs b o e).1 (I.ok.bs b o e).2 (I.ok.nofr e) (I.ok.noex b o e), I.base.free b o (I.ok.bs b o e).1 (I.ok.bs b o e).2 (I.ok.noex b o e)⟩
theorem Inv.bk (I : Inv X pins σ H s) : ∀ b o, X.base.get? b = some o → s.heap.get? b = some o := fun b o e => (I.bs b o e).1
theorem Inv.mod (I : Inv X pins σ H s) : Mod X.K X.mg X.base := I.ok.mod
theorem Inv.kIn (I : Inv X pins σ H s) : X.K.In s.heap := I.ok.mod.kin.keeps I.bk
theorem Inv.nolimit (I : Inv X pins σ H s) : s.heap.NoLimit := I.ok.mod.nolimit.keeps I.bk
theorem Inv.fr (I : Inv X pins σ H s) : ∃ m, Fr X.base X.env.locals s.heap m :=
  let ⟨m, hn, _⟩ := I.loc
  ⟨m, hn, I.bk, Nat.le_trans I.ok.bsz I.ok.above⟩
theorem Inv.lt (I : Inv X pins σ H s) : X.env.locals < s.heap.objs.size := let ⟨_, hn, _⟩ := I.loc; hn.lt
theorem Inv.sz (I : Inv X pins σ H s) : X.s₀.heap.objs.size ≤ s.heap.objs.size := Nat.le_trans I.ok.above (Nat.le_of_lt I.lt)
theorem Inv.nofs (I : Inv X pins σ H s) {a : Addr} (h : s.heap.objs.size ≤ a) : a ∉ X.fs := fun hb => by
  obtain ⟨_, o, ho, _⟩ := I.ok.funs.mem hb
  exact absurd (Nat.lt_of_lt_of_le (Heap.lt_size ho) (Nat.le_trans I.sz h)) (Nat.lt_irrefl _)
theorem Inv.cne (I : Inv X pins σ H s) : ∀ x c, X.env.cells.lookup x = some c → c ≠ X.env.locals := fun x c e z => by
  obtain ⟨v, o, ho, hd⟩ := I.cell x c e
  obtain ⟨m, ⟨o', es, ep, ho', hd', _⟩, _⟩ := I.loc
  rw [z, ho'] at ho; cases ho; rw [hd'] at hd; cases hd
theorem Inv.funs (I : Inv X pins σ H s) : s.heap.FunFrames X.base X.outer := by
  have all : ∀ (l : List Env), (∀ b ∈ frs l, b ∈ X.fs) → X.s₀.heap.FunFrames X.base l → s.heap.FunFrames X.base l := by
    intro l
    induction l with
    | nil => intro _ _; trivial
    | cons env r ih =>
      intro hs hl
      obtain ⟨hk, ⟨L, o, hf, hn, ho, hd⟩, hr⟩ := hl
      have hL : L ∈ X.fs := hs L (by unfold frs; rw [List.filterMap_cons, hf]; exact List.mem_cons_self)
      obtain ⟨sl, e⟩ := I.base.slot L o ho (I.ok.frf L hL) hL fun z => I.ok.exfs L z hL
      exact ⟨hk, ⟨L, _, hf, hn, e, hd⟩, ih (fun b hb => hs b (by unfold frs; rw [List.filterMap_cons, hf]; exact List.mem_cons_of_mem _ hb)) hr⟩
  exact all X.outer (fun _ hb => hb) I.ok.funs
theorem Inv.stack (I : Inv X pins σ H s) : s.heap.FunFrames X.base X.stack := by
  rcases I.ok.stk with e | ⟨e, hf⟩
  · rw [e]; exact I.funs
  · rw [e]
    obtain ⟨m, hn, _⟩ := I.loc
    refine .cons (by rw [I.ok.kind]; decide) hf hn ?_ I.funs
    exact Heap.get?_none_of_le (Nat.le_trans I.ok.bsz I.ok.above)
theorem Inv.stkSub (I : Inv X pins σ H s) : ∀ b ∈ frs X.stack, b ∈ X.env.locals :: X.fs := fun b hb => by
  rcases I.ok.stk with e | ⟨e, hf⟩
  · rw [e] at hb; exact List.mem_cons_of_mem _ hb
  · rw [e] at hb
    unfold frs at hb
    rw [List.filterMap_cons, hf] at hb
    exact hb
theorem Inv.stkFree (I : Inv X pins σ H s) : ∀ b ∈ frs X.stack, H b = none := fun b hb => by
  rcases List.mem_cons.mp (I.stkSub b hb) with e | hb
  · rw [e]; exact I.free
  · obtain ⟨_, o, ho, _⟩ := I.ok.funs.mem hb
    exact I.base.free b o ho (I.ok.frf b hb) fun z => I.ok.exfs b z hb
theorem Inv.step {g' : Array GenState} {t' : Nat} {d' : Drawn} {ch : List Addr} (I : Inv X pins σ H s)
    (hch : ∀ b ∈ ch, (b ∈ X.ex ∨ X.s₀.heap.objs.size ≤ b) ∧ b ≠ X.env.locals ∧ (∀ x c, X.env.cells.lookup x = some c → c ≠ b) ∧ ∀ p ∈ X.pn ++ pins, p.1 ≠ b)
    (keep : ∀ b o, b ≠ X.env.locals → b ∉ X.fs → b ∉ ch → s.heap.get? b = some o → H b = none → h'.get? b = some o)
    (slot : ∀ b o, b ≠ X.env.locals → b ∈ X.fs → b ∉ ch → s.heap.get? b = some o → H b = none → ∃ sl, h'.get? b = some { o with slots := sl }) (free : ∀ b o, b ∉ ch → s.heap.get? b = some o → H b = none → H' b = none)
    (there : ∀ b o, b ∉ ch → s.heap.get? b = some o → ∃ o', h'.get? b = some o')
    (tups : ∀ b xs, H b = some (.tup xs) → H' b = some (.tup xs)) (frzs : ∀ b o u, H b = some (.frz o u) → H' b = some (.frz o u)) (tbls : ∀ b ps, H b = some (.tbl ps) → ∃ more, H' b = some (.tbl (ps ++ more)))
    (ns : ∀ m, s.heap.Ns X.env.locals m → h'.Ns X.env.locals m) (hok : HOk X.prog X.w H' h') (hg : AllBare g') :
    Inv X pins σ H' { s with heap := h', gens := g', drawn := d', toks := t' } := by
  have neL : ∀ b o, X.s₀.heap.get? b = some o → b ≠ X.env.locals := fun b o e => Nat.ne_of_lt (Nat.lt_of_lt_of_le (Heap.lt_size e) I.ok.above)
  have neC : ∀ b o, X.s₀.heap.get? b = some o → b ∉ X.ex → b ∉ ch := fun b o e hx hb => by
    rcases (hch b hb).1 with z | z
    · exact hx z
    · exact absurd (Nat.lt_of_lt_of_le (Heap.lt_size e) z) (Nat.lt_irrefl _)
  have cellK : ∀ x c, X.env.cells.lookup x = some c → ∀ v, s.heap.IsCell c v → h'.IsCell c v := fun x c e v ⟨o, ho, hd⟩ => by
    have nch : c ∉ ch := fun z => (hch c z).2.2.1 x c e rfl
    by_cases hc : c ∈ X.fs
    · obtain ⟨sl, q⟩ := slot c o (I.cne x c e) hc nch ho (I.freeC x c e)
      exact ⟨_, q, hd⟩
    · exact ⟨o, keep c o (I.cne x c e) hc nch ho (I.freeC x c e), hd⟩
  refine ⟨I.ok, I.os, hg, ⟨fun b o e n hb hx => ?_, fun b o e n hb hx => ?_, fun b o e n hx => ?_, fun b o e hx => ?_, fun b xs e => tups b xs (I.base.tups b xs e), fun b o xs e => frzs b o xs (I.base.frzs b o xs e), fun b ps e => ?_⟩, ?_, fun x c e => ?_, ?_, fun x c e => ?_, fun p hp => ?_, hok, I.len⟩
  · exact keep b o (neL b o e) hb (neC b o e hx) (I.base.keep b o e n hb hx) (I.base.free b o e n hx)
  · obtain ⟨sl, e1⟩ := I.base.slot b o e n hb hx
    obtain ⟨sl', e2⟩ := slot b _ (neL b o e) hb (neC b o e hx) e1 (I.base.free b o e n hx)
    exact ⟨sl', e2⟩
  · obtain ⟨o', e1⟩ := I.base.there b o e hx
    exact free b o' (neC b o e hx) e1 (I.base.free b o e n hx)
  · obtain ⟨o', e1⟩ := I.base.there b o e hx
    exact there b o' (neC b o e hx) e1
  · obtain ⟨m1, e1⟩ := I.base.tbls b ps e
    obtain ⟨m2, e2⟩ := tbls b _ e1
    exact ⟨m1 ++ m2, by rw [e2, Array.append_assoc]⟩
  · obtain ⟨m, hn, hl⟩ := I.loc
    refine ⟨m, ns m hn, fun i x v e1 e2 e3 => ?_⟩
    obtain ⟨u, r, l⟩ := hl i x v e1 e2 e3
    refine ⟨u, r, ?_⟩
    rcases l with l | ⟨k, c, e, z⟩
    · exact .inl l
    · exact .inr ⟨k, c, e, cellK x c e _ z⟩
  · obtain ⟨v, z⟩ := I.cell x c e
    exact ⟨v, cellK x c e v z⟩
  · obtain ⟨m, ⟨o, _, _, ho, _⟩, _⟩ := I.loc
    exact free _ o (fun z => (hch _ z).2.1 rfl) ho I.free
  · obtain ⟨v, o, ho, hd⟩ := I.cell x c e
    exact free c o (fun z => (hch c z).2.2.1 x c e rfl) ho (I.freeC x c e)
  · obtain ⟨e, n, ne, nf, d⟩ := I.pin p hp
    have nch : p.1 ∉ ch := fun z => (hch p.1 z).2.2.2 p hp rfl
    exact ⟨keep p.1 p.2 ne nf nch e n, free p.1 p.2 nch e n, ne, nf, d⟩
theorem Inv.un {t' : Nat} (I : Inv X pins σ H s) (u : Un X.fs [] H H' s.heap h') (hok : HOk X.prog X.w H' h') : Inv X pins σ H' { s with heap := h', toks := t' } := by
  obtain ⟨m, ⟨o, es, ep, ho, r⟩, _⟩ := id I.loc
  obtain ⟨sl, hL⟩ := u.any ho I.free (by simp)
  exact I.step (g' := s.gens) (d' := s.drawn) (ch := []) (fun _ z => nomatch z) (fun b o _ hb _ e n => u.keep b o e n hb (by simp)) (fun b o _ hb _ e n => u.slot b o e n hb (by simp)) (fun b o _ e n => u.free b o e n (by simp)) (fun b o _ e => u.there b o e (by simp)) u.tups u.frzs u.tbls (fun m' hm => by
    obtain ⟨o', es', ep', ho', r'⟩ := hm
    rw [ho] at ho'; cases ho'
    exact ⟨_, es', ep', hL, r'⟩) hok I.bare
theorem Inv.call {g' : Array GenState} {t' : Nat} {d' : Drawn} {ch : List Addr} (I : Inv X pins σ H s) (u : Un (frs X.stack) ch H H' s.heap h') (hok : HOk X.prog X.w H' h') (hg : AllBare g')
    (hch : ∀ b ∈ ch, (b ∈ X.ex ∨ X.s₀.heap.objs.size ≤ b) ∧ b ≠ X.env.locals ∧ (∀ x c, X.env.cells.lookup x = some c → c ≠ b) ∧ ∀ p ∈ X.pn ++ pins, p.1 ≠ b) :
    Inv X pins σ H' { s with heap := h', gens := g', drawn := d', toks := t' } := by
  obtain ⟨m, ⟨o, es, ep, ho, r⟩, _⟩ := id I.loc
  obtain ⟨sl, hL⟩ := u.any ho I.free fun z => (hch _ z).2.1 rfl
  exact I.step (ch := ch) hch (fun b o hL hb hc e n => u.keep b o e n (fun z => (List.mem_cons.mp (I.stkSub b z)).elim hL hb) hc) (fun b o _ _ hc e n => u.any e n hc) (fun b o hc e n => u.free b o e n hc) (fun b o hc e => u.there b o e hc) u.tups u.frzs u.tbls (fun m' hm => by
    obtain ⟨o', es', ep', ho', r'⟩ := hm
    rw [ho] at ho'; cases ho'
    exact ⟨_, es', ep', hL, r'⟩) hok hg
theorem Inv.turned {t' : Nat} {it : Addr} (I : Inv X pins σ H s) (k : ∀ b o, b ≠ it → s.heap.get? b = some o → h'.get? b = some o) (hn : H it = none) (hL : it ≠ X.env.locals)
    (h1 : it ∈ X.ex ∨ X.s₀.heap.objs.size ≤ it) (h2 : ∀ x c, X.env.cells.lookup x = some c → c ≠ it) (h3 : ∀ p ∈ X.pn ++ pins, p.1 ≠ it) : Inv X pins σ H { s with heap := h', toks := t' } := by
  have nit : ∀ b u, H b = some u → b ≠ it := fun b u e z => by rw [z, hn] at e; cases e
  refine I.step (g' := s.gens) (d' := s.drawn) (ch := [it]) (fun b hb => ?_) (fun b o _ _ hc e _ => k b o (fun z => hc (by simp [z])) e) (fun b o _ _ hc e _ => ⟨o.slots, k b o (fun z => hc (by simp [z])) e⟩) (fun _ _ _ _ n => n)
    (fun b o hc e => ⟨o, k b o (fun z => hc (by simp [z])) e⟩) (fun _ _ e => e) (fun _ _ _ e => e) (fun b ps e => ⟨#[], by rw [e]; simp⟩) (fun m hm => ?_) (fun b u e => ?_) I.bare
  · have e : b = it := by simpa using hb
    subst e
    exact ⟨h1, hL, h2, h3⟩
  · obtain ⟨o, es, ep, ho, r⟩ := hm
    exact ⟨o, es, ep, k _ o (Ne.symm hL) ho, r⟩
  · refine (I.hok b u e).stay (fun c v hc q => k c v ?_ q) (fun _ q => q) fun _ _ q => q
    rcases hc with z | z
    · rw [z]; exact nit b u e
    · exact nit c _ z
theorem Inv.tok (I : Inv X pins σ H s) (t : Nat) : Inv X pins σ H { s with toks := t } := I.un (h' := s.heap) (t' := t) Un.refl I.hok
theorem Inv.kept {t' : Nat} (I : Inv X pins σ H s) (k : ∀ b u, s.heap.get? b = some u → h'.get? b = some u) : Inv X pins σ H { s with heap := h', toks := t' } := I.un (Un.kept k) (I.hok.kept k)
theorem Inv.laid {a : Addr} {o : HO} {t' : Nat} (I : Inv X pins σ H s) (k : ∀ b u, s.heap.get? b = some u → h'.get? b = some u) (hp : s.heap.objs.size ≤ a) (new : ObjOk X.prog X.w (upd H a o) h' a o) :
    Inv X pins σ (upd H a o) { s with heap := h', toks := t' } := I.un (Un.laid k hp (I.hok.fresh hp)) (I.hok.laid k hp new)
theorem Inv.write {x e : Addr} {o : HO} {t' : Nat} (I : Inv X pins σ H s) (mu : Mut (H x)) (he : e = x ∨ H e = some (.own x)) (k : ∀ b u, b ≠ e → s.heap.get? b = some u → h'.get? b = some u) (heo : ∃ u, h'.get? e = some u)
    (new : ObjOk X.prog X.w (upd H x o) h' x o) : Inv X pins σ (upd H x o) { s with heap := h', toks := t' } := I.un (Un.write mu he k heo) (I.hok.write mu he k heo new)
theorem Inv.weak {σ' : List (Option V)} (I : Inv X pins σ H s) (hl : σ'.length = σ.length) (w : ∀ (i : Nat) v, σ'[i]? = some (some v) → σ[i]? = some (some v)) : Inv X pins σ' H s :=
  ⟨I.ok, I.os, I.bare, I.base, let ⟨m, hn, hl'⟩ := I.loc; ⟨m, hn, fun i x v e1 e2 e3 => hl' i x v e1 (w i v e2) e3⟩, I.cell, I.free, I.freeC, I.pin, I.hok, hl.trans I.len⟩
theorem Inv.pins_of {pins' : List (Addr × Obj)} (I : Inv X pins σ H s) (h : ∀ p ∈ pins', s.heap.get? p.1 = some p.2 ∧ H p.1 = none ∧ p.1 ≠ X.env.locals ∧ p.1 ∉ X.fs ∧ ∀ v, p.2.data ≠ .cell v) : Inv X pins' σ H s :=
  ⟨I.ok, I.os, I.bare, I.base, I.loc, I.cell, I.free, I.freeC, fun p hp => (List.mem_append.mp hp).elim (fun z => I.pin p (List.mem_append_left _ z)) (h p), I.hok, I.len⟩
theorem nodup_ix {N : List Str} (hN : N.Nodup) {i j : Nat} {x : Str} (a : N[i]? = some x) (b : N[j]? = some x) : i = j := by
  obtain ⟨h1, e1⟩ := List.getElem?_eq_some_iff.mp a
  obtain ⟨h2, e2⟩ := List.getElem?_eq_some_iff.mp b
  exact (List.getElem_inj hN).mp (e1.trans e2.symm)
theorem store_ok2 {M : Model} {A : Around} {E : Value → Shared → Prop} {i : Nat} {x : Str} {v : V} {u : Value} {Q : Unit → Shared → Prop} (I : Inv X pins σ H s) (hN : X.N.Nodup) (hi : X.N[i]? = some x) (hx : Loc X.env.scope x) (r : RelV v u)
    (h : ∀ s', Inv X pins (σ.set i (some v)) H s' → (∃ a, Heap.SameBut a s.heap s'.heap ∧ (a = X.env.locals ∨ X.env.cells.lookup x = some a)) → Q () s') (hf : X.fn x = true ∨ X.env.scope.names.lookup x = some .local := by first | exact .inl rfl | exact .inr rfl | assumption) : wpAny M A (storeName X.env x u) Q E s := by
  obtain ⟨m, hn, hl⟩ := id I.loc
  have hcls : (X.env.scope.kind == .class || (X.env.scope.kind == .module && X.env.locals != X.env.globals)) = false := by rw [I.ok.kind]; rfl
  have hiσ : i < σ.length := by rw [I.len]; exact (List.getElem?_eq_some_iff.mp hi).1
  have cne := I.cne
  have tracked : ∀ {a : Addr} {h' : Heap}, (∃ o, s.heap.get? a = some o ∧ H a = none) → Heap.SameBut a s.heap h' → HOk X.prog X.w H h' := fun {a h'} ha hs b ob e => by
    obtain ⟨_, _, hfree⟩ := ha
    refine (I.hok b ob e).stay (fun c w' hc q => (hs.2 c ?_).trans q) (fun _ q => q) fun _ _ q => q
    rintro rfl
    rcases hc with rfl | hc
    · rw [hfree] at e; cases e
    · rw [hfree] at hc; cases hc
  rcases hx with hk | hk
  · refine wpAny_storeName_local hk hn (fun h' hn' hs => ?_) hcls
    obtain ⟨oL, _, _, hoL, _⟩ := id hn
    refine h _ ⟨I.ok, I.os, I.bare, ⟨fun b o e n hb hx => ?_, fun b o e n hb hx => ?_, I.base.free, fun b o e hx => ?_, I.base.tups, I.base.frzs, I.base.tbls⟩, ⟨_, hn', fun j y v' e1 e2 e3 => ?_⟩, fun y c e => ?_, I.free, I.freeC, fun p hp => ?_, tracked ⟨oL, hoL, I.free⟩ hs, by simpa using I.len⟩ ⟨_, hs, .inl rfl⟩
    · exact (hs.2 b (Nat.ne_of_lt (Nat.lt_of_lt_of_le (Heap.lt_size e) I.ok.above))).trans (I.base.keep b o e n hb hx)
    · obtain ⟨sl, e1⟩ := I.base.slot b o e n hb hx
      exact ⟨sl, (hs.2 b (Nat.ne_of_lt (Nat.lt_of_lt_of_le (Heap.lt_size e) I.ok.above))).trans e1⟩
    · obtain ⟨o', e1⟩ := I.base.there b o e hx
      exact ⟨o', (hs.2 b (Nat.ne_of_lt (Nat.lt_of_lt_of_le (Heap.lt_size e) I.ok.above))).trans e1⟩
    · by_cases hj : j = i
      · subst hj
        rw [hi] at e1; cases e1
        rw [List.getElem?_set_self hiσ] at e2
        cases e2
        exact ⟨u, r, .inl ⟨hk, by simp⟩⟩
      · rw [List.getElem?_set_ne (Ne.symm hj)] at e2
        obtain ⟨u', r', q⟩ := hl j y v' e1 e2 e3
        refine ⟨u', r', ?_⟩
        rcases q with ⟨k, e⟩ | ⟨k, c, e, z⟩
        · refine .inl ⟨k, ?_⟩
          have : y ≠ x := fun e => hj (nodup_ix hN e1 (e ▸ hi))
          simp [this, e]
        · exact .inr ⟨k, c, e, z.sameBut hs (cne y c e)⟩
    · obtain ⟨w', z⟩ := I.cell y c e
      exact ⟨w', z.sameBut hs (cne y c e)⟩
    · obtain ⟨e, n, ne, nf, d⟩ := I.pin p hp
      exact ⟨(hs.2 p.1 ne).trans e, n, ne, nf, d⟩
  · have hfn : X.fn x = true := by
      rcases hf with z | z
      · exact z
      · rw [z] at hk; cases hk
    obtain ⟨c, hc⟩ := I.ok.has x (.inl hk)
    obtain ⟨w', z⟩ := I.cell x c hc
    refine wpAny_storeName_cell I.ok.kind hk hc z (fun h' hc' hs => ?_)
    obtain ⟨oc, hoc, hocd⟩ := id z
    refine h { s with heap := h' } ⟨I.ok, I.os, I.bare, ⟨fun b o e n hb hx => ?_, fun b o e n hb hx => ?_, I.base.free, fun b o e hx => ?_, I.base.tups, I.base.frzs, I.base.tbls⟩, ⟨m, hn.sameBut hs (Ne.symm (cne x c hc)), fun j y v' e1 e2 e3 => ?_⟩, fun y c' e => ?_, I.free, I.freeC, fun p hp => ?_, tracked ⟨oc, hoc, I.freeC x c hc⟩ hs, by simpa using I.len⟩ ⟨c, hs, .inr hc⟩
    · exact (hs.2 b (Nat.ne_of_lt (Nat.lt_of_lt_of_le (Heap.lt_size e) (I.ok.cab x c hfn hc)))).trans (I.base.keep b o e n hb hx)
    · obtain ⟨sl, e1⟩ := I.base.slot b o e n hb hx
      exact ⟨sl, (hs.2 b (Nat.ne_of_lt (Nat.lt_of_lt_of_le (Heap.lt_size e) (I.ok.cab x c hfn hc)))).trans e1⟩
    · obtain ⟨o', e1⟩ := I.base.there b o e hx
      exact ⟨o', (hs.2 b (Nat.ne_of_lt (Nat.lt_of_lt_of_le (Heap.lt_size e) (I.ok.cab x c hfn hc)))).trans e1⟩
    · by_cases hj : j = i
      · subst hj
        rw [hi] at e1; cases e1
        rw [List.getElem?_set_self hiσ] at e2
        cases e2
        exact ⟨u, r, .inr ⟨.inl hk, c, hc, hc'⟩⟩
      · rw [List.getElem?_set_ne (Ne.symm hj)] at e2
        obtain ⟨u', r', q⟩ := hl j y v' e1 e2 e3
        refine ⟨u', r', ?_⟩
        rcases q with q | ⟨k, c', e, z'⟩
        · exact .inl q
        · refine .inr ⟨k, c', e, z'.sameBut hs ?_⟩
          rintro rfl
          exact hj (nodup_ix hN e1 (I.ok.inj _ _ _ e hc ▸ hi))
    · by_cases hcc : c' = c
      · subst hcc; exact ⟨_, hc'⟩
      · obtain ⟨w2, z2⟩ := I.cell y c' e
        exact ⟨w2, z2.sameBut hs hcc⟩
    · obtain ⟨e, n, ne, nf, d⟩ := I.pin p hp
      refine ⟨(hs.2 p.1 ?_).trans e, n, ne, nf, d⟩
      intro q
      rw [q, hoc] at e
      have q' : oc = p.2 := Option.some.inj e
      exact d w' (by rw [← q']; exact hocd)
theorem store_ok {M : Model} {A : Around} {E : Value → Shared → Prop} {i : Nat} {x : Str} {v : V} {u : Value} {Q : Unit → Shared → Prop} (I : Inv X pins σ H s) (hN : X.N.Nodup) (hi : X.N[i]? = some x) (hx : Loc X.env.scope x) (r : RelV v u)
    (h : ∀ s', Inv X pins (σ.set i (some v)) H s' → Q () s') (hf : X.fn x = true ∨ X.env.scope.names.lookup x = some .local := by first | exact .inl rfl | exact .inr rfl | assumption) : wpAny M A (storeName X.env x u) Q E s :=
  store_ok2 I hN hi hx r (fun s' I' _ => h s' I') hf
theorem Inv.call' {s' : Shared} {ch : List Addr} (I : Inv X pins σ H s) (ho : s'.os = s.os) (u : Un (frs X.stack) ch H H' s.heap s'.heap) (hok : HOk X.prog X.w H' s'.heap) (hg : AllBare s'.gens)
    (hch : ∀ b ∈ ch, (b ∈ X.ex ∨ X.s₀.heap.objs.size ≤ b) ∧ b ≠ X.env.locals ∧ (∀ x c, X.env.cells.lookup x = some c → c ≠ b) ∧ ∀ p ∈ X.pn ++ pins, p.1 ≠ b) : Inv X pins σ H' s' := by
  obtain ⟨h', g', d', t', o'⟩ := s'
  have e : o' = s.os := ho
  subst e
  exact I.call (g' := g') (t' := t') (d' := d') u hok hg hch
end
abbrev XK := Value → Option Addr → Hp → Prop
abbrev St := List (Option V)
abbrev VK := V → Hp → Prop
abbrev TE := St → Hp → VK → Prop
abbrev TT := St → Hp → (Bool → Hp → Prop) → Prop
abbrev TA := St → Hp → (List V → Hp → Prop) → Prop
structure Ends where
  nx : St → Hp → Prop
  rt : VK
  bk : St → Hp → Prop := fun _ _ => False
  ct : St → Hp → Prop := fun _ _ => False
abbrev TS := Ends → St → Hp → Prop
def EP (X : Cx) (pins : List (Addr × Obj)) (σ : St) (Q : VK) (u : Value) (s' : Shared) : Prop := ∃ v H', Inv X pins σ H' s' ∧ RelV v u ∧ Q v H'
def TP (X : Cx) (pins : List (Addr × Obj)) (σ : St) (Q : Bool → Hp → Prop) (b : Bool) (s' : Shared) : Prop := ∃ H', Inv X pins σ H' s' ∧ Q b H'
def AP (X : Cx) (pins : List (Addr × Obj)) (σ : St) (Q : List V → Hp → Prop) (us : List Value) (s' : Shared) : Prop := ∃ vs H', Inv X pins σ H' s' ∧ Vals vs us ∧ Q vs H'
def SP (X : Cx) (pins : List (Addr × Obj)) (D : Ends) (f : Flow) (s' : Shared) : Prop :=
  match f with
  | .next => ∃ σ' H', Inv X pins σ' H' s' ∧ D.nx σ' H'
  | .brk => ∃ σ' H', Inv X pins σ' H' s' ∧ D.bk σ' H'
  | .cont => ∃ σ' H', Inv X pins σ' H' s' ∧ D.ct σ' H'
  | .ret u => ∃ v σ' H', Inv X pins σ' H' s' ∧ RelV v u ∧ D.rt v H'
def PE (X : Cx) (e : Expr) (t : TE) : Prop :=
  ∀ (pins : List (Addr × Obj)) (s : Shared) (σ : St) (H : Hp) (Q : VK), Inv X pins σ H s → t σ H Q → wpAny (model X.prog X.w) X.A (eval e X.env) (EP X pins σ Q) X.xe s
def PT (X : Cx) (e : Expr) (t : TT) : Prop :=
  ∀ (pins : List (Addr × Obj)) (s : Shared) (σ : St) (H : Hp) (Q : Bool → Hp → Prop), Inv X pins σ H s → t σ H Q → wpAny (model X.prog X.w) X.A (isTrue e X.env (eval e X.env)) (TP X pins σ Q) X.xe s
def PW (X : Cx) (e : Expr) (t : TT) : Prop :=
  ∀ (whole : Sem Value) (pins : List (Addr × Obj)) (s : Shared) (σ : St) (H : Hp) (Q : Bool → Hp → Prop), Inv X pins σ H s → t σ H Q → wpAny (model X.prog X.w) X.A (isTrue e X.env whole) (TP X pins σ Q) X.xe s
theorem PW.pt {X : Cx} {e : Expr} {t : TT} (h : PW X e t) : PT X e t := h _
def PA (X : Cx) (es : List Expr) (t : TA) : Prop :=
  ∀ (pos : Pos) (pins : List (Addr × Obj)) (s : Shared) (σ : St) (H : Hp) (Q : List V → Hp → Prop), Inv X pins σ H s → t σ H Q → wpAny (model X.prog X.w) X.A (spliced (backTo pos (starEach es X.env))) (AP X pins σ Q) X.xe s
def PS (X : Cx) (st : Stmt) (t : TS) : Prop :=
  ∀ (pins : List (Addr × Obj)) (s : Shared) (σ : St) (H : Hp) (D : Ends), Inv X pins σ H s → t D σ H → wpAny (model X.prog X.w) X.A (exec st X.env) (SP X pins D) X.xe s
def PSs (X : Cx) (st : List Stmt) (t : TS) : Prop :=
  ∀ (pins : List (Addr × Obj)) (s : Shared) (σ : St) (H : Hp) (D : Ends), Inv X pins σ H s → t D σ H → wpAny (model X.prog X.w) X.A (execs st X.env) (SP X pins D) X.xe s
theorem thn {α : Type} {t : Sem α} {Q Q' : α → Shared → Prop} {M : Model} {A : Around} {E : Value → Shared → Prop} {s : Shared} (h : wpAny M A t Q E s) (hQ : ∀ a s, Q a s → Q' a s) : wpAny M A t Q' E s := wpAny_mono h hQ fun _ _ x => x
end L2
namespace L2
open PySem PySem.Spec PyProof.Rows
section
variable {X : Cx}
def tVar (i : Nat) : TE := fun σ H Q => ∃ v, σ[i]? = some (some v) ∧ Q v H
def tC (v : V) : TE := fun _ H Q => Q v H
theorem pe_var {i : Nat} {x : Str} {pos : Pos} (hN : X.N[i]? = some x) (hv : Vis X.env.scope x) (hd : (x == ("__debug__" : Str)) = false := by decide) (hcd : (x == ("__classdict__" : Str)) = false := by decide) : PE X (.Name x pos) (tVar i) := by
  intro pins s σ H Q I h
  obtain ⟨v, e, h⟩ := h
  obtain ⟨m, hn, hl⟩ := I.loc
  obtain ⟨u, r, l⟩ := hl i x v hN e hv
  have fin : EP X pins σ Q u s := ⟨v, H, I, r, h⟩
  rcases l with ⟨hk, hm⟩ | ⟨hk, c, hc, hcell⟩
  · exact wpAny_Name (wpAny_loadName_local I.ok.kind hk hn hm fin) hd
  · rcases hk with hk | hk
    · exact wpAny_Name (wpAny_loadName_cell I.ok.kind hk hc hcell fin) hd
    · exact wpAny_Name (wpAny_loadName_free I.ok.kind hk hc hcell fin hcd) hd
theorem pe_int {i j pos} : PE X (.Constant (.int i) j pos) (tC (.int i)) := fun _ _ _ H _ I h => wpAny_Constant_int ⟨.int i, H, I.tok _, ⟨_, rfl⟩, h⟩
theorem pe_bl {b j pos} : PE X (.Constant (.bool b) j pos) (tC (.bl b)) := fun _ _ _ H _ I h => Constant_bool ⟨.bl b, H, I, rfl, h⟩
theorem pe_str {x j pos} : PE X (.Constant (.str x) j pos) (tC (.str x)) := fun _ _ _ H _ I h => Calls.Constant_str ⟨.str x, H, I.tok _, ⟨_, rfl⟩, h⟩
def Gl (X : Cx) (x : Str) : Prop := X.env.kindOf x = some .globalImplicit
theorem ld_glob {E : Value → Shared → Prop} {pins : List (Addr × Obj)} {s : Shared} {σ : St} {H : Hp} {x : Str} {u : Value} {pos : Pos} {Q : Value → Shared → Prop} (I : Inv X pins σ H s) (hg : Gl X x) (hm : X.mg x = some u) (h : Q u s)
    (hd : (x == ("__debug__" : Str)) = false := by decide) : wpAny (model X.prog X.w) X.A (eval (.Name x pos) X.env) Q E s :=
  Calls.Name_function_global I.ok.kind hg (Calls.loadGlobal_global (by rw [I.ok.glob]; exact I.mod.glob.keeps I.bk) hm h) hd
theorem ld_blt {E : Value → Shared → Prop} {pins : List (Addr × Obj)} {s : Shared} {σ : St} {H : Hp} {x : Str} {u : Value} {pos : Pos} {Q : Value → Shared → Prop} (I : Inv X pins σ H s) (hg : Gl X x) (hm : X.mg x = none) (hv : bootBuiltins x = some u) (h : Q u s)
    (hn : x ≠ "__name__" := by decide) (hd : (x == ("__debug__" : Str)) = false := by decide) : wpAny (model X.prog X.w) X.A (eval (.Name x pos) X.env) Q E s := by
  obtain ⟨mb, h1, h2⟩ := I.mod.blt
  exact Calls.Name_function_global I.ok.kind hg (Calls.loadGlobal_builtin (by rw [I.ok.glob]; exact I.mod.glob.keeps I.bk) hm (by rw [I.ok.blt]; exact h1.keeps I.bk) ((h2 x hn).trans hv) h) hd
theorem pe_glob {x : Str} {v : V} {u : Value} {pos : Pos} (hg : Gl X x) (hm : X.mg x = some u) (r : RelV v u) (hd : (x == ("__debug__" : Str)) = false := by decide) : PE X (.Name x pos) (tC v) :=
  fun _ _ _ H _ I h => ld_glob I hg hm ⟨v, H, I, r, h⟩ hd
theorem pe_bltn {x : Str} {v : V} {u : Value} {pos : Pos} (hg : Gl X x) (hm : X.mg x = none) (hv : bootBuiltins x = some u) (r : RelV v u) (hn : x ≠ "__name__" := by decide) (hd : (x == ("__debug__" : Str)) = false := by decide) : PE X (.Name x pos) (tC v) :=
  fun _ _ _ H _ I h => ld_blt I hg hm hv ⟨v, H, I, r, h⟩ hn hd
variable {a b : Expr} {ta tb : TE} {pos : Pos}
def PC (X : Cx) (op : CmpOp) (a b : Expr) (t : TE) : Prop :=
  ∀ (pins : List (Addr × Obj)) (s : Shared) (σ : St) (H : Hp) (Q : VK), Inv X pins σ H s → t σ H Q →
    wpAny (model X.prog X.w) X.A (eval a X.env) (fun v s₁ => wpAny (model X.prog X.w) X.A (eval b X.env) (fun u s₂ => wpAny (model X.prog X.w) X.A (compareOp op v u) (EP X pins σ Q) X.xe s₂) X.xe s₁) X.xe s
theorem nobehind (b : Expr) {op : CmpOp} (h : op ≠ .In) (h2 : op ≠ .NotIn) : behindInMarks op b = false := by
  have e1 : (op == CmpOp.In) = false := by cases op <;> first | rfl | exact absurd rfl h
  have e2 : (op == CmpOp.NotIn) = false := by cases op <;> first | rfl | exact absurd rfl h2
  cases b <;> simp [behindInMarks, e1, e2]
def tB (t : TE) : TT := fun σ H Q => t σ H fun x H1 => ∃ c, x = .bl c ∧ Q c H1
theorem pt_cmp {op : CmpOp} {t : TE} (h : PC X op a b t) (h1 : behindInMarks op b = false := by first | exact nobehind _ (by decide) (by decide) | rfl) : PT X (.Compare a [op] [b] pos) (tB t) := by
  intro pins s σ H Q I hw
  refine wpAny_isTrue_Compare1 (thn (h pins s σ H _ I hw) fun v s1 h1 => thn h1 fun u s2 h2 => thn h2 fun c s3 ⟨x, H1, I1, r1, q1⟩ => ?_) h1
  obtain ⟨d, rfl, q⟩ := q1
  cases r1
  exact wpAny_truthy_bool ⟨H1, I1, q⟩
theorem pt_val {e : Expr} {t : TE} (h : PE X e t) (he : ∀ whole, isTrue e X.env whole = (do let v ← whole; standAt e.pos; holding [v] (truthy v)) := by intro _; rfl) : PT X e (tB t) := by
  intro pins s σ H Q I hw
  refine isTrue_plain (thn (h pins s σ H _ I hw) fun v s1 ⟨x, H1, I1, r1, q1⟩ => ?_) (he _)
  obtain ⟨d, rfl, q⟩ := q1
  cases r1
  exact wpAny_truthy_bool ⟨H1, I1, q⟩
variable {tA tB' : TT} {rest : List Expr}
def tAnd (t u : TT) : TT := fun σ H Q => t σ H fun c H1 => if c = true then u σ H1 Q else Q false H1
def tOr (t u : TT) : TT := fun σ H Q => t σ H fun c H1 => if c = true then Q true H1 else u σ H1 Q
def tNot (t : TT) : TT := fun σ H Q => t σ H fun c H1 => Q (!c) H1
theorem pw_and1 (ha : PT X a tA) : PW X (.BoolOp .And [a] pos) tA := by
  intro wh pins s σ H Q I h
  refine isTrue_and (thn (ha pins s σ H Q I h) fun c s1 e => ?_)
  cases c with
  | true => exact isTrue_and_nil e
  | false => exact e
theorem pw_or1 (ha : PT X a tA) : PW X (.BoolOp .Or [a] pos) tA := by
  intro wh pins s σ H Q I h
  refine isTrue_or (thn (ha pins s σ H Q I h) fun c s1 e => ?_)
  cases c with
  | false => exact isTrue_or_nil e
  | true => exact e
theorem pw_and (ha : PT X a tA) (hb : PW X (.BoolOp .And (b :: rest) pos) tB') : PW X (.BoolOp .And (a :: b :: rest) pos) (tAnd tA tB') := by
  intro wh pins s σ H Q I h
  refine isTrue_and (thn (ha pins s σ H _ I h) fun c s1 ⟨H1, I1, q1⟩ => ?_)
  cases c with
  | true => exact hb wh pins s1 σ H1 Q I1 q1
  | false => exact ⟨H1, I1, q1⟩
theorem pw_or (ha : PT X a tA) (hb : PW X (.BoolOp .Or (b :: rest) pos) tB') : PW X (.BoolOp .Or (a :: b :: rest) pos) (tOr tA tB') := by
  intro wh pins s σ H Q I h
  refine isTrue_or (thn (ha pins s σ H _ I h) fun c s1 ⟨H1, I1, q1⟩ => ?_)
  cases c with
  | true => exact ⟨H1, I1, q1⟩
  | false => exact hb wh pins s1 σ H1 Q I1 q1
theorem pt_not (ha : PT X a tA) : PT X (.UnaryOp .Not a pos) (tNot tA) := by
  intro pins s σ H Q I h
  exact isTrue_not (ha pins s σ H (fun c H1 => Q (!c) H1) I h)
def tAndV (ta tb : TE) : TE := fun σ H Q => ta σ H fun x H1 => ∃ c, x = .bl c ∧ if c = true then tb σ H1 Q else Q (.bl false) H1
def tNotV (ta : TE) : TE := fun σ H Q => ta σ H fun x H1 => ∃ c, x = .bl c ∧ Q (.bl (!c)) H1
theorem pe_one {op} {t : TE} (h : PE X a t) : PE X (.BoolOp op [a] pos) t := fun pins s σ H Q I hw => BoolOp_one (h pins s σ H Q I hw)
theorem pe_and (ha : PE X a ta) (hb : PE X (.BoolOp .And (b :: rest) pos) tb) : PE X (.BoolOp .And (a :: b :: rest) pos) (tAndV ta tb) := by
  intro pins s σ H Q I h
  refine BoolOp_and (thn (ha pins s σ H _ I h) fun v s1 ⟨x, H1, I1, r1, q1⟩ => ?_)
  obtain ⟨c, rfl, q1⟩ := q1
  cases r1
  refine wpAny_truthy_bool ?_
  cases c with
  | true => exact hb pins s1 σ H1 Q I1 q1
  | false => exact ⟨.bl false, H1, I1, rfl, q1⟩
theorem pe_not (ha : PE X a ta) : PE X (.UnaryOp .Not a pos) (tNotV ta) := by
  intro pins s σ H Q I h
  refine UnaryOp_ (thn (ha pins s σ H _ I h) fun v s1 ⟨x, H1, I1, r1, q1⟩ => ?_)
  obtain ⟨c, rfl, q1⟩ := q1
  cases r1
  exact not_of (wpAny_truthy_bool ⟨.bl (!c), H1, I1, rfl, q1⟩)
def tIf (t : TT) (ta tb : TE) : TE := fun σ H Q => t σ H fun c H1 => if c = true then ta σ H1 Q else tb σ H1 Q
theorem pe_ifExp {c : Expr} (hc : PT X c tA) (ha : PE X a ta) (hb : PE X b tb) : PE X (.IfExp c a b pos) (tIf tA ta tb) := by
  intro pins s σ H Q I h
  refine wpAny_IfExp (thn (hc pins s σ H _ I h) fun d s1 ⟨H1, I1, q1⟩ => ?_)
  cases d with
  | true => exact ha pins s1 σ H1 Q I1 q1
  | false => exact hb pins s1 σ H1 Q I1 q1
end
end L2
namespace L2
open PySem PySem.Spec PyProof.Rows
def SqL (K : PySem.W.Frag) (H : Hp) (a : Addr) (xs : List V) : Prop :=
  Rd H a (.lst xs) ∨
    ∃ (o : Obj) (its : Array Value) (n : Nat), K.lookup a = some o ∧ o.cls = .type "list" ∧ o.dict = none ∧ o.data = .seq its n ∧ its.size ≤ sizeLine ∧ Vals xs its.toList
def SqT (K : PySem.W.Frag) (H : Hp) (a : Addr) (xs : List V) : Prop :=
  Rd H a (.tup xs) ∨
    ∃ (o : Obj) (its : Array Value) (n : Nat), K.lookup a = some o ∧ o.cls = .type "tuple" ∧ o.data = .seq its n ∧ o.dict = none ∧ its.size ≤ sizeLine ∧ Vals xs its.toList
def absV : Value → Option V
  | .none => some .non
  | .bool b => some (.bl b)
  | .int i _ => some (.int i)
  | .str x _ => some (.str x)
  | .bytes b _ => some (.byt b)
  | .float b _ => some (.flt b)
  | .ref a => some (.ref a)
  | .type n => some (.ty n)
  | _ => none
theorem RelV.abs {x : V} {u : Value} (r : RelV x u) : absV u = some x := by
  cases x with
  | non => cases r; rfl
  | bl _ => cases r; rfl
  | int _ => obtain ⟨t, rfl⟩ := r; rfl
  | str _ => obtain ⟨t, rfl⟩ := r; rfl
  | byt _ => obtain ⟨t, rfl⟩ := r; rfl
  | flt _ => obtain ⟨t, rfl⟩ := r; rfl
  | ref _ => cases r; rfl
  | ty _ => cases r; rfl
theorem RelV.inj {x y : V} {u : Value} (r : RelV x u) (q : RelV y u) : x = y := Option.some.inj (r.abs.symm.trans q.abs)
theorem Vals.inj : ∀ {xs ys : List V} {us : List Value}, Vals xs us → Vals ys us → xs = ys
  | _, _, _, .nil, .nil => rfl
  | _, _, _, .cons r t, .cons r' t' => by rw [r.inj r', Vals.inj t t']
section
variable {X : Cx} {pins : List (Addr × Obj)} {σ : St} {H : Hp} {s : Shared} {a : Addr} {xs ys : List V}
theorem SqL.of {K : PySem.W.Frag} (h : H a = some (.lst xs)) : SqL K H a xs := .inl (.inl h)
theorem SqT.of {K : PySem.W.Frag} (h : H a = some (.tup xs)) : SqT K H a xs := .inl (.inl h)
theorem Inv.list (I : Inv X pins σ H s) (h : SqL X.K H a xs) : ∃ its : List Value, Vals xs its ∧ PlainL s.heap a its.toArray ∧ xs.length ≤ sizeLine := by
  rcases h with h | ⟨o, its, n, hk, hc, hd, hs, hz, r⟩
  · obtain ⟨z, its, n, r, e⟩ := h.ok I.hok
    exact ⟨its, r, ⟨_, n, e, rfl, rfl, rfl⟩, z⟩
  · refine ⟨its.toList, r, ⟨o, n, I.kIn a o hk, hc, hd, by simpa using hs⟩, ?_⟩
    have e := r.length
    simp only [Array.length_toList] at e
    omega
theorem Inv.tuple (I : Inv X pins σ H s) (h : SqT X.K H a xs) : ∃ its : List Value, Vals xs its ∧ IsTup s.heap a its.toArray ∧ xs.length ≤ sizeLine := by
  rcases h with h | ⟨o, its, n, hk, hc, hs, hd0, hz, r⟩
  · obtain ⟨z, ⟨its, r, p⟩, _⟩ := h.ok I.hok
    exact ⟨its, r, p, z⟩
  · refine ⟨its.toList, r, ⟨o, I.kIn a o hk, hc, n, by simpa using hs⟩, ?_⟩
    have e := r.length
    simp only [Array.length_toList] at e
    omega
theorem Inv.list_inj (I : Inv X pins σ H s) (h : SqL X.K H a xs) (h' : SqL X.K H a ys) : xs = ys := by
  obtain ⟨its, r, ⟨o, n, e, _, _, d⟩, _⟩ := I.list h
  obtain ⟨its', r', ⟨o', n', e', _, _, d'⟩, _⟩ := I.list h'
  rw [e] at e'; cases e'
  rw [d] at d'
  injection d' with d1 _
  have : its = its' := by simpa using congrArg Array.toList d1
  subst this
  exact r.inj r'
theorem Inv.tuple_inj (I : Inv X pins σ H s) (h : SqT X.K H a xs) (h' : SqT X.K H a ys) : xs = ys := by
  obtain ⟨its, r, ⟨o, e, _, n, d⟩, _⟩ := I.tuple h
  obtain ⟨its', r', ⟨o', e', _, n', d'⟩, _⟩ := I.tuple h'
  rw [e] at e'; cases e'
  rw [d] at d'
  injection d' with d1 _
  have : its = its' := by simpa using congrArg Array.toList d1
  subst this
  exact r.inj r'
end
abbrev Cx.wish (X : Cx) (E : Value → Shared → Prop) : Cx := { X with xe := E }
abbrev Cx.nox (X : Cx) : Cx := X.wish fun _ _ => False
theorem Cx.Ok.wish {X : Cx} (ok : X.Ok) (E : Value → Shared → Prop) : (X.wish E).Ok :=
  ⟨ok.mod, ok.kind, ok.glob, ok.blt, ok.above, ok.inj, ok.has, ok.cab, ok.hd, ok.frames, ok.stk, ok.exf, ok.bs, ok.bsz, ok.noex, ok.exfs, ok.funs, ok.frf⟩
theorem Cx.Ok.unwish {X : Cx} {E : Value → Shared → Prop} (ok : (X.wish E).Ok) : X.Ok :=
  ⟨ok.mod, ok.kind, ok.glob, ok.blt, ok.above, ok.inj, ok.has, ok.cab, ok.hd, ok.frames, ok.stk, ok.exf, ok.bs, ok.bsz, ok.noex, ok.exfs, ok.funs, ok.frf⟩
section
variable {X : Cx} {pins : List (Addr × Obj)} {σ : St} {H : Hp} {s : Shared} {E : Value → Shared → Prop}
theorem Inv.wish (I : Inv X pins σ H s) (E : Value → Shared → Prop) : Inv (X.wish E) pins σ H s := ⟨I.ok.wish E, I.os, I.bare, I.base, I.loc, I.cell, I.free, I.freeC, I.pin, I.hok, I.len⟩
theorem Inv.unwish (I : Inv (X.wish E) pins σ H s) : Inv X pins σ H s := ⟨I.ok.unwish, I.os, I.bare, I.base, I.loc, I.cell, I.free, I.freeC, I.pin, I.hok, I.len⟩
theorem SP.unwish {D : Ends} {f : Flow} {s' : Shared} (h : SP (X.wish E) pins D f s') : SP X pins D f s' := by
  cases f with
  | next => obtain ⟨σ', H', I, q⟩ := h; exact ⟨σ', H', I.unwish, q⟩
  | brk => obtain ⟨σ', H', I, q⟩ := h; exact ⟨σ', H', I.unwish, q⟩
  | cont => obtain ⟨σ', H', I, q⟩ := h; exact ⟨σ', H', I.unwish, q⟩
  | ret u => obtain ⟨v, σ', H', I, r, q⟩ := h; exact ⟨v, σ', H', I.unwish, r, q⟩
theorem PE.nox {e : Expr} {t : TE} (h : PE X.nox e t) : PE X e t := fun pins s σ H Q I hw =>
  wpAny_mono (h pins s σ H Q (I.wish _) hw) (fun _ _ ⟨v, H', I', r, q⟩ => ⟨v, H', I'.unwish, r, q⟩) fun _ _ z => False.elim z
theorem PT.nox {e : Expr} {t : TT} (h : PT X.nox e t) : PT X e t := fun pins s σ H Q I hw =>
  wpAny_mono (h pins s σ H Q (I.wish _) hw) (fun _ _ ⟨H', I', q⟩ => ⟨H', I'.unwish, q⟩) fun _ _ z => False.elim z
theorem PSs.nox {st : List Stmt} {t : TS} (h : PSs X.nox st t) : PSs X st t := fun pins s σ H D I hw =>
  wpAny_mono (h pins s σ H D (I.wish _) hw) (fun _ _ q => q.unwish) fun _ _ z => False.elim z
end
section
variable {X : Cx} {st : Stmt} {rest : List Stmt} {t u : TS} {e : Expr} {te : TE} {pos : Pos}
def tNext : TS := fun D σ H => D.nx σ H
def tSeq (t u : TS) : TS := fun D σ H => t { D with nx := u D } σ H
theorem pss_nil : PSs X [] tNext := fun _ _ σ H _ I h => wpAny_execs_nil ⟨σ, H, I, h⟩
theorem pss_cons (h1 : PS X st t) (h2 : PSs X rest u) : PSs X (st :: rest) (tSeq t u) := by
  intro pins s σ H D I h
  refine wpAny_execs_cons (thn (h1 pins s σ H { D with nx := u D } I h) fun f s1 q => ?_)
  cases f with
  | next =>
    obtain ⟨σ', H', I', q⟩ := q
    exact h2 pins s1 σ' H' D I' q
  | ret v => exact q
  | brk => exact q
  | cont => exact q
theorem Inv.quiet {pins : List (Addr × Obj)} {σ : St} {H : Hp} {s : Shared} (I : Inv X pins σ H s) : interactive X.env = false := by simp [interactive, I.ok.kind]
def tDrop (te : TE) : TS := fun D σ H => te σ H fun _ H1 => D.nx σ H1
theorem ps_expr (he : PE X e te) (hs : swapsWith e none pos.line X.env = pure false := by rfl) : PS X (.Expr e pos) (tDrop te) := by
  intro pins s σ H D I h
  exact wpAny_Expr_any (thn (he pins s σ H _ I h) fun v s1 ⟨x, H1, I1, r1, q1⟩ => ⟨σ, H1, I1, q1⟩) I.quiet hs
def tRet (te : TE) : TS := fun D σ H => te σ H D.rt
theorem ps_ret (he : PE X e te) : PS X (.Return (some e) pos) (tRet te) := by
  intro pins s σ H D I h
  exact wpAny_Return_some (thn (he pins s σ H _ I h) fun v s1 ⟨x, H1, I1, r1, q1⟩ => ⟨x, σ, H1, I1, r1, q1⟩)
def tIfS (c : TT) (t u : TS) : TS := fun D σ H => c σ H fun b H1 => if b = true then t D σ H1 else u D σ H1
theorem ps_if {c : Expr} {a b : List Stmt} {tc : TT} (hc : PT X c tc) (ha : PSs X a t) (hb : PSs X b u) : PS X (.If c a b pos) (tIfS tc t u) := by
  intro pins s σ H D I h
  refine wpAny_If (thn (hc pins s σ H _ I h) fun d s1 ⟨H1, I1, q1⟩ => ?_)
  cases d with
  | true => exact ha pins s1 σ H1 D I1 q1
  | false => exact hb pins s1 σ H1 D I1 q1
def tNever : TS := fun _ _ _ => False
theorem pss_never {sts : List Stmt} : PSs X sts tNever := fun _ _ _ _ _ _ h => h.elim
end
abbrev TG := V → St → Hp → (St → Hp → Prop) → Prop
abbrev TGs := List V → St → Hp → (St → Hp → Prop) → Prop
def PG (X : Cx) (target : Expr) (t : TG) : Prop :=
  ∀ (pins : List (Addr × Obj)) (s : Shared) (σ : St) (H : Hp) (v : V) (u : Value) (Q : St → Hp → Prop), Inv X pins σ H s → RelV v u → t v σ H Q →
    wpAny (model X.prog X.w) X.A (assign target X.env u) (fun _ s' => ∃ σ' H', Inv X pins σ' H' s' ∧ Q σ' H') X.xe s
def PGs (X : Cx) (ts : List Expr) (t : TGs) : Prop :=
  ∀ (pins : List (Addr × Obj)) (s : Shared) (σ : St) (H : Hp) (vs : List V) (us : List Value) (Q : St → Hp → Prop), Inv X pins σ H s → Vals vs us → t vs σ H Q →
    wpAny (model X.prog X.w) X.A (assignInOrder ((assignEach ts X.env).map (·.2)) us) (fun _ s' => ∃ σ' H', Inv X pins σ' H' s' ∧ Q σ' H') X.xe s
section
variable {X : Cx} {pos : Pos}
def gName (i : Nat) : TG := fun v σ H Q => Q (σ.set i (some v)) H
theorem pg_name {i : Nat} {x : Str} (hN : X.N.Nodup) (hi : X.N[i]? = some x) (hx : Loc X.env.scope x) (hf : X.fn x = true ∨ X.env.scope.names.lookup x = some .local := by first | exact .inl rfl | exact .inr rfl | assumption) : PG X (.Name x pos) (gName i) := by
  intro pins s σ H v u Q I r h
  exact wpAny_assign_Name (store_ok I hN hi hx r (fun s' I' => ⟨_, H, I', h⟩) hf)
def gNil : TGs := fun vs σ H Q => vs = [] ∧ Q σ H
def gCons (t : TG) (u : TGs) : TGs := fun vs σ H Q => ∃ v r, vs = v :: r ∧ t v σ H fun σ' H' => u r σ' H' Q
theorem pgs_nil : PGs X [] gNil := by
  intro pins s σ H vs us Q I r h
  obtain ⟨e, h⟩ := h
  subst e
  cases r
  exact assignInOrder_nil ⟨σ, H, I, h⟩
theorem pgs_cons {e : Expr} {es : List Expr} {t : TG} {u : TGs} (h1 : PG X e t) (h2 : PGs X es u)
    (hs : (assignEach (e :: es) X.env).map (·.2) = assign e X.env :: (assignEach es X.env).map (·.2) := by rfl) : PGs X (e :: es) (gCons t u) := by
  intro pins s σ H vs us Q I r h
  obtain ⟨v, vr, e1, h⟩ := h
  subst e1
  cases r with
  | cons r rr =>
    rw [hs]
    refine assignInOrder_cons (thn (h1 pins s σ H _ _ _ I r h) fun _ s1 ⟨σ1, H1, I1, q1⟩ => ?_)
    exact h2 pins s1 σ1 H1 _ _ Q I1 rr q1
def gTup (K : PySem.W.Frag) (n : Nat) (t : TGs) : TG := fun v σ H Q => ∃ a xs, v = .ref a ∧ SqT K H a xs ∧ xs.length = n ∧ t xs σ H Q
theorem pg_tup {es : List Expr} {k : Nat} {t : TGs} {n : Nat} (hc : X.calm = true) (h : PGs X es t)
    (hn : (assignEach es X.env).length = n := by rfl) (hst : (assignEach es X.env).findIdx? (·.1) = none := by rfl) : PG X (.Tuple es k pos) (gTup X.K n t) := by
  intro pins s σ H v u Q I r hw
  obtain ⟨a, xs, e1, hq, hl, hw⟩ := hw
  subst e1
  cases r
  obtain ⟨its, rv, ht, hz⟩ := I.tuple hq
  refine assign_Tuple_tuple (I.ok.hd hc) ht (by simp [hn, ← hl, rv.length]) hst fun h' hx => ?_
  have I1 : Inv X pins σ H { s with heap := h' } := I.kept (t' := s.toks) fun b o e => hx b o (Nat.ne_of_lt (Heap.lt_size e)) e
  exact h pins _ σ H xs _ Q I1 (by simpa using rv) hw
def tAsg (te : TE) (g : TG) : TS := fun D σ H => te σ H fun x H1 => g x σ H1 D.nx
theorem ps_asg {tg e : Expr} {te : TE} {g : TG} (he : PE X e te) (hg : PG X tg g) (hs : swapsWithSole [tg] e pos.line X.env = pure false := by rfl) (hw : swappedStores [tg] e X.env = pure none := by rfl)
    (h1 : (assignEach [tg] X.env).map (·.2) = [assign tg X.env] := by rfl) : PS X (.Assign [tg] e pos) (tAsg te g) := by
  intro pins s σ H D I h
  refine wpAny_Assign_stores (thn (he pins s σ H _ I h) fun v s1 ⟨x, H1, I1, r1, q1⟩ => ?_) hs hw
  rw [h1]
  exact thn (hg pins s1 σ H1 x v _ I1 r1 q1) fun _ s2 q => q
theorem ps_set {i : Nat} {x : Str} {e : Expr} {te : TE} {pos' : Pos} (hN : X.N.Nodup) (hi : X.N[i]? = some x) (hx : Loc X.env.scope x) (he : PE X e te) (hs : swapsWith e (some (.Name x pos')) pos.line X.env = pure false := by rfl) (hf : X.fn x = true ∨ X.env.scope.names.lookup x = some .local := by first | exact .inl rfl | exact .inr rfl | assumption) :
    PS X (.Assign [.Name x pos'] e pos) (tAsg te (gName i)) := by
  intro pins s σ H D I h
  refine wpAny_Assign_Name (thn (he pins s σ H _ I h) fun v s1 ⟨y, H1, I1, r1, q1⟩ => ?_) hs
  exact store_ok I1 hN hi hx r1 (fun s2 I2 => ⟨_, H1, I2, q1⟩) hf
end
section
variable {X : Cx} {pos : Pos}
end
structure It where
  go : Nat → Hp → Prop
  yld : Nat → Hp → V → Hp → Prop
  stop : Nat → Hp → Prop
def FpOk (X : Cx) (pins : List (Addr × Obj)) (H : Hp) (b : Addr) : Prop :=
  H b = none ∧ b ≠ X.env.locals ∧ b ∉ X.fs ∧ (b ∈ X.ex ∨ X.s₀.heap.objs.size ≤ b) ∧ (∀ x c, X.env.cells.lookup x = some c → c ≠ b) ∧ ∀ p ∈ X.pn ++ pins, p.1 ≠ b
theorem Inv.fpOk {X : Cx} {pins : List (Addr × Obj)} {σ : St} {H H' : Hp} {s : Shared} {b : Addr} (I : Inv X pins σ H s) (hb : s.heap.objs.size ≤ b) (hn : H' b = none) : FpOk X pins H' b := by
  refine ⟨hn, Nat.ne_of_gt (Nat.lt_of_lt_of_le I.lt hb), I.nofs hb, .inr (Nat.le_trans I.sz hb), fun x c e z => ?_, fun p hp z => ?_⟩
  · obtain ⟨v, q⟩ := I.cell x c e
    exact absurd (Nat.lt_of_lt_of_le q.lt (by rw [z]; exact hb)) (Nat.lt_irrefl _)
  · exact absurd (Nat.lt_of_lt_of_le (Heap.lt_size (I.pin p hp).1) (by rw [z]; exact hb)) (Nat.lt_irrefl _)
structure Turn (P : Program) (w : World) (K : PySem.W.Frag) (tg : Expr) (J : It) (fp : List Addr) (it : Addr) (tn : Nat → Heap → Prop) : Prop where
  mem : it ∈ fp
  obj : ∀ i h, tn i h → ∀ b ∈ fp, ∃ o, h.get? b = some o ∧ ∀ v, o.data ≠ .cell v
  keep : ∀ i h h', tn i h → (∀ b ∈ fp, ∀ o, h.get? b = some o → h'.get? b = some o) → tn i h'
  item : ∀ (X : Cx), X.prog = P → X.w = w → X.K = K → X.calm = true → ∀ (i : Nat) (pins : List (Addr × Obj)) (s : Shared) (σ : St) (H : Hp) (E : Value → Shared → Prop), Inv X pins σ H s → (∀ b ∈ fp, FpOk X pins H b) → tn i s.heap → J.go i H →
    wpAny (model P w) X.A (pyNext (.ref it)) (fun r s1 => ∃ u, r = some u ∧
      wpAny (model P w) X.A (letOwnedTupleGo tg (.ref it) u) (fun _ s2 => ∃ x H', Inv X pins σ H' s2 ∧ RelV x u ∧ J.yld i H x H' ∧ tn (i + 1) s2.heap ∧ ∀ b ∈ fp, H' b = none) E s1) E s
  done : ∀ (X : Cx), X.prog = P → X.w = w → X.K = K → X.calm = true → ∀ (i : Nat) (pins : List (Addr × Obj)) (s : Shared) (σ : St) (H : Hp) (E : Value → Shared → Prop), Inv X pins σ H s → (∀ b ∈ fp, FpOk X pins H b) → tn i s.heap → J.stop i H →
    wpAny (model P w) X.A (pyNext (.ref it)) (fun r s1 => r = none ∧ Inv X pins σ H s1) E s
  self : ∀ (A : Around) (i : Nat) (s : Shared) (Q : Value → Shared → Prop) (E : Value → Shared → Prop), tn i s.heap → Q (.ref it) s → wpAny (model P w) A (pyIter (.ref it)) Q E s
abbrev TI := St → Hp → (It → Hp → Prop) → Prop
def PIE (X : Cx) (pins : List (Addr × Obj)) (σ : St) (tg : Expr) (R : It → Hp → Prop) (itv : Value) (s2 : Shared) : Prop :=
  ∃ (it : Addr) (fp : List Addr) (tn : Nat → Heap → Prop) (J : It) (H' : Hp), itv = .ref it ∧ Inv X pins σ H' s2 ∧ Turn X.prog X.w X.K tg J fp it tn ∧ tn 0 s2.heap ∧ (∀ b ∈ fp, FpOk X pins H' b) ∧ R J H'
def PI (X : Cx) (tg iter : Expr) (wi : TI) : Prop :=
  ∀ (pins : List (Addr × Obj)) (s : Shared) (σ : St) (H : Hp) (R : It → Hp → Prop), Inv X pins σ H s → wi σ H R →
    wpAny (model X.prog X.w) X.A (eval iter X.env) (fun v s1 => wpAny (model X.prog X.w) X.A (pyIter v) (PIE X pins σ tg R) X.xe s1) X.xe s
theorem go_of {M : Model} {A : Around} {E : Value → Shared → Prop} {s : Shared} {tg : Expr} {it : Addr} {u : Value} {o : Obj} {n : String} {vs : Array Value} {Q : Unit → Shared → Prop} (ho : s.heap.get? it = some o) (hc : o.cls = .type n) (hd : o.data = .fields vs)
    (hn : ["enumerate", "zip", "dict_itemiterator", "dict_reverseitemiterator", "odict_iterator", "itertools.zip_longest", "itertools.pairwise"].contains n = false) (hQ : Q () s) : wpAny M A (letOwnedTupleGo tg (.ref it) u) Q E s := by
  unfold letOwnedTupleGo
  cases tg <;> first
    | exact wpAny_pure hQ
    | (cases u <;> first
        | exact wpAny_pure hQ
        | (refine wpAny_bind (wpAny_load ho ?_)
           rw [hc, hd]
           show wpAny M A (if (["enumerate", "zip", "dict_itemiterator", "dict_reverseitemiterator", "odict_iterator", "itertools.zip_longest", "itertools.pairwise"].contains n && vs[0]? == some (rawInt _)) = true then _ else _) Q E s
           rw [if_neg (by intro h; rw [hn, Bool.false_and] at h; cases h)]
           exact wpAny_pure hQ))
def Itl (K : PySem.W.Frag) (a : Addr) : It :=
  ⟨fun i H => ∃ xs x, SqL K H a xs ∧ xs[i]? = some x, fun i H x H' => H' = H ∧ ∀ xs, SqL K H a xs → xs[i]? = some x, fun i H => ∃ xs, SqL K H a xs ∧ xs.length ≤ i⟩
def Itt (K : PySem.W.Frag) (a : Addr) : It :=
  ⟨fun i H => ∃ xs x, SqT K H a xs ∧ xs[i]? = some x, fun i H x H' => H' = H ∧ ∀ xs, SqT K H a xs → xs[i]? = some x, fun i H => ∃ xs, SqT K H a xs ∧ xs.length ≤ i⟩
def Itr (lo : Int) (n : Nat) : It := ⟨fun i _ => i < n, fun i H x H' => H' = H ∧ x = .int (lo + i), fun i _ => n ≤ i⟩
theorem turn_list {P : Program} {w : World} {K : PySem.W.Frag} {tg : Expr} (a it : Addr) : Turn P w K tg (Itl K a) [it] it (fun i h => h.IsListIter it a i) where
  mem := by simp
  obj := fun i h st b hb => by
    have e : b = it := by simpa using hb
    subst e
    obtain ⟨o, e, c, d⟩ := st
    exact ⟨o, e, fun v z => by rw [d] at z; cases z⟩
  keep := fun i h h' st k => st.at fun o e => k it (by simp) o e
  item := by
    intro X hP hw hK hc i pins s σ H E I hf st hg
    subst hP hw hK
    obtain ⟨xs, x, hq, hx⟩ := hg
    obtain ⟨its, rv, p, hz⟩ := I.list hq
    obtain ⟨u, hu, ru⟩ := rv.get hx
    obtain ⟨f0, f1, f2, f3, f4, f5⟩ := hf it (by simp)
    refine wpAny_pyNext_list_item st p.isList (x := u) (by simpa using hu) fun h' st' sb => ?_
    have I1 : Inv X pins σ H { s with heap := h' } := I.turned (t' := s.toks) (fun b o hb e => (sb.2 b hb).trans e) f0 f1 f3 f4 f5
    obtain ⟨o, e, c, d⟩ := id st'
    exact ⟨u, rfl, go_of (s := { s with heap := h' }) e c d (by decide) ⟨x, H, I1, ru, ⟨rfl, fun ys hy => by rw [I.list_inj hy hq]; exact hx⟩, st', fun b hb => (hf b hb).1⟩⟩
  done := by
    intro X hP hw hK hc i pins s σ H E I hf st hg
    subst hP hw hK
    obtain ⟨xs, hq, hx⟩ := hg
    obtain ⟨its, rv, p, hz⟩ := I.list hq
    obtain ⟨f0, f1, f2, f3, f4, f5⟩ := hf it (by simp)
    have hl := rv.length
    exact wpAny_pyNext_list_end (I.ok.hd hc) st p.isList (by simp; omega) fun h' eb => ⟨rfl, I.turned (t' := s.toks) (fun b o hb e => eb b o hb e) f0 f1 f3 f4 f5⟩
  self := fun _ _ _ _ _ st h => wpAny_pyIter_listiter st h
theorem turn_tuple {P : Program} {w : World} {K : PySem.W.Frag} {tg : Expr} (a it : Addr) : Turn P w K tg (Itt K a) [it] it (fun i h => h.IsTupleIter it a i) where
  mem := by simp
  obj := fun i h st b hb => by
    have e : b = it := by simpa using hb
    subst e
    obtain ⟨o, e, c, d⟩ := st
    exact ⟨o, e, fun v z => by rw [d] at z; cases z⟩
  keep := fun i h h' st k => st.at fun o e => k it (by simp) o e
  item := by
    intro X hP hw hK hc i pins s σ H E I hf st hg
    subst hP hw hK
    obtain ⟨xs, x, hq, hx⟩ := hg
    obtain ⟨its, rv, p, hz⟩ := I.tuple hq
    obtain ⟨u, hu, ru⟩ := rv.get hx
    obtain ⟨f0, f1, f2, f3, f4, f5⟩ := hf it (by simp)
    refine wpAny_pyNext_tuple_item st (show s.heap.IsTuple a its.toArray from p) (x := u) (by simpa using hu) fun h' st' sb => ?_
    have I1 : Inv X pins σ H { s with heap := h' } := I.turned (t' := s.toks) (fun b o hb e => (sb.2 b hb).trans e) f0 f1 f3 f4 f5
    obtain ⟨o, e, c, d⟩ := id st'
    exact ⟨u, rfl, go_of (s := { s with heap := h' }) e c d (by decide) ⟨x, H, I1, ru, ⟨rfl, fun ys hy => by rw [I.tuple_inj hy hq]; exact hx⟩, st', fun b hb => (hf b hb).1⟩⟩
  done := by
    intro X hP hw hK hc i pins s σ H E I hf st hg
    subst hP hw hK
    obtain ⟨xs, hq, hx⟩ := hg
    obtain ⟨its, rv, p, hz⟩ := I.tuple hq
    obtain ⟨f0, f1, f2, f3, f4, f5⟩ := hf it (by simp)
    have hl := rv.length
    exact wpAny_pyNext_tuple_end (I.ok.hd hc) st (show s.heap.IsTuple a its.toArray from p) (by simp; omega) fun h' eb => ⟨rfl, I.turned (t' := s.toks) (fun b o hb e => eb b o hb e) f0 f1 f3 f4 f5⟩
  self := fun _ _ _ _ _ st h => wpAny_pyIter_tupleiter st h
theorem turn_range {P : Program} {w : World} {K : PySem.W.Frag} {tg : Expr} (it : Addr) (lo : Int) (n : Nat) : Turn P w K tg (Itr lo n) [it] it (fun i h => IsRangeIter h it (lo + (i : Nat) * 1) ((n : Int) - (i : Nat)) 1) where
  mem := by simp
  obj := fun i h st b hb => by
    have e : b = it := by simpa using hb
    subst e
    exact ⟨_, st, fun v z => by
      have z' : Data.fields _ = Data.cell v := z
      cases z'⟩
  keep := fun i h h' st k => k it (by simp) _ st
  item := by
    intro X hP hw hK hc i pins s σ H E I hf st hg
    subst hP hw hK
    obtain ⟨f0, f1, f2, f3, f4, f5⟩ := hf it (by simp)
    have W := Walks.range (prog := X.prog) (w := X.w) (I.ok.hd hc) it lo 1 n
    refine W.item i s _ _ hg st fun v h' tk hv st' kk => ?_
    obtain ⟨t, rfl⟩ := hv
    have I1 : Inv X pins σ H { s with heap := h', toks := tk } := I.turned (fun b o hb e => kk b o (by simpa using hb) e) f0 f1 f3 f4 f5
    refine ⟨_, rfl, go_of (s := { s with heap := h', toks := tk }) (n := "range_iterator") st' rfl rfl (by decide) ⟨.int (lo + i), H, I1, ⟨t, ?_⟩, ⟨rfl, rfl⟩, st', fun b hb => (hf b hb).1⟩⟩
    rw [Int.mul_one]
  done := by
    intro X hP hw hK hc i pins s σ H E I hf st hg
    subst hP hw hK
    obtain ⟨f0, f1, f2, f3, f4, f5⟩ := hf it (by simp)
    exact wpAny_pyNext_range_end (I.ok.hd hc) st (by have : n ≤ i := hg; omega) fun h' eb => ⟨rfl, I.turned (t' := s.toks) (fun b o hb e => eb b o hb e) f0 f1 f3 f4 f5⟩
  self := fun _ _ _ _ _ st h => wpAny_pyIter_rangeiter st h
end L2
namespace L2
open PySem PySem.Spec PyProof.Rows
section
variable {X : Cx} {tg : Expr}
def iList (K : PySem.W.Frag) (tl : TE) : TI := fun σ H R => tl σ H fun x H1 => ∃ a, x = .ref a ∧ (∃ xs, SqL K H1 a xs) ∧ R (Itl K a) H1
def iTup (K : PySem.W.Frag) (tl : TE) : TI := fun σ H R => tl σ H fun x H1 => ∃ a, x = .ref a ∧ (∃ xs, SqT K H1 a xs) ∧ R (Itt K a) H1
theorem pi_list {l : Expr} {tl : TE} (hl : PE X l tl) : PI X tg l (iList X.K tl) := by
  intro pins s σ H R I h
  refine thn (hl pins s σ H _ I h) fun v s1 ⟨x, H1, I1, r1, q1⟩ => ?_
  obtain ⟨a, e, ⟨xs, hq⟩, q⟩ := q1
  subst e
  cases r1
  obtain ⟨its, rv, p, hz⟩ := I1.list hq
  refine wpAny_pyIter_list p.isList ?_
  refine ⟨s1.heap.objs.size, [s1.heap.objs.size], _, _, H1, rfl, I1.kept (t' := s1.toks) fun b o e => Heap.get?_push_of_some _ e, turn_list a _, ⟨_, Heap.get?_push_size _ rfl, rfl, rfl⟩, fun b hb => ?_, q⟩
  have e : b = s1.heap.objs.size := by simpa using hb
  subst e
  exact I1.fpOk (Nat.le_refl _) (I1.hok.fresh (Nat.le_refl _))
theorem pi_tup {l : Expr} {tl : TE} (hl : PE X l tl) : PI X tg l (iTup X.K tl) := by
  intro pins s σ H R I h
  refine thn (hl pins s σ H _ I h) fun v s1 ⟨x, H1, I1, r1, q1⟩ => ?_
  obtain ⟨a, e, ⟨xs, hq⟩, q⟩ := q1
  subst e
  cases r1
  obtain ⟨its, rv, p, hz⟩ := I1.tuple hq
  refine wpAny_pyIter_tuple (show s1.heap.IsTuple a its.toArray from p) ?_
  refine ⟨s1.heap.objs.size, [s1.heap.objs.size], _, _, H1, rfl, I1.kept (t' := s1.toks) fun b o e => Heap.get?_push_of_some _ e, turn_tuple a _, ⟨_, Heap.get?_push_size _ rfl, rfl, rfl⟩, fun b hb => ?_, q⟩
  have e : b = s1.heap.objs.size := by simpa using hb
  subst e
  exact I1.fpOk (Nat.le_refl _) (I1.hok.fresh (Nat.le_refl _))
theorem range_it {pins : List (Addr × Obj)} {σ : St} {H : Hp} {s : Shared} {R : It → Hp → Prop} {E : Value → Shared → Prop} {lo hi : Int} {t u v : Tok} {tk : Nat} (I : Inv X pins σ H s) (h1 : -(2 ^ 62) ≤ lo) (h2 : lo < 2 ^ 62) (h3 : -(2 ^ 62) ≤ hi) (h4 : hi < 2 ^ 62)
    (q : R (Itr lo (hi - lo).toNat) H) : wpAny (model X.prog X.w) X.A (pyIter (.ref s.heap.objs.size)) (PIE X pins σ tg R) E { s with heap := s.heap.push { cls := .type "range", data := .fields #[.int lo t, .int hi u, .int 1 v] }, toks := tk } := by
  refine wpAny_pyIter_range (IsRange.new ..) (small_one h1 h2 h3 h4) ?_
  have I1 : Inv X pins σ H { s with heap := s.heap.push { cls := .type "range", data := .fields #[.int lo t, .int hi u, .int 1 v] }, toks := tk } := I.kept fun b o e => Heap.get?_push_of_some _ e
  refine ⟨(s.heap.push { cls := .type "range", data := .fields #[.int lo t, .int hi u, .int 1 v] }).objs.size, [(s.heap.push { cls := .type "range", data := .fields #[.int lo t, .int hi u, .int 1 v] }).objs.size], _, _, H, rfl,
    I1.kept (t' := tk) fun b o e => Heap.get?_push_of_some _ e, turn_range _ lo (hi - lo).toNat, ?_, fun b hb => ?_, q⟩
  · have e1 : lo + ((0 : Nat) : Int) * 1 = lo := by simp
    have e2 : (((hi - lo).toNat : Nat) : Int) - ((0 : Nat) : Int) = Builtin.Range.rangeSize lo hi 1 := by rw [rangeSize_one]; split <;> omega
    show IsRangeIter _ _ (lo + ((0 : Nat) : Int) * 1) ((((hi - lo).toNat : Nat) : Int) - ((0 : Nat) : Int)) 1
    rw [e1, e2]
    exact Heap.get?_push_size _ rfl
  · have e : b = (s.heap.push { cls := .type "range", data := .fields #[.int lo t, .int hi u, .int 1 v] }).objs.size := by simpa using hb
    subst e
    exact I1.fpOk (Nat.le_refl _) (I1.hok.fresh (Nat.le_refl _))
def iRng1 (ta : TA) : TI := fun σ H R => ta σ H fun vs H1 => ∃ j : Int, vs = [.int j] ∧ -(2 ^ 62) ≤ j ∧ j < 2 ^ 62 ∧ R (Itr 0 j.toNat) H1
theorem pi_range1 {a : Expr} {ta : TA} {p pos : Pos} (hg : Gl X "range") (hm : X.mg "range" = none) (ha : PA X [a] ta) (hs : starEach [a] X.env = [(false, eval a X.env)] := by rfl) : PI X tg (.Call (.Name "range" p) [a] [] pos) (iRng1 ta) := by
  intro pins s σ H R I h
  refine Call_ (ld_blt I hg hm boot_range (PyProof.Rows.callWith_type1 (thn (ha pos pins s σ H _ I h) fun us s1 ⟨vs, H1, I1, r1, q1⟩ => ?_) hs rfl))
  obtain ⟨j, e, q1, q2, q⟩ := q1
  subst e
  cases r1 with
  | cons r rr =>
    cases rr
    obtain ⟨t, rfl⟩ := r
    exact call_range_1 (range_it I1 (by omega) (by omega) q1 q2 (by simpa using q))
def tFor (wi : TI) (g : TG) (tb : TS) : TS := fun D σ H => wi σ H fun J H1 => ∃ W : Nat → Nat → St → Hp → Prop, (∃ m, W 0 m σ H1) ∧ ∀ i m σ H, W i m σ H →
  (J.stop i H ∧ D.nx σ H) ∨ (J.go i H ∧ ∃ N : St → Hp → Prop, (∀ σ' H', N σ' H' → ∃ m', m' < m ∧ W (i + 1) m' σ' H') ∧ ∀ x H', J.yld i H x H' → g x σ H' fun σ2 H2 => tb { D with nx := N, ct := N, bk := D.nx } σ2 H2)
def pinsAt (fp : List Addr) (h : Heap) : List (Addr × Obj) := fp.filterMap fun b => (h.get? b).map fun o => (b, o)
theorem mem_pinsAt {fp : List Addr} {h : Heap} {b : Addr} {o : Obj} (hb : b ∈ fp) (e : h.get? b = some o) : (b, o) ∈ pinsAt fp h := List.mem_filterMap.mpr ⟨b, hb, by rw [e]; rfl⟩
theorem of_pinsAt {fp : List Addr} {h : Heap} {p : Addr × Obj} (hp : p ∈ pinsAt fp h) : p.1 ∈ fp ∧ h.get? p.1 = some p.2 := by
  obtain ⟨b, hb, e⟩ := List.mem_filterMap.mp hp
  cases q : h.get? b with
  | none => rw [q] at e; cases e
  | some o =>
    rw [q] at e
    have e' : (b, o) = p := Option.some.inj e
    subst e'
    exact ⟨hb, q⟩
theorem Inv.pinned {pins : List (Addr × Obj)} {σ : St} {H : Hp} {s : Shared} {fp : List Addr} (I : Inv X pins σ H s) (hf : ∀ b ∈ fp, FpOk X pins H b) (ho : ∀ b ∈ fp, ∃ o, s.heap.get? b = some o ∧ ∀ v, o.data ≠ .cell v) : Inv X (pins ++ pinsAt fp s.heap) σ H s :=
  I.pins_of fun p hp => (List.mem_append.mp hp).elim (fun z => I.pin p (List.mem_append_right _ z)) fun z => by
    obtain ⟨hb, e⟩ := of_pinsAt z
    obtain ⟨f0, f1, f2, _⟩ := hf p.1 hb
    obtain ⟨o, e', d⟩ := ho p.1 hb
    rw [e] at e'; cases e'
    exact ⟨e, f0, f1, f2, d⟩
theorem Inv.unpinned {pins pl : List (Addr × Obj)} {σ : St} {H : Hp} {s : Shared} (I : Inv X (pins ++ pl) σ H s) : Inv X pins σ H s := I.pins_of fun p hp => I.pin p (List.mem_append_right _ (List.mem_append_left _ hp))
theorem ps_for {iter : Expr} {body : List Stmt} {wi : TI} {g : TG} {tb : TS} {pos : Pos} (hp : PassesOwn (model X.prog X.w) X.A X.env X.xe) (hc : X.calm = true) (hi : PI X tg iter wi) (hg : PG X tg g) (hb : PSs X body tb)
    (hs : ∀ x, foldedSetIterable iter X.env x = pure x := by intro _; rfl) : PS X (.For tg iter body [] pos) (tFor wi g tb) := by
  intro pins s σ H D I h
  refine wpAny_For (thn (hi pins s σ H _ I h) fun v s1 h1 => thn h1 fun itv s2 h2 => ?_) hs
  obtain ⟨it, fp, tn, J, H2, e, I2, T, st2, f2, W, ⟨m0, w0⟩, turn⟩ := h2
  subst e
  have stat : ∀ {H' : Hp}, (∀ b ∈ fp, H' b = none) → ∀ b ∈ fp, FpOk X pins H' b := fun hn b hb => ⟨hn b hb, (f2 b hb).2⟩
  refine codeAny_forLoop_any (fun n s' => ∃ i σ' H', Inv X pins σ' H' s' ∧ tn i s'.heap ∧ (∀ b ∈ fp, H' b = none) ∧ W i n σ' H') ?_ m0 ⟨0, σ, H2, I2, st2, fun b hb => (f2 b hb).1, w0⟩
  rintro n s3 ⟨i, σ3, H3, I3, st3, fr3, w3⟩
  rcases turn i n σ3 H3 w3 with ⟨stop, qn⟩ | ⟨go, N, hN, step⟩
  · refine wpAny_passesOwn hp (thn (T.done X rfl rfl rfl hc i pins s3 σ3 H3 X.xe I3 (stat fr3) st3 stop) fun r s4 ⟨hr, I4⟩ => ?_)
    subst hr
    exact wpAny_execs_nil ⟨σ3, H3, I4, qn⟩
  · refine wpAny_passesOwn hp (thn (T.item X rfl rfl rfl hc i pins s3 σ3 H3 X.xe I3 (stat fr3) st3 go) fun r s4 ⟨u, hr, h4⟩ => ?_)
    subst hr
    refine wpAny_passesOwn hp (thn h4 fun _ s5 ⟨x, H5, I5, r5, y5, st5, fr5⟩ => ?_)
    have I5' := I5.pinned (stat fr5) (T.obj _ _ st5)
    refine wpAny_passesOwn hp (thn (hg _ s5 σ3 H5 x u _ I5' r5 (step x H5 y5)) fun _ s6 ⟨σ6, H6, I6, q6⟩ => ?_)
    refine wpAny_passesOwn hp (thn (hb _ s6 σ6 H6 _ I6 q6) fun f s7 q7 => ?_)
    have again : ∀ {σ7 : St} {H7 : Hp}, Inv X (pins ++ pinsAt fp s5.heap) σ7 H7 s7 → N σ7 H7 → ∃ m, m < n ∧ ∃ i σ' H', Inv X pins σ' H' s7 ∧ tn i s7.heap ∧ (∀ b ∈ fp, H' b = none) ∧ W i m σ' H' := fun {σ7 H7} I7 n7 => by
      obtain ⟨m', hm, w7⟩ := hN σ7 H7 n7
      refine ⟨m', hm, i + 1, σ7, H7, I7.unpinned, T.keep _ _ _ st5 fun b hb o e => (I7.pin (b, o) (List.mem_append_right _ (List.mem_append_right _ (mem_pinsAt hb e)))).1, fun b hb => ?_, w7⟩
      obtain ⟨o, e, d⟩ := T.obj _ _ st5 b hb
      exact (I7.pin (b, o) (List.mem_append_right _ (List.mem_append_right _ (mem_pinsAt hb e)))).2.1
    cases f with
    | next => obtain ⟨σ7, H7, I7, n7⟩ := q7; exact again I7 n7
    | cont => obtain ⟨σ7, H7, I7, n7⟩ := q7; exact again I7 n7
    | brk => obtain ⟨σ7, H7, I7, q7⟩ := q7; exact ⟨σ7, H7, I7.unpinned, q7⟩
    | ret v => obtain ⟨x7, σ7, H7, I7, r7, q7⟩ := q7; exact ⟨x7, σ7, H7, I7.unpinned, r7, q7⟩
end
theorem for_list {K : PySem.W.Frag} {a : Addr} {xs : List V} {g : TG} {tb : TS} {D : Ends} {σ : St} {H : Hp} (Pv : Nat → St → Hp → Prop) (h0 : Pv 0 σ H) (hl : ∀ i σ H, i ≤ xs.length → Pv i σ H → SqL K H a xs)
    (hs : ∀ i x σ H, xs[i]? = some x → Pv i σ H → g x σ H fun σ2 H2 => tb { D with nx := Pv (i + 1), ct := Pv (i + 1), bk := D.nx } σ2 H2) (hd : ∀ σ H, Pv xs.length σ H → D.nx σ H) :
    ∃ W : Nat → Nat → St → Hp → Prop, (∃ m, W 0 m σ H) ∧ ∀ i m σ H, W i m σ H →
      ((Itl K a).stop i H ∧ D.nx σ H) ∨ ((Itl K a).go i H ∧ ∃ N : St → Hp → Prop, (∀ σ' H', N σ' H' → ∃ m', m' < m ∧ W (i + 1) m' σ' H') ∧ ∀ x H', (Itl K a).yld i H x H' → g x σ H' fun σ2 H2 => tb { D with nx := N, ct := N, bk := D.nx } σ2 H2) := by
  refine ⟨fun i m σ H => m = xs.length - i ∧ i ≤ xs.length ∧ Pv i σ H, ⟨xs.length, by simp, Nat.zero_le _, h0⟩, ?_⟩
  rintro i m σ H ⟨rfl, hi, p⟩
  have q := hl i σ H hi p
  by_cases hlt : i < xs.length
  · refine .inr ⟨⟨xs, xs[i], q, by simp [hlt]⟩, Pv (i + 1), fun σ' H' p' => ⟨xs.length - (i + 1), by omega, rfl, hlt, p'⟩, fun x H' y => ?_⟩
    obtain ⟨e, y⟩ := y
    subst e
    exact hs i x σ _ (y xs q) p
  · have e : i = xs.length := by omega
    subst e
    exact .inl ⟨⟨xs, q, Nat.le_refl _⟩, hd σ H p⟩
theorem for_tup {K : PySem.W.Frag} {a : Addr} {xs : List V} {g : TG} {tb : TS} {D : Ends} {σ : St} {H : Hp} (Pv : Nat → St → Hp → Prop) (h0 : Pv 0 σ H) (hl : ∀ i σ H, i ≤ xs.length → Pv i σ H → SqT K H a xs)
    (hs : ∀ i x σ H, xs[i]? = some x → Pv i σ H → g x σ H fun σ2 H2 => tb { D with nx := Pv (i + 1), ct := Pv (i + 1), bk := D.nx } σ2 H2) (hd : ∀ σ H, Pv xs.length σ H → D.nx σ H) :
    ∃ W : Nat → Nat → St → Hp → Prop, (∃ m, W 0 m σ H) ∧ ∀ i m σ H, W i m σ H →
      ((Itt K a).stop i H ∧ D.nx σ H) ∨ ((Itt K a).go i H ∧ ∃ N : St → Hp → Prop, (∀ σ' H', N σ' H' → ∃ m', m' < m ∧ W (i + 1) m' σ' H') ∧ ∀ x H', (Itt K a).yld i H x H' → g x σ H' fun σ2 H2 => tb { D with nx := N, ct := N, bk := D.nx } σ2 H2) := by
  refine ⟨fun i m σ H => m = xs.length - i ∧ i ≤ xs.length ∧ Pv i σ H, ⟨xs.length, by simp, Nat.zero_le _, h0⟩, ?_⟩
  rintro i m σ H ⟨rfl, hi, p⟩
  have q := hl i σ H hi p
  by_cases hlt : i < xs.length
  · refine .inr ⟨⟨xs, xs[i], q, by simp [hlt]⟩, Pv (i + 1), fun σ' H' p' => ⟨xs.length - (i + 1), by omega, rfl, hlt, p'⟩, fun x H' y => ?_⟩
    obtain ⟨e, y⟩ := y
    subst e
    exact hs i x σ _ (y xs q) p
  · have e : i = xs.length := by omega
    subst e
    exact .inl ⟨⟨xs, q, Nat.le_refl _⟩, hd σ H p⟩
theorem for_range {lo : Int} {n : Nat} {g : TG} {tb : TS} {D : Ends} {σ : St} {H : Hp} (Pv : Nat → St → Hp → Prop) (h0 : Pv 0 σ H)
    (hs : ∀ i σ H, i < n → Pv i σ H → g (.int (lo + i)) σ H fun σ2 H2 => tb { D with nx := Pv (i + 1), ct := Pv (i + 1), bk := D.nx } σ2 H2) (hd : ∀ σ H, Pv n σ H → D.nx σ H) :
    ∃ W : Nat → Nat → St → Hp → Prop, (∃ m, W 0 m σ H) ∧ ∀ i m σ H, W i m σ H →
      ((Itr lo n).stop i H ∧ D.nx σ H) ∨ ((Itr lo n).go i H ∧ ∃ N : St → Hp → Prop, (∀ σ' H', N σ' H' → ∃ m', m' < m ∧ W (i + 1) m' σ' H') ∧ ∀ x H', (Itr lo n).yld i H x H' → g x σ H' fun σ2 H2 => tb { D with nx := N, ct := N, bk := D.nx } σ2 H2) := by
  refine ⟨fun i m σ H => m = n - i ∧ i ≤ n ∧ Pv i σ H, ⟨n, by simp, Nat.zero_le _, h0⟩, ?_⟩
  rintro i m σ H ⟨rfl, hi, p⟩
  by_cases hlt : i < n
  · refine .inr ⟨hlt, Pv (i + 1), fun σ' H' p' => ⟨n - (i + 1), by omega, rfl, hlt, p'⟩, fun x H' y => ?_⟩
    obtain ⟨e, y⟩ := y
    subst e y
    exact hs i σ _ hlt p
  · have e : i = n := by omega
    subst e
    exact .inl ⟨Nat.le_refl _, hd σ H p⟩
end L2
namespace L2
open PySem PySem.Spec PyProof.Rows
abbrev R2 := V → V → Hp → VK → Prop
def OpR (X : Cx) (f : Value → Value → Sem Value) (r : R2) : Prop :=
  ∀ (pins : List (Addr × Obj)) (s : Shared) (σ : St) (H : Hp) (x y : V) (v u : Value) (Q : VK), Inv X pins σ H s → RelV x v → RelV y u → r x y H Q →
    wpAny (model X.prog X.w) X.A (f v u) (EP X pins σ Q) X.xe s
def UnR (X : Cx) (f : Value → Sem Value) (r : V → Hp → VK → Prop) : Prop :=
  ∀ (pins : List (Addr × Obj)) (s : Shared) (σ : St) (H : Hp) (x : V) (v : Value) (Q : VK), Inv X pins σ H s → RelV x v → r x H Q →
    wpAny (model X.prog X.w) X.A (f v) (EP X pins σ Q) X.xe s
def CallR (X : Cx) (f : Value) (r : List V → Hp → VK → Prop) : Prop :=
  ∀ (pins : List (Addr × Obj)) (s : Shared) (σ : St) (H : Hp) (xs : List V) (us : List Value) (Q : VK), Inv X pins σ H s → Vals xs us → r xs H Q →
    wpAny (model X.prog X.w) X.A (call f us) (EP X pins σ Q) X.xe s
def tOp (r : R2) (ta tb : TE) : TE := fun σ H Q => ta σ H fun x H1 => tb σ H1 fun y H2 => r x y H2 Q
def tUn (r : V → Hp → VK → Prop) (ta : TE) : TE := fun σ H Q => ta σ H fun x H1 => r x H1 Q
def rI (C : Int → Int → Prop) (g : Int → Int → V) : R2 := fun x y H Q => ∃ i j, x = .int i ∧ y = .int j ∧ C i j ∧ Q (g i j) H
def rI0 (g : Int → Int → V) : R2 := fun x y H Q => ∃ i j, x = .int i ∧ y = .int j ∧ Q (g i j) H
def rU (g : Int → V) : V → Hp → VK → Prop := fun x H Q => ∃ i, x = .int i ∧ Q (g i) H
section
variable {X : Cx} {a b c : Expr} {ta tb tc : TE} {pos : Pos}
theorem binT (ha : PE X a ta) (hb : PE X b tb) {pins : List (Addr × Obj)} {s : Shared} {σ : St} {H : Hp} {R : V → V → Hp → Prop} (I : Inv X pins σ H s)
    (h : ta σ H fun x H1 => tb σ H1 fun y H2 => R x y H2) {Q : Value → Shared → Prop} {f : Value → Value → Sem Value}
    (hf : ∀ v u s2 x y H2, Inv X pins σ H2 s2 → RelV x v → RelV y u → R x y H2 → wpAny (model X.prog X.w) X.A (f v u) Q X.xe s2) :
    wpAny (model X.prog X.w) X.A (eval a X.env) (fun v s₁ => wpAny (model X.prog X.w) X.A (eval b X.env) (fun u s₂ => wpAny (model X.prog X.w) X.A (f v u) Q X.xe s₂) X.xe s₁) X.xe s := by
  refine thn (ha pins s σ H _ I h) fun v s1 ⟨x, H1, I1, r1, q1⟩ => ?_
  refine thn (hb pins s1 σ H1 _ I1 q1) fun u s2 ⟨y, H2, I2, r2, q2⟩ => ?_
  exact hf v u s2 x y H2 I2 r1 r2 q2
theorem pe_op {op : Operator} {r : R2} (ho : OpR X (binaryOp op) r) (ha : PE X a ta) (hb : PE X b tb) : PE X (.BinOp a op b pos) (tOp r ta tb) := by
  intro pins s σ H Q I h
  exact wpAny_BinOp (binT ha hb I h fun v u s2 x y H2 I2 rx ry q => ho pins s2 σ H2 x y v u Q I2 rx ry q)
theorem pe_un {op : UnaryOp} {r : V → Hp → VK → Prop} (ho : UnR X (unaryOp op) r) (ha : PE X a ta) : PE X (.UnaryOp op a pos) (tUn r ta) := by
  intro pins s σ H Q I h
  exact UnaryOp_ (thn (ha pins s σ H _ I h) fun v s1 ⟨x, H1, I1, r1, q1⟩ => ho pins s1 σ H1 x v Q I1 r1 q1)
theorem opI {f : Value → Value → Sem Value} {C : Int → Int → Prop} {g : Int → Int → Int}
    (rule : ∀ (i j : Int) (t u : Tok) (s : Shared) (Q : Value → Shared → Prop) (E : Value → Shared → Prop), C i j → Q (.int (g i j) s.toks) { s with toks := s.toks + 1 } → wpAny (model X.prog X.w) X.A (f (.int i t) (.int j u)) Q E s) :
    OpR X f (rI C fun i j => .int (g i j)) := by
  intro pins s σ H x y v u Q I rx ry h
  obtain ⟨i, j, rfl, rfl, hc, q⟩ := h
  obtain ⟨t, rfl⟩ := rx
  obtain ⟨t', rfl⟩ := ry
  exact rule i j t t' s _ _ hc ⟨.int (g i j), H, I.tok _, ⟨_, rfl⟩, q⟩
theorem opI0 {f : Value → Value → Sem Value} {g : Int → Int → Int}
    (rule : ∀ (i j : Int) (t u : Tok) (s : Shared) (Q : Value → Shared → Prop) (E : Value → Shared → Prop), Q (.int (g i j) s.toks) { s with toks := s.toks + 1 } → wpAny (model X.prog X.w) X.A (f (.int i t) (.int j u)) Q E s) :
    OpR X f (rI0 fun i j => .int (g i j)) := by
  intro pins s σ H x y v u Q I rx ry h
  obtain ⟨i, j, rfl, rfl, q⟩ := h
  obtain ⟨t, rfl⟩ := rx
  obtain ⟨t', rfl⟩ := ry
  exact rule i j t t' s _ _ ⟨.int (g i j), H, I.tok _, ⟨_, rfl⟩, q⟩
theorem opB0 {f : Value → Value → Sem Value} {g : Int → Int → Bool}
    (rule : ∀ (i j : Int) (t u : Tok) (s : Shared) (Q : Value → Shared → Prop) (E : Value → Shared → Prop), Q (.bool (g i j)) s → wpAny (model X.prog X.w) X.A (f (.int i t) (.int j u)) Q E s) :
    OpR X f (rI0 fun i j => .bl (g i j)) := by
  intro pins s σ H x y v u Q I rx ry h
  obtain ⟨i, j, rfl, rfl, q⟩ := h
  obtain ⟨t, rfl⟩ := rx
  obtain ⟨t', rfl⟩ := ry
  exact rule i j t t' s _ _ ⟨.bl (g i j), H, I, rfl, q⟩
def CDiv (i j : Int) : Prop := 0 < j ∧ j < 1073741824
def CPow (i j : Int) : Prop := 0 ≤ j ∧ j ≤ 1000000 ∧ i.natAbs < 2 ^ 64
def CMul (i j : Int) : Prop := (-(2 ^ 64) < i ∧ i < 2 ^ 64) ∨ (-(2 ^ 64) < j ∧ j < 2 ^ 64)
theorem CMul.ok {i j : Int} (h : CMul i j) : IntMulOk i j := by
  rcases h with ⟨h1, h2⟩ | ⟨h1, h2⟩
  · exact .of_left (intBits_le_64 h1 h2)
  · exact .of_right (intBits_le_64 h1 h2)
theorem op_add : OpR X (binaryOp .Add) (rI0 fun i j => .int (i + j)) := opI0 fun _ _ _ _ _ _ _ q => add_int q
theorem op_sub : OpR X (binaryOp .Sub) (rI0 fun i j => .int (i - j)) := opI0 fun _ _ _ _ _ _ _ q => sub_int q
theorem op_mul : OpR X (binaryOp .Mult) (rI CMul fun i j => .int (i * j)) := opI fun _ _ _ _ _ _ _ hc q => mul_int q hc.ok
theorem op_fdiv : OpR X (binaryOp .FloorDiv) (rI CDiv fun i j => .int (i / j)) := opI fun i j _ _ _ _ _ hc q => by
  have h1 : (0 : Int) < j := hc.1
  have h2 : j < 1073741824 := hc.2
  exact floordiv_int (by omega) (by rw [Int.fdiv_eq_ediv_of_nonneg i (by omega)]; exact q) (.inl (PyProof.noPylong_small (by omega)))
theorem op_mod : OpR X (binaryOp .Mod) (rI (fun _ j => 0 < j) fun i j => .int (i % j)) := opI fun i j _ _ _ _ _ hc q => by
  have h1 : (0 : Int) < j := hc
  exact mod_int' (by omega) (by rw [Int.fmod_eq_emod_of_nonneg i (by omega)]; exact q)
theorem op_pow : OpR X (binaryOp .Pow) (rI CPow fun i j => .int (i ^ j.toNat)) := opI fun _ _ _ _ _ _ _ hc q => pow_int_small hc.1 hc.2.1 hc.2.2 q
theorem op_and : OpR X (binaryOp .BitAnd) (rI0 fun i j => .int (Builtin.bitAnd i j)) := opI0 fun _ _ _ _ _ _ _ q => and_int q
theorem op_xor : OpR X (binaryOp .BitXor) (rI0 fun i j => .int (Builtin.bitXor i j)) := opI0 fun _ _ _ _ _ _ _ q => xor_int q
theorem unI {f : Value → Sem Value} {g : Int → Int}
    (rule : ∀ (i : Int) (t : Tok) (s : Shared) (Q : Value → Shared → Prop) (E : Value → Shared → Prop), Q (.int (g i) s.toks) { s with toks := s.toks + 1 } → wpAny (model X.prog X.w) X.A (f (.int i t)) Q E s) :
    UnR X f (rU fun i => .int (g i)) := by
  intro pins s σ H x v Q I rx h
  obtain ⟨i, rfl, q⟩ := h
  obtain ⟨t, rfl⟩ := rx
  exact rule i t s _ _ ⟨.int (g i), H, I.tok _, ⟨_, rfl⟩, q⟩
theorem un_neg : UnR X (unaryOp .USub) (rU fun i => .int (-i)) := unI fun _ _ _ _ _ q => neg_int q
end
section
variable {X : Cx} {a b c : Expr} {ta tb tc : TE} {pos : Pos}
theorem op_lt : OpR X (compareOp .Lt) (rI0 fun i j => .bl (decide (i < j))) := opB0 fun _ _ _ _ _ _ _ q => lt_int q
theorem op_le : OpR X (compareOp .LtE) (rI0 fun i j => .bl (decide (i ≤ j))) := opB0 fun _ _ _ _ _ _ _ q => le_int q
theorem op_gt : OpR X (compareOp .Gt) (rI0 fun i j => .bl (decide (j < i))) := opB0 fun _ _ _ _ _ _ _ q => gt_int q
theorem op_ge : OpR X (compareOp .GtE) (rI0 fun i j => .bl (decide (j ≤ i))) := opB0 fun _ _ _ _ _ _ _ q => ge_int q
theorem nomark (b : Expr) {op : CmpOp} (h : op ≠ .In := by decide) (h2 : op ≠ .NotIn := by decide) : behindInMarks op b = false := by
  have e1 : (op == CmpOp.In) = false := by cases op <;> first | rfl | exact absurd rfl h
  have e2 : (op == CmpOp.NotIn) = false := by cases op <;> first | rfl | exact absurd rfl h2
  cases b <;> simp [behindInMarks, e1, e2]
theorem pe_cmpR {op : CmpOp} {r : R2} (ho : OpR X (compareOp op) r) (ha : PE X a ta) (hb : PE X b tb) (hm : behindInMarks op b = false) : PE X (.Compare a [op] [b] pos) (tOp r ta tb) := by
  intro pins s σ H Q I h
  exact wpAny_Compare1 (binT ha hb I h fun v u s2 x y H2 I2 rx ry q => ho pins s2 σ H2 x y v u Q I2 rx ry q) hm
def tTest (t : TE) : TT := fun σ H Q => t σ H fun x H' => ∃ k, x = .bl k ∧ Q k H'
theorem pt_cmpR {op : CmpOp} {r : R2} (ho : OpR X (compareOp op) r) (ha : PE X a ta) (hb : PE X b tb) (hm : behindInMarks op b = false) : PT X (.Compare a [op] [b] pos) (tTest (tOp r ta tb)) := by
  intro pins s σ H Q I h
  refine wpAny_isTrue_Compare1 (thn (ha pins s σ H _ I h) fun v s1 ⟨x, H1, I1, r1, q1⟩ => thn (hb pins s1 σ H1 _ I1 q1) fun u s2 ⟨y, H2, I2, r2, q2⟩ =>
    thn (ho pins s2 σ H2 x y v u _ I2 r1 r2 q2) fun c s3 ⟨z, H3, I3, r3, k, e, q3⟩ => ?_) hm
  subst e
  cases r3
  exact wpAny_truthy_bool ⟨H3, I3, q3⟩
theorem line63 : (sizeLine : Nat) < 2 ^ 63 := by rw [sizeLine_eq]; decide
theorem vals1 {x : V} {us : List Value} (r : Vals [x] us) : ∃ u, us = [u] ∧ RelV x u := by
  cases r with
  | cons r1 r2 => cases r2; exact ⟨_, rfl, r1⟩
theorem vals2 {x y : V} {us : List Value} (r : Vals [x, y] us) : ∃ u w', us = [u, w'] ∧ RelV x u ∧ RelV y w' := by
  cases r with
  | cons r1 r2 =>
    cases r2 with
    | cons r3 r4 => cases r4; exact ⟨_, _, rfl, r1, r3⟩
theorem call_max2 (hc : X.calm = true) : CallR X (.builtin "max") (fun xs H Q => ∃ i j, xs = [.int i, .int j] ∧ Q (.int (if j > i then j else i)) H) := by
  intro pins s σ H xs us Q I r h
  obtain ⟨i, j, rfl, q⟩ := h
  obtain ⟨u, w', rfl, ⟨t, rfl⟩, ⟨t', rfl⟩⟩ := vals2 r
  refine max_two_ints (I.ok.hd hc) fun h' tk k => ⟨_, H, I.kept k, ?_, q⟩
  by_cases hj : j > i
  · rw [if_pos hj, if_pos hj]; exact ⟨_, rfl⟩
  · rw [if_neg hj, if_neg hj]; exact ⟨_, rfl⟩
theorem call_min2 (hc : X.calm = true) : CallR X (.builtin "min") (fun xs H Q => ∃ i j, xs = [.int i, .int j] ∧ Q (.int (if j < i then j else i)) H) := by
  intro pins s σ H xs us Q I r h
  obtain ⟨i, j, rfl, q⟩ := h
  obtain ⟨u, w', rfl, ⟨t, rfl⟩, ⟨t', rfl⟩⟩ := vals2 r
  refine min_two_ints (I.ok.hd hc) fun h' tk k => ⟨_, H, I.kept k, ?_, q⟩
  by_cases hj : j < i
  · rw [if_pos hj, if_pos hj]; exact ⟨_, rfl⟩
  · rw [if_neg hj, if_neg hj]; exact ⟨_, rfl⟩
theorem call_int1 : CallR X (.type "int") (fun xs H Q => (∃ i, xs = [.int i] ∧ Q (.int i) H) ∨ ∃ k, xs = [.bl k] ∧ Q (.int (if k then 1 else 0)) H) := by
  intro pins s σ H xs us Q I r h
  rcases h with ⟨i, rfl, q⟩ | ⟨k, rfl, q⟩
  · obtain ⟨u, rfl, t, rfl⟩ := vals1 r
    exact call_int_int ⟨.int i, H, I, ⟨_, rfl⟩, q⟩
  · obtain ⟨u, rfl, r1⟩ := vals1 r
    cases r1
    exact call_int_bool ⟨.int (if k then 1 else 0), H, I.tok _, ⟨_, rfl⟩, q⟩
end
end L2
namespace L2
open PySem PySem.Spec PyProof.Rows
structure ObjM (h : Heap) (x dx C : Addr) (mA : Str → Option Value) : Prop where
  obj : h.get? x = some (PySem.W.instObj C dx)
  ns : h.Ns1 dx mA
  ne : dx ≠ x
theorem lookIn_ns {h : Heap} {dx : Addr} {mA : Str → Option Value} (n : h.Ns1 dx mA) : ∃ od, h.get? dx = some od ∧ ∀ name, PySem.W.lookIn name od = some (mA name) := by
  obtain ⟨o, es, ep, ho, hd, hk, _, hm⟩ := n
  refine ⟨o, ho, fun name => ?_⟩
  have e := hm name
  unfold nsFind findBy at e
  rw [← Array.find?_toList] at e
  unfold PySem.W.lookIn
  rw [hd]
  dsimp only
  split
  · rename_i y q
    rw [q] at e
    exact congrArg some e
  · rename_i q
    rw [q] at e
    have a : es.toList.any (·.refKey) = false := by
      rw [List.any_eq_false]
      intro y hy
      obtain ⟨z, t, hkey⟩ := hk y (Array.mem_toList_iff.mp hy)
      simp [DictEntry.refKey, hkey]
    have a' : ¬ es.toList.any (·.refKey) = true := by rw [a]; exact Bool.false_ne_true
    rw [if_neg a']
    exact congrArg some e
theorem ObjM.look {h : Heap} {x dx C : Addr} {mA : Str → Option Value} (I : ObjM h x dx C mA) : ∃ od, PySem.W.InstAt h x (PySem.W.instObj C dx) C (some od) ∧ ∀ name, PySem.W.lookIn name od = some (mA name) :=
  let ⟨od, ho, hl⟩ := lookIn_ns I.ns
  ⟨od, ⟨I.obj, rfl, rfl, ho⟩, hl⟩
section
variable {prog : Program} {w : World} {A : Around} {E : Value → Shared → Prop} {s : Shared} {K : PySem.W.Frag} {x dx C f : Addr} {mA : Str → Option Value} {name : Str} {v : Value}
theorem get_map {expr : Bool} {Q : Value → Shared → Prop} (X : K.In s.heap) (I : ObjM s.heap x dx C mA) (hg : PySem.W.plainGet K C name = true) (hh : PySem.W.hasDictIn K C = true)
    (ha : PySem.W.findIn K (.ref C) name = some none) (hv : mA name = some v) (hv' : PySem.W.handedIn v = true) (h : Q v { s with toks := s.toks + 1 }) :
    wpAny (model prog w) A (getAttr (.ref x) name expr) Q E s := by
  obtain ⟨od, J, hl⟩ := I.look
  exact PySem.W.get_value X J (PySem.W.plainGet_of hg).1 (PySem.W.findObj_own hh ha rfl (by rw [hl, hv])) hv' h
theorem get_meth {pl : Sem Bool} {Q : Value × List Value → Shared → Prop} (X : K.In s.heap) (I : ObjM s.heap x dx C mA) (hg : PySem.W.plainGet K C name = true)
    (hf : PySem.W.findIn K (.ref C) name = some (some (.ref f))) (ht : PySem.W.isFn K (.ref f) = true) (hv : mA name = none) (h : Q (.ref f, [.ref x]) s) :
    wpAny (model prog w) A (getMethod (.ref x) name pl) Q E s := by
  obtain ⟨od, J, hl⟩ := I.look
  exact PySem.W.method_fn X J (PySem.W.plainGet_of hg).1 (PySem.W.plainGet_of hg).2 hf (beq_iff_eq.mp ht) (by show (PySem.W.lookIn name od).map (·.isSome) = some false; rw [hl, hv]; rfl) h
theorem set_map {ns : List Str} {Q : Unit → Shared → Prop} (X : K.In s.heap) (I : ObjM s.heap x dx C mA)
    (hs : PySem.W.findIn K (.ref C) "__setattr__" = some (some (.builtin "object.__setattr__"))) (hp : PySem.W.plainOver K C = true) (ht : PySem.W.takerIn K C name = some none) (hh : PySem.W.hasDictIn K C = true)
    (hw : PySem.Within mA ns) (hsz : ns.length ≤ sizeLine)
    (h : ∀ h', ObjM h' x dx C (fun y => if y = name then some v else mA y) → Heap.SameBut dx s.heap h' → Q () { s with heap := h', toks := s.toks + 2 }) :
    wpAny (model prog w) A (setAttr (.ref x) name v) Q E s := by
  obtain ⟨od, J, hl⟩ := I.look
  refine PySem.W.set_plain X J hs (PySem.W.osa_open (s := { s with toks := s.toks + 1 }) (r := none) X J hp ht fun b => ?_)
  obtain ⟨cd, hc, hd'⟩ := PySem.W.any_some hh
  have hx : s.heap.get? x = some ⟨.ref C, some dx, .plain, #[]⟩ := I.obj
  refine wpAny_bind (wpAny_pure (wpAny_bind (wpAny_bind (wpAny_loadPart hx (wpAny_bind (PySem.W.Looks.here (s := { s with toks := s.toks + 1 }) (PySem.W.looks_clsIn X hc) ?_))))))
  rw [hd']
  refine wpAny_pure (a := some dx) (wpAny_bind (wpAny_pure (wpAny_bind ?_)))
  refine wpAny_nsSet1 (s := { s with toks := s.toks + 1 }) I.ns fun h' hn2 hs2 => ?_
  obtain ⟨oD, esD, epD, hoD, hdD, hcD⟩ := hn2.count (PySem.Within.cons name v hw)
  refine wpAny_bind (wpAny_lookBehind hoD (by rw [hdD]; exact pastItsLine_dict (Nat.le_trans hcD (by rw [List.length_cons]; omega))) ?_)
  exact wpAny_pure (h _ ⟨(hs2.2 _ (Ne.symm I.ne)).trans I.obj, hn2, I.ne⟩ hs2)
theorem make_map {R : Result → Shared → Prop} {vs : List Value} {kw : List (Str × Value)} (X : K.In s.heap) (hm : PySem.W.makesIn K C = true)
    (hi : PySem.W.findIn K (.ref C) "__init__" = some (some (.ref f))) (hf : PySem.W.typeIn K (.ref f) = some (.type "function"))
    (h : codeAny (model prog w) (A.under (.builtin "type.__call__" ⟨.ref C :: vs, kw⟩)) (.call (.ref f) ⟨.ref (s.heap.objs.size + 1) :: vs, kw⟩) (PySem.W.InitBack (s.heap.objs.size + 1) R)
      { s with heap := (s.heap.push PySem.W.emptyDict).push (PySem.W.instObj C s.heap.objs.size) }) :
    codeAny (model prog w) A (.call (.ref C) ⟨vs, kw⟩) R s := by
  obtain ⟨hh, g, d, t, os⟩ := s
  exact PySem.W.make_core (PySem.W.makes_of X hm) (PySem.W.looks_findIn X hi) (fun self => PySem.W.bind_fn X self hf) (.inl rfl) h
end
def putF (f : Str) (v : V) : List (Str × V) → List (Str × V)
  | [] => [(f, v)]
  | (g, x) :: r => if g = f then (g, v) :: r else (g, x) :: putF f v r
theorem lookup_putF (f g : Str) (v : V) : ∀ fs : List (Str × V), (putF f v fs).lookup g = if g = f then some v else fs.lookup g
  | [] => by
    show List.lookup g [(f, v)] = _
    by_cases h : g = f
    · have hb : (g == f) = true := beq_iff_eq.mpr h
      simp only [List.lookup, hb, if_pos h]
    · have hb : (g == f) = false := beq_eq_false_iff_ne.mpr h
      simp only [List.lookup, hb, if_neg h]
  | (k, x) :: r => by
    have ih := lookup_putF f g v r
    rw [show putF f v ((k, x) :: r) = (if k = f then (k, v) :: r else (k, x) :: putF f v r) from rfl]
    by_cases hk : k = f
    · rw [if_pos hk]
      by_cases h : g = k
      · have hb : (g == k) = true := beq_iff_eq.mpr h
        simp only [List.lookup, hb, if_pos (h.trans hk)]
      · have hb : (g == k) = false := beq_eq_false_iff_ne.mpr h
        simp only [List.lookup, hb, if_neg (fun e : g = f => h (e.trans hk.symm))]
    · rw [if_neg hk]
      by_cases h : g = k
      · have hb : (g == k) = true := beq_iff_eq.mpr h
        simp only [List.lookup, hb, if_neg (fun e : g = f => hk (h.symm.trans e))]
      · have hb : (g == k) = false := beq_eq_false_iff_ne.mpr h
        simp only [List.lookup, hb]
        exact ih
theorem keys_putF (f : Str) (v : V) : ∀ fs : List (Str × V), f ∈ (putF f v fs).map (·.1) ∧ ∀ g, g ∈ fs.map (·.1) → g ∈ (putF f v fs).map (·.1)
  | [] => ⟨by simp [putF], fun g h => by simp at h⟩
  | (k, x) :: r => by
    obtain ⟨i1, i2⟩ := keys_putF f v r
    rw [show putF f v ((k, x) :: r) = (if k = f then (k, v) :: r else (k, x) :: putF f v r) from rfl]
    by_cases hk : k = f
    · rw [if_pos hk]
      subst hk
      exact ⟨by simp, fun g h => by simpa using h⟩
    · rw [if_neg hk]
      refine ⟨?_, fun g h => ?_⟩
      · rw [List.map_cons]
        exact List.mem_cons_of_mem _ i1
      · rw [List.map_cons] at h ⊢
        rcases List.mem_cons.mp h with e | e
        · exact List.mem_cons.mpr (.inl e)
        · exact List.mem_cons_of_mem _ (i2 g e)
theorem length_putF (f : Str) (v : V) : ∀ fs : List (Str × V), (putF f v fs).length ≤ fs.length + 1
  | [] => by simp [putF]
  | (k, x) :: r => by
    have ih := length_putF f v r
    rw [show putF f v ((k, x) :: r) = (if k = f then (k, v) :: r else (k, x) :: putF f v r) from rfl]
    by_cases hk : k = f
    · rw [if_pos hk, List.length_cons, List.length_cons]; omega
    · rw [if_neg hk, List.length_cons, List.length_cons]; omega
theorem RelO.some_of {v : V} {o : Option Value} (r : RelO (some v) o) : ∃ u, o = some u ∧ RelV v u := by
  cases o with
  | none => exact (show False from r).elim
  | some u => exact ⟨u, rfl, r⟩
theorem RelO.none_of {o : Option Value} (r : RelO none o) : o = none := by
  cases o with
  | none => rfl
  | some u => exact (show False from r).elim
theorem handed_of {v : V} {u : Value} (r : RelV v u) : PySem.W.handedIn u = true := by
  cases v with
  | non => cases (show u = Value.none from r); rfl
  | bl b => cases (show u = Value.bool b from r); rfl
  | int i => obtain ⟨t, e⟩ := (show ∃ t, u = Value.int i t from r); cases e; rfl
  | str x => obtain ⟨t, e⟩ := (show ∃ t, u = Value.str x t from r); cases e; rfl
  | byt b => obtain ⟨t, e⟩ := (show ∃ t, u = Value.bytes b t from r); cases e; rfl
  | flt b => obtain ⟨t, e⟩ := (show ∃ t, u = Value.float b t from r); cases e; rfl
  | ref a => cases (show u = Value.ref a from r); rfl
  | ty n => cases (show u = Value.type n from r); rfl
section
variable {P : Program} {w : World} {H H' : Hp} {h h' : Heap} {a C dx : Addr} {fs fs' : List (Str × V)}
theorem ins_get (hok : HOk P w H h) (e : H a = some (.ins C dx fs)) : ∃ mA, ObjM h a dx C mA ∧ (∀ f, RelO (fs.lookup f) (mA f)) ∧ PySem.Within mA (fs.map (·.1)) ∧ fs.length ≤ 1000 ∧ H dx = some (.own a) := by
  obtain ⟨d, z, ne, ob, mA, n, r, q⟩ := (show ObjOk P w H h a (.ins C dx fs) from hok a _ e)
  exact ⟨mA, ⟨ob, n, ne⟩, r, q, z, d⟩
end
structure Cls (K : PySem.W.Frag) (C : Addr) : Prop where
  pg : PySem.W.plainGet K C Str.empty = true
  hd : PySem.W.hasDictIn K C = true
  po : PySem.W.plainOver K C = true
  sa : PySem.W.findIn K (.ref C) "__setattr__" = some (some (.builtin "object.__setattr__"))
theorem Cls.get {K : PySem.W.Frag} {C : Addr} (c : Cls K C) (f : Str) : PySem.W.plainGet K C f = true := c.pg
def NoAttr (K : PySem.W.Frag) (C : Addr) (f : Str) : Prop := PySem.W.findIn K (.ref C) f = some none
theorem NoAttr.taker {K : PySem.W.Frag} {C : Addr} {f : Str} (n : NoAttr K C f) : PySem.W.takerIn K C f = some none := by
  unfold PySem.W.takerIn
  rw [show PySem.W.findIn K (.ref C) f = some none from n]
  rfl
structure Con (K : PySem.W.Frag) (C : Addr) (f : Str) (v : V) (u : Value) : Prop where
  at_ : PySem.W.findIn K (.ref C) f = some (some u)
  rel : RelV v u
  get : PySem.W.specialIn K u "__get__" = some none
  cp : PySem.W.copiedNames.contains f = false
structure Meth (K : PySem.W.Frag) (C : Addr) (m : Str) (f : Addr) : Prop where
  at_ : PySem.W.findIn K (.ref C) m = some (some (.ref f))
  fn : PySem.W.isFn K (.ref f) = true
  kp : PySem.W.keepIn K (.ref f) = true
section
variable {X : Cx} {pins : List (Addr × Obj)} {σ : St} {H : Hp} {s : Shared} {a C dx : Addr} {fs : List (Str × V)} {f : Str} {v : V} {A : Around} {E : Value → Shared → Prop}
theorem getattr_ok {b : Bool} {Q : Value → Shared → Prop} (I : Inv X pins σ H s) (e : H a = some (.ins C dx fs)) (c : Cls X.K C) (n : NoAttr X.K C f) (l : fs.lookup f = some v)
    (h : ∀ u s', Inv X pins σ H s' → RelV v u → Q u s') : wpAny (model X.prog X.w) A (getAttr (.ref a) f b) Q E s := by
  obtain ⟨mA, O, r, _, _, _⟩ := ins_get I.hok e
  obtain ⟨u, hu, ru⟩ := RelO.some_of (v := v) (o := mA f) (by rw [← l]; exact r f)
  exact get_map I.kIn O (c.get f) c.hd n hu (handed_of ru) (h u _ (I.tok _) ru)
theorem getmeth_ok {m : Str} {g : Addr} {pl : Sem Bool} {Q : Value × List Value → Shared → Prop} (I : Inv X pins σ H s) (e : H a = some (.ins C dx fs)) (c : Cls X.K C) (k : Meth X.K C m g) (l : fs.lookup m = none)
    (h : Q (.ref g, [.ref a]) s) : wpAny (model X.prog X.w) A (getMethod (.ref a) m pl) Q E s := by
  obtain ⟨mA, O, r, _, _, _⟩ := ins_get I.hok e
  have hn : mA m = none := RelO.none_of (by rw [← l]; exact r m)
  exact get_meth I.kIn O (c.get m) k.at_ k.fn hn h
theorem setattr_ok {y : V} {u : Value} {Q : Unit → Shared → Prop} (I : Inv X pins σ H s) (e : H a = some (.ins C dx fs)) (c : Cls X.K C) (n : NoAttr X.K C f) (hl : fs.length < 1000) (ry : RelV y u)
    (h : ∀ s', Inv X pins σ (upd H a (.ins C dx (putF f y fs))) s' → Q () s') : wpAny (model X.prog X.w) A (setAttr (.ref a) f u) Q E s := by
  obtain ⟨mA, O, r, wi, _, ho⟩ := ins_get I.hok e
  have hz : (fs.map (·.1)).length ≤ sizeLine := by rw [List.length_map, sizeLine_eq]; omega
  refine set_map I.kIn O c.sa c.po n.taker c.hd wi hz fun h' O' sb => h _ ?_
  have hd : ∃ o, h'.get? dx = some o := let ⟨o, _, _, e', _⟩ := O'.ns; ⟨o, e'⟩
  refine I.write (x := a) (e := dx) (by rw [e]; exact True.intro) (.inr ho) (fun b q hb z => (sb.2 b hb).trans z) hd ?_
  refine ⟨by rw [upd_ne O.ne]; exact ho, ?_, O.ne, O'.obj, _, O'.ns, fun g => ?_, fun g hg => ?_⟩
  · have := length_putF f y fs; omega
  · show RelO ((putF f y fs).lookup g) (if g = f then some u else mA g)
    rw [lookup_putF]
    by_cases q : g = f
    · rw [if_pos q, if_pos q]; exact ry
    · rw [if_neg q, if_neg q]; exact r g
  · by_cases q : g = f
    · rw [q]; exact (keys_putF f y fs).1
    · refine (keys_putF f y fs).2 g (wi g fun z => hg ?_)
      show (if g = f then some u else mA g) = none
      rw [if_neg q]; exact z
theorem Inv.made (I : Inv X pins σ H s) : Inv X pins σ (upd (upd H s.heap.objs.size (.own (s.heap.objs.size + 1))) (s.heap.objs.size + 1) (.ins C s.heap.objs.size []))
    { s with heap := (s.heap.push PySem.W.emptyDict).push (PySem.W.instObj C s.heap.objs.size) } := by
  have e1 : (s.heap.push PySem.W.emptyDict).get? s.heap.objs.size = some PySem.W.emptyDict := Heap.get?_push_size s.heap rfl
  have e2 : ((s.heap.push PySem.W.emptyDict).push (PySem.W.instObj C s.heap.objs.size)).get? (s.heap.objs.size + 1) = some (PySem.W.instObj C s.heap.objs.size) := by
    have := Heap.get?_push_size (s.heap.push PySem.W.emptyDict) (o := PySem.W.instObj C s.heap.objs.size) rfl
    rwa [Heap.size_push] at this
  have e3 : (s.heap.push PySem.W.emptyDict).Ns s.heap.objs.size (fun _ => none) := ⟨PySem.W.emptyDict, #[], _, e1, rfl, (fun e he => absurd he (by simp)), fun _ => rfl⟩
  have I1 := I.laid (a := s.heap.objs.size) (o := .own (s.heap.objs.size + 1)) (h' := s.heap.push PySem.W.emptyDict) (t' := s.toks) (fun b u q => Heap.get?_push_of_some _ q) (Nat.le_refl _) ⟨_, e1⟩
  refine I1.laid (a := s.heap.objs.size + 1) (o := .ins C s.heap.objs.size []) (t' := s.toks) (fun b u q => Heap.get?_push_of_some _ q) (Nat.le_of_eq (Heap.size_push _ _)) ?_
  have ne : s.heap.objs.size ≠ s.heap.objs.size + 1 := Nat.ne_of_lt (Nat.lt_succ_self _)
  refine ⟨by rw [upd_ne ne, upd_same], Nat.zero_le _, ne, e2, fun _ => none, (Heap.Ns1.of_empty e3).at fun o q => Heap.get?_push_of_some _ q, fun _ => True.intro, fun y hy => absurd rfl hy⟩
theorem attr_of {prog : Program} {w : World} {env : Env} {e : Expr} {f : Str} {pos : Pos} {s : Shared} {Q : Value → Shared → Prop} (hb : attributeBase e f env (eval e env) = eval e env)
    (h : wpAny (model prog w) A (eval e env) (fun o s₁ => wpAny (model prog w) A (getAttr o f true) Q E s₁) E s) : wpAny (model prog w) A (eval (.Attribute e f pos) env) Q E s :=
  Attribute_any_ h (by rw [arm_eval_Attribute, hb])
end
def tFld (K : PySem.W.Frag) (ta : TE) (f : Str) : TE := fun σ H Q => ta σ H fun x H1 => ∃ a C dx fs v, x = .ref a ∧ H1 a = some (.ins C dx fs) ∧ Cls K C ∧ NoAttr K C f ∧ fs.lookup f = some v ∧ Q v H1
def sFld (K : PySem.W.Frag) (ta tv : TE) (f : Str) : TS := fun D σ H => tv σ H fun y H1 => ta σ H1 fun x H2 => ∃ a C dx fs, x = .ref a ∧ H2 a = some (.ins C dx fs) ∧ Cls K C ∧ NoAttr K C f ∧ fs.length < 1000 ∧
  D.nx σ (upd H2 a (.ins C dx (putF f y fs)))
section
variable {X : Cx} {o e value : Expr} {f : Str} {pos pos' tpos : Pos} {ta tv : TE}
theorem pe_fld (he : PE X e ta) (hb : attributeBase e f X.env (eval e X.env) = eval e X.env) : PE X (.Attribute e f pos) (tFld X.K ta f) := by
  intro pins s σ H Q I h
  refine attr_of hb (thn (he pins s σ H _ I h) fun u s1 ⟨x, H1, I1, rx, a, C, dx, fs, v, ex, ea, c, n, l, q⟩ => ?_)
  subst ex
  obtain rfl : u = Value.ref a := rx
  exact getattr_ok I1 ea c n l fun u' s2 I2 ru => ⟨v, H1, I2, ru, q⟩
theorem ps_fld (ha : PE X o ta) (hv : PE X value tv) (hs : swapsWith value (some (.Attribute o f pos')) pos.line X.env = pure false) : PS X (.Assign [.Attribute o f pos'] value pos) (sFld X.K ta tv f) := by
  intro pins s σ H D I h
  refine plainObj_wpAny_Assign_Attribute (thn (hv pins s σ H _ I h) fun u s1 ⟨y, H1, I1, ry, q⟩ => thn (ha pins s1 σ H1 _ I1 q) fun ov s2 ⟨x, H2, I2, rx, a, C, dx, fs, ex, ea, c, n, l, q2⟩ => ?_) hs
  subst ex
  obtain rfl : ov = Value.ref a := rx
  exact setattr_ok I2 ea c n l ry fun s3 I3 => ⟨σ, _, I3, q2⟩
end
section
variable {X : Cx} {pins : List (Addr × Obj)} {σ : St} {H : Hp} {s : Shared} {A : Around} {E : Value → Shared → Prop} {Q : Value → Shared → Prop} {c : Value} {b : Bool}
inductive TyOf (K : PySem.W.Frag) (H : Hp) : V → Value → Prop where
  | non : TyOf K H .non (.type "NoneType")
  | bl (x : Bool) : TyOf K H (.bl x) (.type "bool")
  | int (i : Int) : TyOf K H (.int i) (.type "int")
  | str (x : Str) : TyOf K H (.str x) (.type "str")
  | flt (x : UInt64) : TyOf K H (.flt x) (.type "float")
  | lst {a : Addr} {xs : List V} (e : H a = some (.lst xs)) : TyOf K H (.ref a) (.type "list")
  | frz {a : Addr} {o : Obj} {xs : List V} (e : H a = some (.frz o (.lst xs))) : TyOf K H (.ref a) (.type "list")
  | tup {a : Addr} {xs : List V} (e : H a = some (.tup xs)) : TyOf K H (.ref a) (.type "tuple")
  | dK {a : Addr} {kvs : List (Key × V)} (e : H a = some (.dK kvs)) : TyOf K H (.ref a) (.type "dict")
  | dT {a : Addr} {kvs : List (List Key × V)} (e : H a = some (.dT kvs)) : TyOf K H (.ref a) (.type "dict")
  | ins {a C dx : Addr} {fs : List (Str × V)} (e : H a = some (.ins C dx fs)) (cl : Cls K C) (ha : PySem.W.findIn K (.ref C) "__class__" = some (some (.builtin "object.__class__")))
      (hn : PySem.W.specialIn K (.builtin "object.__class__") "__get__" = some (some (.builtin "getset_descriptor.__get__"))) (htk : PySem.W.takesIn K (.builtin "object.__class__") = some true)
      (hm : PySem.W.mroIn K C (.type "object") = some true) : TyOf K H (.ref a) (.ref C)
theorem isinst_ok {x : V} {u t : Value} (I : Inv X pins σ H s) (rx : RelV x u) (ty : TyOf X.K H x t) (e : PySem.W.kitOne X.K t c = some b) (h : ∀ tk, Q (.bool b) { s with toks := tk }) :
    wpAny (model X.prog X.w) A (call (.builtin "isinstance") [u, c]) Q E s := by
  cases ty with
  | non => cases (show u = Value.none from rx); exact PySem.W.kia_one PySem.W.kitx_none I.kIn True.intro e (fun z => nomatch z) h
  | bl y => cases (show u = Value.bool y from rx); exact PySem.W.kia_one PySem.W.kitx_bool I.kIn True.intro e (fun z => nomatch z) h
  | int i => obtain ⟨t, q⟩ := (show ∃ t, u = Value.int i t from rx); cases q; exact PySem.W.kia_one PySem.W.kitx_int I.kIn True.intro e (fun z => nomatch z) h
  | str y => obtain ⟨t, q⟩ := (show ∃ t, u = Value.str y t from rx); cases q; exact PySem.W.kia_one PySem.W.kitx_str I.kIn True.intro e (fun z => nomatch z) h
  | flt y => obtain ⟨t, q⟩ := (show ∃ t, u = Value.float y t from rx); cases q; exact PySem.W.kia_one PySem.W.kitx_float I.kIn True.intro e (fun z => nomatch z) h
  | @lst a xs ea =>
    cases (show u = Value.ref a from rx)
    obtain ⟨_, _, n, _, h1⟩ := (show ObjOk X.prog X.w H s.heap a (.lst xs) from I.hok a _ ea)
    exact PySem.W.kia_one PySem.W.kitx_list I.kIn ⟨_, h1, rfl⟩ e (fun z => nomatch z) h
  | @frz a ob xs ea =>
    cases (show u = Value.ref a from rx)
    obtain ⟨_, _, _, n, _, h1⟩ := (show ObjOk X.prog X.w H s.heap a (.frz ob (.lst xs)) from I.hok a _ ea)
    exact PySem.W.kia_one PySem.W.kitx_list I.kIn ⟨_, h1, rfl⟩ e (fun z => nomatch z) h
  | @tup a xs ea =>
    cases (show u = Value.ref a from rx)
    obtain ⟨_, ⟨_, _, p⟩, _⟩ := (show ObjOk X.prog X.w H s.heap a (.tup xs) from I.hok a _ ea)
    obtain ⟨o, h1, h2, _⟩ := p
    exact PySem.W.kia_one PySem.W.kitx_tuple I.kIn ⟨o, h1, h2⟩ e (fun z => nomatch z) h
  | @dK a kvs ea =>
    cases (show u = Value.ref a from rx)
    obtain ⟨_, _, vs, _, p⟩ := (show ObjOk X.prog X.w H s.heap a (.dK kvs) from I.hok a _ ea)
    obtain ⟨o, es, ep, h1, h2, _⟩ := p
    exact PySem.W.kia_one PySem.W.kitx_dict I.kIn ⟨o, h1, h2.1⟩ e (fun z => nomatch z) h
  | @dT a kvs ea =>
    cases (show u = Value.ref a from rx)
    obtain ⟨_, _, xs, _, o, es, ep, h1, h2, _⟩ := (show ObjOk X.prog X.w H s.heap a (.dT kvs) from I.hok a _ ea)
    exact PySem.W.kia_one PySem.W.kitx_dict I.kIn ⟨o, h1, h2.1⟩ e (fun z => nomatch z) h
  | @ins a C dx fs ea cl ha hn htk hm =>
    cases (show u = Value.ref a from rx)
    obtain ⟨mA, O, _⟩ := ins_get I.hok ea
    obtain ⟨od, J, _⟩ := O.look
    exact PySem.W.kia_one (PySem.W.kitx_own (cl.get _) cl.hd ha hn htk hm) I.kIn J e (fun z => nomatch z) h
end
end L2
namespace L2
open PySem PySem.Spec PyProof.Rows
structure Room (k : Nat) (A : Around) : Prop where
  hd : A.handled = none
  dp : A.depth + 3 * k + 5 < recursionLimit
  un : A.units + 16 * k + 200 < cLine
theorem Room.mono {j k : Nat} {A : Around} (r : Room k A) (h : j ≤ k) : Room j A := ⟨r.hd, by have := r.dp; omega, by have := r.un; omega⟩
theorem Room.deeper {k : Nat} {A : Around} (r : Room (k + 1) A) (env : Env) : Room k (A.deeper env) :=
  ⟨r.hd, by have := r.dp; show A.depth + 1 + 3 * k + 5 < _; omega, by have := r.un; show A.units + 3 + 16 * k + 200 < _; omega⟩
theorem Room.in1 {k : Nat} {A : Around} (r : Room (k + 1) A) : Room k A.in1 :=
  ⟨r.hd, by have := r.dp; show A.depth + 3 * k + 5 < _; omega, by have := r.un; show A.units + 1 + 16 * k + 200 < _; omega⟩
theorem make_depth {A : Around} {C : Addr} {us : List Value} {kw : List (Str × Value)} : (A.under (.builtin "type.__call__" ⟨.ref C :: us, kw⟩)).depth = A.depth + 1 := by
  first | rfl | simp [Around.under, Code.weight, Code.isCreation, Code.isGuard, Code.isCaller, Code.frames, Code.isFrame, guardIds]
theorem make_units {A : Around} {C : Addr} {us : List Value} {kw : List (Str × Value)} : (A.under (.builtin "type.__call__" ⟨.ref C :: us, kw⟩)).units = A.units + 1 := by
  first | rfl | simp [Around.under, Code.cUnits, Code.frames, Code.isFrame]
theorem Room.make {k : Nat} {A : Around} (r : Room (k + 1) A) (C : Addr) (us : List Value) (kw : List (Str × Value)) : Room k (A.under (.builtin "type.__call__" ⟨.ref C :: us, kw⟩)) :=
  ⟨r.hd, by have := r.dp; rw [make_depth]; omega, by have := r.un; rw [make_units]; omega⟩
theorem Room.depth {k : Nat} {A : Around} (r : Room k A) : A.depth < recursionLimit := by have := r.dp; omega
theorem Room.units {k : Nat} {A : Around} (r : Room k A) : A.units + 64 < cLine := by have := r.un; omega
def tNil : TA := fun _ H Q => Q [] H
def tCons (ta : TE) (tr : TA) : TA := fun σ H Q => ta σ H fun x H1 => tr σ H1 fun xs H2 => Q (x :: xs) H2
section
variable {X : Cx} {e : Expr} {es : List Expr} {te : TE} {t : TA} {pos : Pos}
theorem pa_nil : PA X [] tNil := fun _ _ _ _ H Q I h => Calls.spliced_nil ⟨[], H, I, .nil, h⟩
theorem pa_cons (ha : PE X e te) (hr : PA X es t) (hs : starEach (e :: es) X.env = (false, eval e X.env) :: starEach es X.env := by rfl) : PA X (e :: es) (tCons te t) := by
  intro pos pins s σ H Q I h
  rw [hs]
  show wpAny _ _ (spliced ((false, eval e X.env) :: backTo pos (starEach es X.env))) _ _ s
  refine Calls.spliced_cons (thn (ha pins s σ H _ I h) fun u s1 ⟨x, H1, I1, r1, q1⟩ => ?_)
  exact thn (hr pos pins s1 σ H1 _ I1 q1) fun us s2 ⟨xs, H2, I2, r2, q2⟩ => ⟨x :: xs, H2, I2, .cons r1 r2, q2⟩
def tTup (t : TA) : TE := fun σ H Q => t σ H fun xs H1 => xs.length ≤ sizeLine ∧ ∀ p, H1 p = none → Q (.ref p) (upd H1 p (.tup xs))
def tLst (t : TA) : TE := fun σ H Q => t σ H fun xs H1 => xs.length ≤ sizeLine ∧ ∀ p, H1 p = none → Q (.ref p) (upd H1 p (.lst xs))
theorem pe_tup {x1} (h : PA X es t) : PE X (.Tuple es x1 pos) (tTup t) := by
  intro pins s σ H Q I hq
  refine wpAny_Tuple_spliced (thn (h pos pins s σ H _ I hq) fun us s1 ⟨xs, H1, I1, r, z, q⟩ => ⟨by rw [← r.length]; exact z, ?_⟩)
  have hf : H1 s1.heap.objs.size = none := I1.hok.fresh (Nat.le_refl _)
  refine ⟨.ref s1.heap.objs.size, upd H1 s1.heap.objs.size (.tup xs), I1.laid (t' := s1.toks) (fun b u e => Heap.get?_push_of_some _ e) (Nat.le_refl _) ?_, rfl, q _ hf⟩
  exact ⟨z, ⟨us, r, ⟨_, Heap.get?_push_size _ rfl, rfl, _, rfl⟩⟩, _, Heap.get?_push_size _ rfl, rfl⟩
theorem pe_lst (h : PA X es t) : PE X (.List es pos) (tLst t) := by
  intro pins s σ H Q I hq
  refine wpAny_List_spliced (thn (h pos pins s σ H _ I hq) fun us s1 ⟨xs, H1, I1, r, z, q⟩ => ⟨by rw [← r.length]; exact z, ?_⟩)
  have hf : H1 s1.heap.objs.size = none := I1.hok.fresh (Nat.le_refl _)
  refine ⟨.ref s1.heap.objs.size, upd H1 s1.heap.objs.size (.lst xs), I1.laid (t' := s1.toks) (fun b u e => Heap.get?_push_of_some _ e) (Nat.le_refl _) ?_, rfl, q _ hf⟩
  exact ⟨z, us, 0, r, Heap.get?_push_size _ rfl⟩
end
abbrev Sp := List V → Hp → VK → XK → Prop
abbrev CXT := List Env → Hp → Shared → XK → Value → Shared → Prop
structure Env0 (P : Program) (w : World) (K : PySem.W.Frag) (mg : Str → Option Value) (base : Heap) (A : Around) (outer : List Env) (s : Shared) (H : Hp) : Prop where
  frames : A.frames = some outer
  mod : Mod K mg base
  bs : ∀ b o, base.get? b = some o → s.heap.get? b = some o ∧ H b = none
  bsz : base.objs.size ≤ s.heap.objs.size
  funs : s.heap.FunFrames base outer
  frf : ∀ b ∈ frs outer, H b = none
  hok : HOk P w H s.heap
  bare : AllBare s.gens
def CE (outer : List Env) (P : Program) (w : World) (H : Hp) (s : Shared) (Q : VK) (u : Value) (s' : Shared) : Prop :=
  ∃ v H', s'.os = s.os ∧ AllBare s'.gens ∧ Un (frs outer) [] H H' s.heap s'.heap ∧ HOk P w H' s'.heap ∧ RelV v u ∧ Q v H'
def CR (CX : CXT) (outer : List Env) (P : Program) (w : World) (H : Hp) (s : Shared) (Q : VK) (E : XK) (r : Result) (s' : Shared) : Prop :=
  match r with
  | .ok (.ret u) => CE outer P w H s Q u s'
  | .ok _ => False
  | .error e => CX outer H s E e s'
structure FnOk (P : Program) (w : World) (K : PySem.W.Frag) (mg : Str → Option Value) (base : Heap) (CX : CXT) (k : Nat) (f : Addr) (fd : FuncData) (ps : List Str) (sp : Sp) : Prop where
  len : ∀ vs H Q E, sp vs H Q E → vs.length = ps.length
  run : ∀ (A : Around) (outer : List Env) (s : Shared) (H : Hp) (args : Args) (us : List Value) (vs : List V) (Q : VK) (E : XK), Room k A → Env0 P w K mg base A outer s H → BindsTo s fd args (ps.zip us) → Vals vs us → sp vs H Q E →
    codeAny (model P w) A (.call (.ref f) args) (CR CX outer P w H s Q E) s
theorem FnOk.mono {P : Program} {w : World} {K : PySem.W.Frag} {mg : Str → Option Value} {base : Heap} {CX : CXT} {j k : Nat} {f : Addr} {fd : FuncData} {ps : List Str} {sp : Sp} (F : FnOk P w K mg base CX j f fd ps sp) (h : j ≤ k) :
    FnOk P w K mg base CX k f fd ps sp := ⟨F.len, fun A outer s H args us vs Q E hr => F.run A outer s H args us vs Q E (hr.mono h)⟩
theorem FnOk.imp {P : Program} {w : World} {K : PySem.W.Frag} {mg : Str → Option Value} {base : Heap} {CX : CXT} {k : Nat} {f : Addr} {fd : FuncData} {ps : List Str} {sp sp' : Sp} (F : FnOk P w K mg base CX k f fd ps sp)
    (h : ∀ vs H Q E, sp' vs H Q E → sp vs H Q E) : FnOk P w K mg base CX k f fd ps sp' :=
  ⟨fun vs H Q E q => F.len vs H Q E (h _ _ _ _ q), fun A outer s H args us vs Q E hr he hb hv hs => F.run A outer s H args us vs Q E hr he hb hv (h _ _ _ _ hs)⟩
theorem Env0.make {P : Program} {w : World} {K : PySem.W.Frag} {mg : Str → Option Value} {base : Heap} {A : Around} {outer : List Env} {s : Shared} {H : Hp} (e : Env0 P w K mg base A outer s H) (C : Addr) (us : List Value) (kw : List (Str × Value)) :
    Env0 P w K mg base (A.under (.builtin "type.__call__" ⟨.ref C :: us, kw⟩)) outer s H := ⟨by first | exact e.frames | (simpa [Around.under, Code.envs, Code.isFrame, pushEnvs] using e.frames), e.mod, e.bs, e.bsz, e.funs, e.frf, e.hok, e.bare⟩
theorem Env0.in1 {P : Program} {w : World} {K : PySem.W.Frag} {mg : Str → Option Value} {base : Heap} {A : Around} {outer : List Env} {s : Shared} {H : Hp} (e : Env0 P w K mg base A outer s H) :
    Env0 P w K mg base A.in1 outer s H := ⟨e.frames, e.mod, e.bs, e.bsz, e.funs, e.frf, e.hok, e.bare⟩
section
variable {X : Cx} {pins : List (Addr × Obj)} {σ : St} {H : Hp} {s s' : Shared}
theorem Inv.env0 (I : Inv X pins σ H s) : Env0 X.prog X.w X.K X.mg X.base X.A X.stack s H :=
  ⟨I.ok.frames, I.ok.mod, I.bs, Nat.le_trans I.ok.bsz I.sz, I.stack, I.stkFree, I.hok, I.bare⟩
theorem Inv.after {Q : VK} {u : Value} (I : Inv X pins σ H s) (h : CE X.stack X.prog X.w H s Q u s') : EP X pins σ Q u s' := by
  obtain ⟨v, H', os, bare, un, hok, r, q⟩ := h
  obtain ⟨hh, g, d, t, os'⟩ := s'
  obtain rfl : os' = s.os := os
  exact ⟨v, H', I.call (h' := hh) (g' := g) (d' := d) (t' := t) (ch := []) un hok bare (fun b z => absurd z (by simp)), r, q⟩
end
def tCall (sp : Sp) (dvs : List V) (E : XK) (t : TA) : TE := fun σ H Q => t σ H fun vs H1 => sp (vs ++ dvs) H1 Q E
def tMeth (C : Addr) (m : Str) (sp : Sp) (dvs : List V) (E : XK) (ta : TE) (t : TA) : TE := fun σ H Q => ta σ H fun x H1 => ∃ a dx fs, x = .ref a ∧ H1 a = some (.ins C dx fs) ∧ fs.lookup m = none ∧
  t σ H1 fun vs H2 => sp (x :: (vs ++ dvs)) H2 Q E
def tMake (C : Addr) (sp : Sp) (dvs : List V) (E : XK) (t : TA) : TE := fun σ H Q => t σ H fun vs H1 => ∀ x dx, H1 x = none → H1 dx = none → dx ≠ x →
  sp (.ref x :: (vs ++ dvs)) (upd (upd H1 dx (.own x)) x (.ins C dx [])) (fun v H2 => v = .non ∧ Q (.ref x) H2) E
def Binds (K : PySem.W.Frag) (fd : FuncData) (ps : List Str) (ds : List Value) : Prop :=
  ∀ (s : Shared) (us : List Value), K.In s.heap → (us ++ ds).length = ps.length → BindsTo s fd ⟨us, []⟩ (ps.zip (us ++ ds))
theorem Binds.all {K : PySem.W.Frag} {fd : FuncData} {ps : List Str} (h : ∀ us : List Value, us.length = ps.length → bindArgs fd ⟨us, []⟩ = pure (ps.zip us)) : Binds K fd ps [] := fun s us _ hl => by
  rw [List.append_nil] at hl ⊢
  exact .of_eq (h us hl)
def Passes (CX : CXT) (X : Cx) (E : XK) : Prop := ∀ (pins : List (Addr × Obj)) (σ : St) (H : Hp) (s : Shared) (e : Value) (s' : Shared), Inv X pins σ H s → CX X.stack H s E e s' → X.xe e s'
section
variable {X : Cx} {CX : CXT} {k : Nat} {f C : Addr} {fd : FuncData} {ps : List Str} {sp : Sp} {dvs : List V} {ds : List Value} {E : XK} {x m : Str} {p pos apos : Pos} {e o : Expr} {es : List Expr} {ta : TE} {t : TA}
theorem run_fn {pins : List (Addr × Obj)} {σ : St} {H : Hp} {s : Shared} {Q : VK} {us : List Value} {vs : List V} (F : FnOk X.prog X.w X.K X.mg X.base CX k f fd ps sp) (hr : Room k X.A) (hb : Binds X.K fd ps ds) (hd : Vals dvs ds) (hx : Passes CX X E)
    (I : Inv X pins σ H s) (r : Vals vs us) (h : sp (vs ++ dvs) H Q E) : wpAny (model X.prog X.w) X.A (call (.ref f) us) (EP X pins σ Q) X.xe s := by
  have r2 : Vals (vs ++ dvs) (us ++ ds) := r.append hd
  have hl : (us ++ ds).length = ps.length := by rw [← r2.length]; exact F.len _ _ _ _ h
  refine wpAny_call (codeAny_mono (F.run X.A X.stack s H ⟨us, []⟩ (us ++ ds) (vs ++ dvs) Q E hr I.env0 (hb s us I.kIn hl) r2 h) fun r s' hq => ?_)
  cases r with
  | error e => exact hx pins σ H s e s' I hq
  | ok fl =>
    cases fl with
    | ret u => exact I.after hq
    | next => exact False.elim hq
    | brk => exact False.elim hq
    | cont => exact False.elim hq
theorem pe_call (F : FnOk X.prog X.w X.K X.mg X.base CX k f fd ps sp) (hr : Room k X.A) (hg : Gl X x) (hm : X.mg x = some (.ref f)) (hk : PySem.W.keepIn X.K (.ref f) = true) (hb : Binds X.K fd ps ds) (hd : Vals dvs ds) (hx : Passes CX X E)
    (ha : PA X (e :: es) t) (hdb : (x == ("__debug__" : Str)) = false := by decide) (he : starEach (e :: es) X.env = (false, eval e X.env) :: starEach es X.env := by rfl) (hpl : (backTo pos (starEach es X.env)).any (·.1) = false := by rfl) :
    PE X (.Call (.Name x p) (e :: es) [] pos) (tCall sp dvs E t) := by
  intro pins s σ H Q I h
  refine wpAny_Call_Name_kw (ld_glob I hg hm ?_ hdb)
  refine PySem.W.callWith_K (h₀ := X.base) I.ok.mod.kin hk (thn (ha pos pins s σ H _ I h) fun us s1 ⟨vs, H1, I1, r, q⟩ => ⟨I1.kIn, ?_⟩) he hpl
  exact run_fn F hr hb hd hx I1 r q
theorem pe_meth {pl : Sem Bool} (he : PE X o ta) (c : Cls X.K C) (hm : Meth X.K C m f) (F : FnOk X.prog X.w X.K X.mg X.base CX k f fd ps sp) (hr : Room k X.A) (hb : Binds X.K fd ps ds) (hd : Vals dvs ds) (hx : Passes CX X E) (ha : PA X (e :: es) t)
    (hst : starEach (e :: es) X.env = (false, eval e X.env) :: starEach es X.env := by rfl) (hpl : (backTo pos (starEach es X.env)).any (·.1) = false := by rfl)
    (ht : eval (.Call (.Attribute o m apos) (e :: es) [] pos) X.env = (do
      let ov ← eval o X.env
      standAt apos.atName
      let (f, first) ← holding [ov] (getMethod ov m pl)
      callWith pos f first (backTo pos (starEach (e :: es) X.env)) (backToKw pos (keywordEach [] X.env))) := by rfl) :
    PE X (.Call (.Attribute o m apos) (e :: es) [] pos) (tMeth C m sp dvs E ta t) := by
  intro pins s σ H Q I h
  refine PySem.W.methodCall_KW (pl := pl) (thn (he pins s σ H _ I h) fun u s1 ⟨x, H1, I1, rx, a, dx, fs, ex, ea, l, q⟩ => ?_) ht
  subst ex
  obtain rfl : u = Value.ref a := rx
  refine getmeth_ok I1 ea c hm l ?_
  refine PySem.W.callWith_K (first := [.ref a]) (h₀ := X.base) I.ok.mod.kin hm.kp (thn (ha pos pins s1 σ H1 _ I1 q) fun us s2 ⟨vs, H2, I2, r, q2⟩ => ⟨I2.kIn, ?_⟩) hst hpl
  exact run_fn (us := .ref a :: us) (vs := .ref a :: vs) F hr hb hd hx I2 (.cons rfl r) q2
structure Mk (K : PySem.W.Frag) (C f : Addr) : Prop where
  makes : PySem.W.makesIn K C = true
  init : PySem.W.findIn K (.ref C) "__init__" = some (some (.ref f))
  fn : PySem.W.isFn K (.ref f) = true
  kp : PySem.W.keepIn K (.ref C) = true
theorem run_make {pins : List (Addr × Obj)} {σ : St} {H : Hp} {s : Shared} {Q : VK} {us : List Value} {vs : List V} (M : Mk X.K C f) (F : FnOk X.prog X.w X.K X.mg X.base CX k f fd ps sp) (hr : Room (k + 1) X.A) (hb : Binds X.K fd ps ds) (hd : Vals dvs ds)
    (hx : Passes CX X E) (I : Inv X pins σ H s) (r : Vals vs us)
    (h : ∀ x dx, H x = none → H dx = none → dx ≠ x → sp (.ref x :: (vs ++ dvs)) (upd (upd H dx (.own x)) x (.ins C dx [])) (fun v H2 => v = .non ∧ Q (.ref x) H2) E) :
    wpAny (model X.prog X.w) X.A (call (.ref C) us) (EP X pins σ Q) X.xe s := by
  have hq := h (s.heap.objs.size + 1) s.heap.objs.size (I.hok.fresh (Nat.le_succ _)) (I.hok.fresh (Nat.le_refl _)) (Nat.ne_of_lt (Nat.lt_succ_self _))
  have I2 := Inv.made (C := C) I
  have r2 : Vals (V.ref (s.heap.objs.size + 1) :: (vs ++ dvs)) (Value.ref (s.heap.objs.size + 1) :: (us ++ ds)) := .cons rfl (r.append hd)
  have hl : (Value.ref (s.heap.objs.size + 1) :: us ++ ds).length = ps.length := by
    have e := r2.length
    rw [F.len _ _ _ _ hq] at e
    exact e.symm
  refine wpAny_call (make_map (f := f) I.kIn M.makes M.init (beq_iff_eq.mp M.fn) (codeAny_mono (F.run _ X.stack _ _ ⟨Value.ref (s.heap.objs.size + 1) :: us, []⟩ (Value.ref (s.heap.objs.size + 1) :: (us ++ ds)) _ _ E (hr.make C us [])
    (I2.env0.make C us []) (hb _ (Value.ref (s.heap.objs.size + 1) :: us) I2.kIn hl) r2 hq) fun r s' hq' => ?_))
  cases r with
  | error e => exact hx pins σ _ _ e s' I2 hq'
  | ok fl =>
    cases fl with
    | ret u =>
      obtain ⟨v, H', I3, rv, ev, q3⟩ := I2.after hq'
      subst ev
      exact ⟨rv, ⟨V.ref (s.heap.objs.size + 1), H', I3, rfl, q3⟩⟩
    | next => exact False.elim hq'
    | brk => exact False.elim hq'
    | cont => exact False.elim hq'
theorem pe_make0 (M : Mk X.K C f) (F : FnOk X.prog X.w X.K X.mg X.base CX k f fd ps sp) (hr : Room (k + 1) X.A) (hg : Gl X x) (hm : X.mg x = some (.ref C)) (hb : Binds X.K fd ps ds) (hd : Vals dvs ds) (hx : Passes CX X E)
    (hdb : (x == ("__debug__" : Str)) = false := by decide) : PE X (.Call (.Name x p) [] [] pos) (tMake C sp dvs E tNil) := by
  intro pins s σ H Q I h
  refine wpAny_Call_Name_kw (ld_glob I hg hm ?_ hdb)
  exact PySem.W.callWith_K0 I.kIn M.kp (run_make (us := []) M F hr hb hd hx I .nil h)
end
def PK (X : Cx) (kws : List Keyword) (t : TA) : Prop :=
  ∀ (pos : Pos) (pins : List (Addr × Obj)) (s : Shared) (σ : St) (H : Hp) (Q : List V → Hp → Prop), Inv X pins σ H s → t σ H Q → wpAny (model X.prog X.w) X.A (evalAll ((backToKw pos (keywordEach kws X.env)).map (·.2))) (AP X pins σ Q) X.xe s
section
variable {X : Cx} {CX : CXT} {k : Nat} {f C : Addr} {fd : FuncData} {ps ks : List Str} {sp : Sp} {E : XK} {x m : Str} {p pos apos kpos : Pos} {e o : Expr} {es : List Expr} {kws : List Keyword} {te ta : TE} {t tk : TA} {nm : Option Str}
theorem pk_nil : PK X [] tNil := fun _ _ _ _ H Q I h => wpAny_evalAll_nil ⟨[], H, I, .nil, h⟩
theorem pk_cons (ha : PE X e te) (hr : PK X kws t) : PK X (⟨nm, e, kpos⟩ :: kws) (tCons te t) := by
  intro pos pins s σ H Q I h
  show wpAny _ _ (evalAll ((do let v ← eval e X.env; standAt pos; pure v) :: (backToKw pos (keywordEach kws X.env)).map (·.2))) _ _ s
  refine wpAny_evalAll_cons (wpAny_bind (thn (ha pins s σ H _ I h) fun u s1 ⟨x, H1, I1, r1, q1⟩ => wpAny_bind (wpAny_standAt (wpAny_pure ?_))))
  exact thn (hr pos pins s1 σ H1 _ I1 q1) fun us s2 ⟨xs, H2, I2, r2, q2⟩ => ⟨x :: xs, H2, I2, .cons r1 r2, q2⟩
structure KBinds (K : PySem.W.Frag) (fd : FuncData) (ps ks : List Str) (g : List Value → List Value → List Value) (gV : List V → List V → List V) : Prop where
  to : ∀ (s : Shared) (us ws : List Value), K.In s.heap → (g us ws).length = ps.length → BindsTo s fd ⟨us, ks.zip ws⟩ (ps.zip (g us ws))
  rel : ∀ {vs : List V} {us : List Value} {zs : List V} {ws : List Value}, Vals vs us → Vals zs ws → Vals (gV vs zs) (g us ws)
variable {g : List Value → List Value → List Value} {gV : List V → List V → List V}
end
structure FnScope (N P : List Str) (sc : Scope) : Prop where
  kind : sc.kind = .function
  co : sc.isCoroutine = false
  gen : sc.isGenerator = false
  nd : N.Nodup
  pre : N.take P.length = P
  par : ∀ x ∈ P, sc.names.lookup x = some .local ∨ sc.names.lookup x = some .cell
  nofree : ∀ y ∈ sc.names, y.2 ≠ .free
theorem bindL_out {kindOf : Str → Option NameKind} {x : Str} : ∀ {binds : List (Str × Value)} {m : Str → Option Value}, (∀ v, (x, v) ∉ binds) → bindL kindOf binds m x = m x
  | [], _, _ => rfl
  | (n, v) :: r, m, h => by
    unfold bindL
    rw [bindL_out fun w hw => h w (List.mem_cons_of_mem _ hw)]
    split
    · have : x ≠ n := by rintro rfl; exact h v List.mem_cons_self
      simp [this]
    · rfl
theorem bindC_out {kindOf : Str → Option NameKind} {x : Str} : ∀ {binds : List (Str × Value)} {m : Str → Option Value}, (∀ v, (x, v) ∉ binds) → bindC kindOf binds m x = m x
  | [], _, _ => rfl
  | (n, v) :: r, m, h => by
    unfold bindC
    rw [bindC_out fun w hw => h w (List.mem_cons_of_mem _ hw)]
    split
    · rfl
    · have : x ≠ n := by rintro rfl; exact h v List.mem_cons_self
      simp [this]
theorem bindL_get {kindOf : Str → Option NameKind} {x : Str} {v : Value} : ∀ {P : List Str} {vs : List Value} {i : Nat} {m : Str → Option Value}, P.Nodup → P[i]? = some x → vs[i]? = some v → kindOf x = some .local →
    bindL kindOf (P.zip vs) m x = some v
  | [], _, _, _, _, h, _, _ => by simp at h
  | _ :: _, [], _, _, _, _, h, _ => by simp at h
  | p :: P, w :: vs, 0, m, nd, h1, h2, hk => by
    simp at h1 h2; subst h1; subst h2
    show bindL kindOf ((p, w) :: P.zip vs) m p = _
    unfold bindL
    rw [bindL_out fun v hv => (List.nodup_cons.mp nd).1 (List.of_mem_zip hv).1, if_pos hk]
    simp
  | p :: P, w :: vs, i + 1, m, nd, h1, h2, hk => by
    show bindL kindOf ((p, w) :: P.zip vs) m x = _
    unfold bindL
    exact bindL_get (i := i) (List.nodup_cons.mp nd).2 (by simpa using h1) (by simpa using h2) hk
theorem bindC_get {kindOf : Str → Option NameKind} {x : Str} {v : Value} : ∀ {P : List Str} {vs : List Value} {i : Nat} {m : Str → Option Value}, P.Nodup → P[i]? = some x → vs[i]? = some v → kindOf x ≠ some .local →
    bindC kindOf (P.zip vs) m x = some v
  | [], _, _, _, _, h, _, _ => by simp at h
  | _ :: _, [], _, _, _, _, h, _ => by simp at h
  | p :: P, w :: vs, 0, m, nd, h1, h2, hk => by
    simp at h1 h2; subst h1; subst h2
    show bindC kindOf ((p, w) :: P.zip vs) m p = _
    unfold bindC
    rw [bindC_out fun v hv => (List.nodup_cons.mp nd).1 (List.of_mem_zip hv).1, if_neg hk]
    simp
  | p :: P, w :: vs, i + 1, m, nd, h1, h2, hk => by
    show bindC kindOf ((p, w) :: P.zip vs) m x = _
    unfold bindC
    exact bindC_get (i := i) (List.nodup_cons.mp nd).2 (by simpa using h1) (by simpa using h2) hk
def start (N : List Str) (vs : List V) : St := vs.map some ++ List.replicate (N.length - vs.length) none
def cxOf (CX : CXT) (P : Program) (w : World) (K : PySem.W.Frag) (mg : Str → Option Value) (base : Heap) (N : List Str) (qual : Str) (scope : Scope) (f : Addr) (cd : Value) (A : Around) (outer : List Env) (s : Shared) (H : Hp) (E : XK) : Cx where
  prog := P
  w := w
  K := K
  mg := mg
  base := base
  A := A.deeper (envOfC qual scope s.heap.objs.size f cd)
  N := N
  s₀ := s
  H₀ := H
  env := envOfC qual scope s.heap.objs.size f cd
  outer := outer
  stack := envOfC qual scope s.heap.objs.size f cd :: outer
  ex := []
  calm := true
  fn := fun _ => true
  pn := []
  xe := fun e s' => wpAny (model P w) (A.deeper (envOfC qual scope s.heap.objs.size f cd)) (leaving (envOfC qual scope s.heap.objs.size f cd) e) (fun _ s'' => CX outer H s E e s'') (fun e' s'' => CX outer H s E e' s'') s'
theorem cell_has {sc : Scope} {n : Nat} {x : Str} (h : sc.names.lookup x = some .cell) : ∃ c, (cellsFrom n sc.names []).lookup x = some c := by
  have q := PySem.W.cellsFrom_some sc.names n [] (.inl h)
  exact Option.isSome_iff_exists.mp q
theorem inv_start {CX : CXT} {P : Program} {w : World} {K : PySem.W.Frag} {mg : Str → Option Value} {base : Heap} {N ps : List Str} {qual : Str} {scope : Scope} {f : Addr} {cd : Value} {A : Around} {outer : List Env} {s s1 : Shared} {H : Hp} {E : XK} {us : List Value} {vs : List V}
    (S : FnScope N ps scope) (hd : A.handled = none) (e0 : Env0 P w K mg base A outer s H) (hl : vs.length = ps.length) (r : Vals vs us)
    (x : InCallC s s.heap.objs.size (bindL (envOfC qual scope s.heap.objs.size f cd).kindOf (ps.zip us) fun _ => none) (cellsFrom (s.heap.objs.size + 1) scope.names []) (bindC (envOfC qual scope s.heap.objs.size f cd).kindOf (ps.zip us) fun _ => none) s1) :
    Inv (cxOf CX P w K mg base N qual scope f cd A outer s H E) [] (start N vs) H s1 := by
  have hpl : ps.length ≤ N.length := by have := congrArg List.length S.pre; rw [List.length_take] at this; omega
  obtain ⟨h1, tk, rfl, hk⟩ := x.done
  have noA : ∀ b : Addr, b ∉ (cxOf CX P w K mg base N qual scope f cd A outer s H E).ex := fun b z => absurd (show b ∈ ([] : List Addr) from z) (by simp)
  refine ⟨⟨e0.mod, S.kind, rfl, rfl, Nat.le_refl _, fun y z c h1 h2 => ?_, fun y hy => ?_, fun y c _ h => ?_, fun _ => hd, Around.frames_deeper e0.frames, .inr ⟨rfl, rfl⟩, fun b z => absurd z (noA b), e0.bs, e0.bsz, fun b _ _ => noA b, fun b z => absurd z (noA b), e0.funs, e0.frf⟩,
    rfl, e0.bare, Un.kept hk, ⟨_, x.toInCall.ns, fun i y v h1 h2 h3 => ?_⟩, fun y c h => ⟨_, x.cell y c h⟩, e0.hok.fresh (Nat.le_refl _), fun y c h => ?_, fun p hp => absurd (show p ∈ ([] : List (Addr × Obj)) from hp) (by simp), e0.hok.kept hk, ?_⟩
  · exact name_of_addr x.apart (PySem.mem_of_lookup h1) (PySem.mem_of_lookup h2)
  · have hy : scope.names.lookup y = some .cell ∨ scope.names.lookup y = some .free := hy
    rcases hy with hy | hy
    · exact cell_has hy
    · exact absurd rfl (S.nofree _ (PySem.mem_of_lookup hy))
  · exact Nat.le_of_lt (x.above y c (PySem.mem_of_lookup h))
  · have hi : i < vs.length := by
      unfold start at h2
      by_cases hi : i < vs.length
      · exact hi
      · rw [List.getElem?_append_right (by simpa using hi)] at h2
        rw [List.getElem?_replicate] at h2
        split at h2 <;> cases h2
    have ha : vs[i]? = some v := by
      unfold start at h2
      rw [List.getElem?_append_left (by simpa using hi), List.getElem?_map] at h2
      cases e : vs[i]? with
      | none => rw [e] at h2; cases h2
      | some a => rw [e] at h2; cases h2; rfl
    obtain ⟨u, hu, rv⟩ := r.get ha
    have hp : ps[i]? = some y := by
      rw [← S.pre, List.getElem?_take_of_lt (by omega)]; exact h1
    have ndP : ps.Nodup := by rw [← S.pre]; exact S.nd.sublist (List.take_sublist _ _)
    refine ⟨u, rv, ?_⟩
    rcases S.par y (List.mem_of_getElem? hp) with k | k
    · exact .inl ⟨k, bindL_get ndP hp hu k⟩
    · obtain ⟨c, e⟩ := cell_has (n := s.heap.objs.size + 1) k
      refine .inr ⟨.inl k, c, e, ?_⟩
      have q := x.cell y c e
      rw [bindC_get ndP hp hu (by show scope.names.lookup y ≠ _; rw [k]; decide)] at q
      exact q
  · exact e0.hok.fresh (Nat.le_of_lt (x.above y c (PySem.mem_of_lookup h)))
  · unfold start
    show _ = N.length
    rw [List.length_append, List.length_map, List.length_replicate]
    omega
theorem fn_of {CX : CXT} {P : Program} {w : World} {K : PySem.W.Frag} {mg : Str → Option Value} {base : Heap} {k : Nat} {f : Addr} {name qual : Str} {params : Arguments} {body : List Stmt} {scope : Scope} {dV kV doc pm cdv ct oc : Value} {an od : Option Addr}
    {osl : Array (Option Value)} {N ps : List Str} {sp : Sp} (lk : K.lookup f = some ⟨oc, od, .func (PySem.W.fnOf name qual params body scope dV kV doc pm an cdv ct), osl⟩) (hcd : PySem.W.codeIn K cdv qual = true) (S : FnScope N ps scope)
    (len : ∀ vs H Q E, sp vs H Q E → vs.length = ps.length)
    (hbody : ∀ (A : Around) (outer : List Env) (s : Shared) (H : Hp) (vs : List V) (Q : VK) (E : XK), Room k (A.deeper (envOfC qual scope s.heap.objs.size f cdv)) → sp vs H Q E →
      ∃ t, PSs (cxOf CX P w K mg base N qual scope f cdv A outer s H E) body t ∧ t { nx := fun _ H' => Q .non H', rt := Q } (start N vs) H) :
    FnOk P w K mg base CX (k + 1) f (PySem.W.fnOf name qual params body scope dV kV doc pm an cdv ct) ps sp := by
  refine ⟨len, fun A outer s H args us vs Q E hr e0 hb r hsp => ?_⟩
  have hl := len _ _ _ _ hsp
  have KX : K.In s.heap := e0.mod.kin.keeps fun b o e => (e0.bs b o e).1
  have lim : s.heap.NoLimit := e0.mod.nolimit.keeps fun b o e => (e0.bs b o e).1
  have hkind : ∀ y ∈ ps.zip us, scope.names.lookup y.1 = some .local ∨ (scope.names.lookup y.1 = some .cell ∧ ((cellsFrom (s.heap.objs.size + 1) scope.names []).lookup y.1).isSome = true) := fun ⟨n, v⟩ hy => by
    rcases S.par n (List.of_mem_zip hy).1 with q | q
    · exact .inl q
    · exact .inr ⟨q, PySem.W.cellsFrom_some _ _ _ (.inl q)⟩
  refine codeAny_call_function hr.depth (KX _ _ lk) rfl S.co S.gen rfl (PySem.W.codeRec_of KX hcd) (hb _ _ _ _ ?_)
  refine wpAny_newFunctionEnv_cells S.kind hkind fun env he s1 x => ?_
  subst he
  refine ⟨lim.keeps x.toInCall.keep, codeAny_func ?_⟩
  obtain ⟨t, ht, hq⟩ := hbody A outer s H vs Q E (hr.deeper _) hsp
  have I : Inv (cxOf CX P w K mg base N qual scope f cdv A outer s H E) [] (start N vs) H s1 := inv_start S hr.hd e0 hl r x
  refine wpAny_mono (ht [] s1 (start N vs) H _ I hq) (fun fl s' hs => ?_) fun e s' hs => hs
  have fin : ∀ {σ' : St} {H' : Hp} {v : V} {u : Value}, Inv (cxOf CX P w K mg base N qual scope f cdv A outer s H E) [] σ' H' s' → RelV v u → Q v H' → CE outer P w H s Q u s' :=
    fun {σ' H' v u} J rv q => ⟨v, H', J.os, J.bare, J.base, J.hok, rv, q⟩
  cases fl with
  | ret u =>
    obtain ⟨v, σ', H', J, rv, q⟩ := hs
    exact fin J rv q
  | next =>
    obtain ⟨σ', H', J, q⟩ := hs
    exact fin (v := V.non) (u := Value.none) J rfl q
  | brk =>
    obtain ⟨_, _, _, q⟩ := hs
    exact False.elim q
  | cont =>
    obtain ⟨_, _, _, q⟩ := hs
    exact False.elim q
end L2
namespace L2
open PySem PySem.Spec PyProof.Rows
section
variable {X : Cx} {x : Str} {p pos : Pos} {e : Expr} {es : List Expr} {t : TA} {id T : String} {r : List V → Hp → VK → Prop}
def tCB (r : List V → Hp → VK → Prop) (t : TA) : TE := fun σ H Q => t σ H fun vs H1 => r vs H1 Q
theorem pe_callB (hc : CallR X (.builtin id) r) (hg : Gl X x) (hm : X.mg x = none) (hv : bootBuiltins x = some (.builtin id)) (ha : PA X (e :: es) t) (hn : x ≠ "__name__" := by decide) (hdb : (x == ("__debug__" : Str)) = false := by decide)
    (he : starEach (e :: es) X.env = (false, eval e X.env) :: starEach es X.env := by rfl) (hpl : (backTo pos (starEach es X.env)).any (·.1) = false := by rfl) : PE X (.Call (.Name x p) (e :: es) [] pos) (tCB r t) := by
  intro pins s σ H Q I h
  refine wpAny_Call_Name_kw (ld_blt I hg hm hv ?_ hn hdb)
  exact PyProof.Rows.callWith_builtin1 (thn (ha pos pins s σ H _ I h) fun us s1 ⟨vs, H1, I1, r1, q1⟩ => hc pins s1 σ H1 vs us Q I1 r1 q1) he hpl
theorem pe_callTy (hc : CallR X (.type T) r) (hg : Gl X x) (hm : X.mg x = none) (hv : bootBuiltins x = some (.type T)) (ha : PA X (e :: es) t) (hn : x ≠ "__name__" := by decide) (hdb : (x == ("__debug__" : Str)) = false := by decide)
    (he : starEach (e :: es) X.env = (false, eval e X.env) :: starEach es X.env := by rfl) (hpl : (backTo pos (starEach es X.env)).any (·.1) = false := by rfl) : PE X (.Call (.Name x p) (e :: es) [] pos) (tCB r t) := by
  intro pins s σ H Q I h
  refine wpAny_Call_Name_kw (ld_blt I hg hm hv ?_ hn hdb)
  exact PyProof.Rows.callWith_type1 (thn (ha pos pins s σ H _ I h) fun us s1 ⟨vs, H1, I1, r1, q1⟩ => hc pins s1 σ H1 vs us Q I1 r1 q1) he hpl
end
end L2
namespace HT
open PySem PyProof.Rows
section
open PySem.SeqAt
open PySem.AutoSeq1 (wpAny_loadPart')
open PySem.MeetsSeq PySem.MeetsSeq2 PySem.MeetsSeq3
end
section
variable {prog : Program} {w : World} {A : Around} {E : Value → Shared → Prop} {s : Shared}
theorem cat_tup {t b : Addr} {vs ws : List Value} {Q : Value → Shared → Prop} (ht : IsTup s.heap t vs.toArray) (hb : IsTup s.heap b ws.toArray) (hv : vs ≠ [])
    (h1 : ws = [] → Q (.ref t) s) (h2 : ws ≠ [] → Q (.ref s.heap.objs.size) { s with heap := s.heap.push { cls := .type "tuple", data := .seq (vs ++ ws).toArray } })
    (hsz : vs.length + ws.length ≤ sizeLine) : wpAny (model prog w) A (binaryOp .Add (.ref t) (.ref b)) Q E s := by
  obtain ⟨⟨cls, dd, data, sl⟩, ho, hc, n, hd⟩ := id ht
  obtain ⟨⟨cls2, dd2, data2, sl2⟩, ho2, hc2, n2, hd2⟩ := id hb
  simp only at hc hd hc2 hd2
  subst hc hd hc2 hd2
  have e : vs.toArray ++ ws.toArray = (vs ++ ws).toArray := by simp
  by_cases hw : ws = []
  · exact concat_meets ⟨_, ho, rfl⟩ ⟨_, ho2, rfl⟩ noFill_tuple_add seq_tuple_add PySem.F.slot_tuple_add PySem.F.entry_tuple_add (PySem.F.args_tuple_add_2 _ _)
      (tuple_addW1 t b vs.toArray ws.toArray n n2 dd dd2 sl sl2 (by simpa using hv) (by simp [hw])) ⟨ho, ho2, h1 hw⟩
  · refine concat_meets ⟨_, ho, rfl⟩ ⟨_, ho2, rfl⟩ noFill_tuple_add seq_tuple_add PySem.F.slot_tuple_add PySem.F.entry_tuple_add (PySem.F.args_tuple_add_2 _ _)
      (tuple_addW2 t b vs.toArray ws.toArray n n2 dd dd2 sl sl2 (by simpa using hv) (by simpa using hw) (by rw [List.size_toArray, List.size_toArray]; exact hsz)) ⟨ho, ho2, ?_⟩
    rw [e]
    exact h2 hw
def sIx (n d : Nat) : Option Int → Nat
  | none => d
  | some v => if v < 0 then (v + (n : Int)).toNat else min v.toNat n
theorem sIx_none (n d : Nat) : sIx n d none = d := rfl
end
end HT
namespace L2
open PySem PySem.Spec PyProof.Rows
abbrev TO := St → Hp → (Option Int → Hp → Prop) → Prop
def PO (X : Cx) (e : Option Expr) (t : TO) : Prop :=
  ∀ (pins : List (Addr × Obj)) (s : Shared) (σ : St) (H : Hp) (Q : Option Int → Hp → Prop), Inv X pins σ H s → t σ H Q →
    wpAny (model X.prog X.w) X.A (evalPart e X.env) (fun u s' => ∃ o H', Inv X pins σ H' s' ∧ IsPart u o ∧ Q o H') X.xe s
def tNoPart : TO := fun _ H Q => Q none H
def tPart (t : TE) : TO := fun σ H Q => t σ H fun x H1 => ∃ i, x = .int i ∧ Q (some i) H1
theorem intsAre_of {ns : List Int} : ∀ {us : List Value}, Vals (ns.map V.int) us → IntsAre us ns := by
  induction ns with
  | nil => intro us r; rw [List.map_nil] at r; cases r; exact .nil
  | cons n ns ih =>
    intro us r
    rw [List.map_cons] at r
    cases r with
    | cons r1 r2 =>
      obtain ⟨t, e⟩ := r1
      subst e
      exact .cons n t (ih r2)
section
variable {X : Cx} {e : Expr} {te : TE} {lo hi : Option Expr} {tl th : TO} {pos p2 : Pos}
theorem po_none : PO X none tNoPart := by
  intro pins s σ H Q I h
  rw [evalPart_none]
  exact wpAny_pure ⟨none, H, I, .none, h⟩
theorem po_some (h : PE X e te) : PO X (some e) (tPart te) := by
  intro pins s σ H Q I hw
  rw [evalPart_some]
  refine thn (h pins s σ H _ I hw) fun u s1 ⟨x, H1, I1, r1, q1⟩ => ?_
  obtain ⟨i, rfl, q⟩ := q1
  obtain ⟨t, rfl⟩ := r1
  exact ⟨some i, H1, I1, .int i t, q⟩
def SlR (X : Cx) (r : V → Option Int → Option Int → Hp → VK → Prop) : Prop :=
  ∀ (pins : List (Addr × Obj)) (s : Shared) (σ : St) (H : Hp) (x : V) (v vl vu : Value) (lo hi : Option Int) (sl : Addr) (Q : VK), Inv X pins σ H s → RelV x v → s.heap.IsSliceOf sl vl vu .none → IsPart vl lo → IsPart vu hi → r x lo hi H Q →
    ∃ T id, typeLookup (.type T) "__getitem__" = pure (some (.builtin id)) ∧ s.TypeIs v T ∧ wpAny (model X.prog X.w) X.A (getItem v (.ref sl)) (EP X pins σ Q) X.xe s
def tSl (r : V → Option Int → Option Int → Hp → VK → Prop) (te : TE) (tl th : TO) : TE := fun σ H Q => te σ H fun x H1 => tl σ H1 fun l H2 => th σ H2 fun u H3 => r x l u H3 Q
theorem pe_slice {r : V → Option Int → Option Int → Hp → VK → Prop} (hr : SlR X r) (he : PE X e te) (hl : PO X lo tl) (hu : PO X hi th) : PE X (.Subscript e (.Slice lo hi none p2) pos) (tSl r te tl th) := by
  intro pins s σ H Q I h
  refine Subscript_ (thn (he pins s σ H _ I h) fun v s1 ⟨x, H1, I1, r1, q1⟩ => ?_)
  refine wpAny_Slice (thn (hl pins s1 σ H1 _ I1 q1) fun vl s2 ⟨l, H2, I2, pl, q2⟩ => thn (hu pins s2 σ H2 _ I2 q2) fun vu s3 ⟨u, H3, I3, pu, q3⟩ => ?_)
  rw [evalPart_none]
  refine wpAny_pure ?_
  have I4 : Inv X pins σ H3 { s3 with heap := s3.heap.push { cls := .type "slice", data := .fields #[vl, vu, .none] } } := I3.kept (t' := s3.toks) fun b ob q => Heap.get?_push_of_some _ q
  obtain ⟨T, id, hT, ht, hg⟩ := hr pins { s3 with heap := s3.heap.push { cls := .type "slice", data := .fields #[vl, vu, .none] } } σ H3 x v vl vu l u s3.heap.objs.size Q I4 r1 (Heap.IsSliceOf.new ..) pl pu q3
  show wpAny (model X.prog X.w) X.A (subscriptTail e (.Slice lo hi none p2) v (.ref s3.heap.objs.size)) (EP X pins σ Q) X.xe { s3 with heap := s3.heap.push { cls := .type "slice", data := .fields #[vl, vu, .none] } }
  exact tail_any (ops := [.ref s3.heap.objs.size, v]) ht hT hg (by with_unfolding_all rfl)
def cutV (xs : List V) (lo hi : Option Int) : List V := (xs.drop (HT.sIx xs.length 0 lo)).take (HT.sIx xs.length xs.length hi - HT.sIx xs.length 0 lo)
theorem cutV_length (xs : List V) (lo hi : Option Int) : (cutV xs lo hi).length ≤ xs.length := by
  unfold cutV
  rw [List.length_take, List.length_drop]
  omega
def rCatT (K : PySem.W.Frag) : R2 := fun x y H Q => ∃ a b xs ys, x = .ref a ∧ y = .ref b ∧ SqT K H a xs ∧ SqT K H b ys ∧ xs ≠ [] ∧ xs.length + ys.length ≤ sizeLine ∧
  (ys = [] → Q (.ref a) H) ∧ (ys ≠ [] → ∀ p, H p = none → Q (.ref p) (upd H p (.tup (xs ++ ys))))
theorem Vals.nil_iff {xs : List V} {us : List Value} (r : Vals xs us) : us = [] ↔ xs = [] := by
  cases r with
  | nil => simp
  | cons _ _ => simp
theorem op_catT : OpR X (binaryOp .Add) (rCatT X.K) := by
  intro pins s σ H x y v u Q I rx ry h
  obtain ⟨a, b, xs, ys, rfl, rfl, ha, hb, hx, hz, q1, q2⟩ := h
  cases rx
  cases ry
  obtain ⟨its, r1, p1, _⟩ := I.tuple ha
  obtain ⟨its2, r2, p2, _⟩ := I.tuple hb
  refine HT.cat_tup p1 p2 (fun z => hx (r1.nil_iff.mp z)) (fun z => ⟨.ref a, H, I, rfl, q1 (r2.nil_iff.mp z)⟩) (fun z => ?_) (by rw [← r1.length, ← r2.length]; exact hz)
  refine ⟨.ref s.heap.objs.size, _, I.laid (t' := s.toks) (o := .tup (xs ++ ys)) (fun b ob q => Heap.get?_push_of_some _ q) (Nat.le_refl _) ?_, rfl, q2 (fun w => z (r2.nil_iff.mpr w)) _ (I.hok.fresh (Nat.le_refl _))⟩
  exact ⟨by rw [List.length_append]; exact hz, ⟨_, r1.append r2, IsTup.new _ _⟩, _, Heap.get?_push_size _ rfl, rfl⟩
end
end L2
namespace L2
open PySem PySem.Spec PyProof.Rows
def ixN (n : Nat) (i : Int) : Option Nat := if 0 ≤ i then (if i < n then some i.toNat else none) else if -(n : Int) ≤ i then some (i + n).toNat else none
def atI {α : Type} (xs : List α) (i : Int) : Option α := (ixN xs.length i).bind fun j => xs[j]?
theorem ixN_seq {n : Nat} {i : Int} {j : Nat} (h : ixN n i = some j) : seqIndex? i n = some j ∧ j < n ∧ -(n : Int) ≤ i ∧ i < n := by
  unfold ixN at h
  by_cases h0 : 0 ≤ i
  · rw [if_pos h0] at h
    by_cases h1 : i < n
    · rw [if_pos h1] at h
      have e : i.toNat = j := Option.some.inj h
      exact ⟨by rw [seqIndex_of h0 h1, e], by omega, by omega, h1⟩
    · rw [if_neg h1] at h; cases h
  · rw [if_neg h0] at h
    by_cases h1 : -(n : Int) ≤ i
    · rw [if_pos h1] at h
      have e : (i + n).toNat = j := Option.some.inj h
      exact ⟨by rw [seqIndex_neg (by omega) h1, e], by omega, h1, by omega⟩
    · rw [if_neg h1] at h; cases h
theorem atI_get {α : Type} {xs : List α} {i : Int} {v : α} (h : atI xs i = some v) : ∃ j, seqIndex? i xs.length = some j ∧ xs[j]? = some v ∧ j < xs.length ∧ -(xs.length : Int) ≤ i ∧ i < xs.length := by
  unfold atI at h
  cases e : ixN xs.length i with
  | none => rw [e] at h; cases h
  | some j =>
    rw [e] at h
    obtain ⟨h1, h2, h3, h4⟩ := ixN_seq e
    exact ⟨j, h1, h, h2, h3, h4⟩
theorem atI_nat {α : Type} {xs : List α} {j : Nat} {v : α} (h : xs[j]? = some v) : atI xs (j : Int) = some v := by
  have hj : j < xs.length := (List.getElem?_eq_some_iff.mp h).1
  have e : ixN xs.length (j : Int) = some j := by
    unfold ixN
    rw [if_pos (by omega), if_pos (by omega)]; simp
  unfold atI; rw [e]; exact h
def PlainIx (b : Expr) : Prop := ∀ o i, subscripted b false o i = operate [o, i] (getItem o i)
def IxR (X : Cx) (r : R2) : Prop :=
  ∀ (value slice : Expr) (pins : List (Addr × Obj)) (s : Shared) (σ : St) (H : Hp) (x y : V) (v u : Value) (Q : VK), Inv X pins σ H s → RelV x v → RelV y u → r x y H Q →
    subscripted slice false v u = operate [v, u] (getItem v u) → wpAny (model X.prog X.w) X.A (subscriptTail value slice v u) (EP X pins σ Q) X.xe s
def MtR (X : Cx) (id : String) (r : V → List V → Hp → VK → Prop) : Prop :=
  ∀ (pins : List (Addr × Obj)) (s : Shared) (σ : St) (H : Hp) (x : V) (xs : List V) (v : Value) (us : List Value) (Q : VK), Inv X pins σ H s → RelV x v → Vals xs us → r x xs H Q →
    wpAny (model X.prog X.w) X.A (call (.builtin id) (v :: us)) (EP X pins σ Q) X.xe s
section
variable {X : Cx} {a b : Expr} {ta tb : TE} {pos : Pos}
theorem pe_ix {r : R2} (hr : IxR X r) (ha : PE X a ta) (hb : PE X b tb) (hs : PlainIx b) : PE X (.Subscript a b pos) (tOp r ta tb) := by
  intro pins s σ H Q I h
  exact Subscript_ (binT ha hb I h fun v u s2 x y H2 I2 rx ry q => hr a b pins s2 σ H2 x y v u Q I2 rx ry q (hs _ _))
def rIxL (K : PySem.W.Frag) : R2 := fun x y H Q => ∃ p xs i v, x = .ref p ∧ y = .int i ∧ SqL K H p xs ∧ atI xs i = some v ∧ Q v H
def rIxT (K : PySem.W.Frag) : R2 := fun x y H Q => ∃ p xs i v, x = .ref p ∧ y = .int i ∧ SqT K H p xs ∧ atI xs i = some v ∧ Q v H
theorem ix_list : IxR X (rIxL X.K) := by
  intro value slice pins s σ H x y v u Q I rx ry h hs
  obtain ⟨p, xs, i, z, rfl, rfl, hq, he, q⟩ := h
  cases rx
  obtain ⟨t, rfl⟩ := ry
  obtain ⟨its, r, pl, hz⟩ := I.list hq
  obtain ⟨j, h1, h2, h3, h4, h5⟩ := atI_get he
  obtain ⟨w, ew, rw'⟩ := r.get h2
  have hl := r.length
  have hn := line63
  have fin : EP X pins σ Q w s := ⟨z, H, I, rw', q⟩
  by_cases h0 : 0 ≤ i
  · have hj : i.toNat = j := by
      rw [seqIndex_of h0 h5] at h1
      exact Option.some.inj h1
    exact item_listR pl.isList h0 (by omega) (by rw [hj]; simpa using ew) fin hs
  · have hj : (i + (its.toArray.size : Int)).toNat = j := by
      rw [seqIndex_neg (by omega) h4] at h1
      rw [List.size_toArray, ← hl]
      exact Option.some.inj h1
    exact subscriptTail_builtinR (x := w) pl.isList.typeIs slot_list_getitem.lookup
      (wpAny_getItem_list_neg (Q := fun r s' => r = w ∧ EP X pins σ Q r s') pl.isList (by omega) (by rw [List.size_toArray] <;> omega) (by omega) (by rw [hj]; simpa using ew) ⟨rfl, fin⟩) hs
theorem ix_tup : IxR X (rIxT X.K) := by
  intro value slice pins s σ H x y v u Q I rx ry h hs
  obtain ⟨p, xs, i, z, rfl, rfl, hq, he, q⟩ := h
  cases rx
  obtain ⟨t, rfl⟩ := ry
  obtain ⟨its, r, pl, hz⟩ := I.tuple hq
  obtain ⟨j, h1, h2, h3, h4, h5⟩ := atI_get he
  obtain ⟨w, ew, rw'⟩ := r.get h2
  have hl := r.length
  have hn := line63
  have fin : EP X pins σ Q w s := ⟨z, H, I, rw', q⟩
  exact subscriptTail_builtinR (x := w) pl.typeIs slot_tuple_getitem.lookup
    (getItem_tuple (j := j) (Q := fun r s' => r = w ∧ EP X pins σ Q r s') pl (by omega) (by omega) (by rw [List.size_toArray, ← hl]; exact h1) (by simpa using ew) ⟨rfl, fin⟩) hs
theorem Inv.lst {pins : List (Addr × Obj)} {σ : St} {H : Hp} {s : Shared} {p : Addr} {xs : List V} (I : Inv X pins σ H s) (h : H p = some (.lst xs)) :
    ∃ (its : List Value) (n : Nat), Vals xs its ∧ s.heap.get? p = some { cls := .type "list", data := .seq its.toArray n } ∧ xs.length ≤ sizeLine := by
  obtain ⟨z, its, n, r, e⟩ := I.hok p _ h
  exact ⟨its, n, r, e, z⟩
theorem slice_bounds (lo hi : Option Int) (n : Nat) : (sliceBounds lo hi none n).1 = ((HT.sIx n 0 lo : Nat) : Int) ∧ (sliceBounds lo hi none n).2.1 = ((HT.sIx n n hi : Nat) : Int) ∧ (sliceBounds lo hi none n).2.2 = 1 := by
  refine ⟨?_, ?_, rfl⟩
  · cases lo with
    | none => simp [sliceBounds, HT.sIx]
    | some i =>
      simp only [sliceBounds, HT.sIx, Option.getD_none, show (1 : Int) > 0 by decide, if_true]
      by_cases h : i < 0
      · simp only [h, if_true] <;> omega
      · simp only [h, if_false] <;> omega
  · cases hi with
    | none => simp [sliceBounds, HT.sIx]
    | some i =>
      simp only [sliceBounds, HT.sIx, Option.getD_none, show (1 : Int) > 0 by decide, if_true]
      by_cases h : i < 0
      · simp only [h, if_true] <;> omega
      · simp only [h, if_false] <;> omega
theorem slicePick_cut (its : List Value) (lo hi : Option Int) : slicePick its.toArray lo hi none = ((its.drop (HT.sIx its.length 0 lo)).take (HT.sIx its.length its.length hi - HT.sIx its.length 0 lo)).toArray := by
  obtain ⟨h1, h2, h3⟩ := slice_bounds lo hi its.toArray.size
  unfold slicePick
  rw [h1, h2, h3]
  simp only [sliceRange_one, pick_run, List.size_toArray] <;> rfl
def rSlL (K : PySem.W.Frag) : V → Option Int → Option Int → Hp → VK → Prop := fun x lo hi H Q => ∃ a xs, x = .ref a ∧ SqL K H a xs ∧ ∀ p, H p = none → Q (.ref p) (upd H p (.lst (cutV xs lo hi)))
theorem sl_list : SlR X (rSlL X.K) := by
  intro pins s σ H x v vl vu lo hi sl Q I rx hs pl pu h
  obtain ⟨a, xs, rfl, hx, q⟩ := h
  cases rx
  obtain ⟨its, r, ht, hz⟩ := I.list hx
  have hlen := r.length
  refine ⟨"list", _, slot_list_getitem.lookup, ht.isList.typeIs, ?_⟩
  refine wpAny_getItem_list_slice ht.isList hs pl pu .none (by simp) ?_ (by rw [List.size_toArray] <;> omega)
  rw [slicePick_cut, ← hlen]
  refine ⟨.ref s.heap.objs.size, _, I.laid (t' := s.toks) (o := .lst (cutV xs lo hi)) (fun b ob q => Heap.get?_push_of_some _ q) (Nat.le_refl _) ?_, rfl, q _ (I.hok.fresh (Nat.le_refl _))⟩
  exact ⟨Nat.le_trans (cutV_length xs lo hi) hz, _, 0, (r.drop (HT.sIx xs.length 0 lo)).take (HT.sIx xs.length xs.length hi - HT.sIx xs.length 0 lo), Heap.get?_push_size _ rfl⟩
def flatV : V → Bool
  | .non => true
  | .bl _ => true
  | .int _ => true
  | .str _ => true
  | _ => false
def eqV : V → V → Bool
  | .non, .non => true
  | .bl a, .bl b => a == b
  | .bl a, .int b => (if a then 1 else 0) == b
  | .int a, .bl b => a == (if b then 1 else 0)
  | .int a, .int b => a == b
  | .str a, .str b => a == b
  | _, _ => false
theorem eqAt_V {A : Around} {s : Shared} {y x : V} {u v : Value} (ry : RelV y u) (rx : RelV x v) (fy : flatV y = true) (fx : flatV x = true) : SeqAt.EqAt A s u v (eqV y x) := by
  cases y with
  | non =>
    cases ry
    cases x with
    | non => cases rx; exact SeqAt.EqAt.same _
    | bl b => cases rx; exact SeqAt.EqAt.none_bool b
    | int b => obtain ⟨t, rfl⟩ := rx; exact SeqAt.EqAt.none_int b t
    | str b => obtain ⟨t, rfl⟩ := rx; exact SeqAt.EqAt.none_str b t
    | _ => exact absurd (show false = true from fx) Bool.false_ne_true
  | bl a =>
    cases ry
    cases x with
    | non => cases rx; exact SeqAt.EqAt.bool_none a
    | bl b => cases rx; exact SeqAt.EqAt.bool_bool a b
    | int b => obtain ⟨t, rfl⟩ := rx; exact SeqAt.EqAt.bool_int a b t
    | str b => obtain ⟨t, rfl⟩ := rx; exact SeqAt.EqAt.bool_str a b t
    | _ => exact absurd (show false = true from fx) Bool.false_ne_true
  | int a =>
    obtain ⟨t', rfl⟩ := ry
    cases x with
    | non => cases rx; exact SeqAt.EqAt.int_none a t'
    | bl b => cases rx; exact SeqAt.EqAt.int_bool a t' b
    | int b => obtain ⟨t, rfl⟩ := rx; exact SeqAt.EqAt.int_int a t' b t
    | str b => obtain ⟨t, rfl⟩ := rx; exact SeqAt.EqAt.int_str a t' b t
    | _ => exact absurd (show false = true from fx) Bool.false_ne_true
  | str a =>
    obtain ⟨t', rfl⟩ := ry
    cases x with
    | non => cases rx; exact SeqAt.EqAt.str_none a t'
    | bl b => cases rx; exact SeqAt.EqAt.str_bool a t' b
    | int b => obtain ⟨t, rfl⟩ := rx; exact SeqAt.EqAt.str_int a t' b t
    | str b => obtain ⟨t, rfl⟩ := rx; exact SeqAt.EqAt.str_str a t' b t
    | _ => exact absurd (show false = true from fx) Bool.false_ne_true
  | _ => exact absurd (show false = true from fy) Bool.false_ne_true
def eqU (x : V) (u : Value) : Bool := match u with
  | .none => eqV .non x
  | .bool b => eqV (.bl b) x
  | .int i _ => eqV (.int i) x
  | .str z _ => eqV (.str z) x
  | _ => false
theorem eqU_of {x y : V} {u : Value} (r : RelV y u) (f : flatV y = true) : eqU x u = eqV y x := by
  cases y with
  | non => cases r; rfl
  | bl b => cases r; rfl
  | int i => obtain ⟨t, rfl⟩ := r; rfl
  | str z => obtain ⟨t, rfl⟩ := r; rfl
  | _ => exact absurd (show false = true from f) Bool.false_ne_true
theorem any_eqU {x : V} : ∀ {xs : List V} {us : List Value}, Vals xs us → xs.all flatV = true → us.any (eqU x) = xs.any fun y => eqV y x
  | _, _, .nil, _ => rfl
  | y :: xs, u :: us, .cons r t, f => by
    rw [List.all_cons, Bool.and_eq_true] at f
    rw [List.any_cons, List.any_cons, eqU_of r f.1, any_eqU t f.2]
theorem mem_eqAt {A : Around} {s : Shared} {x : V} {v : Value} (rx : RelV x v) (fx : flatV x = true) : ∀ {xs : List V} {us : List Value}, Vals xs us → xs.all flatV = true → ∀ u ∈ us, SeqAt.EqAt A s u v (eqU x u)
  | _, _, .nil, _ => fun u hu => by cases hu
  | y :: xs, u :: us, .cons r t, f => fun u' hu => by
    rw [List.all_cons, Bool.and_eq_true] at f
    rcases List.mem_cons.mp hu with rfl | hu
    · rw [eqU_of r f.1]; exact eqAt_V r rx f.1 fx
    · exact mem_eqAt rx fx t f.2 u' hu
def inV (x : V) (xs : List V) : Bool := xs.any fun y => eqV y x
def rIn (K : PySem.W.Frag) (neg : Bool) : R2 := fun x y H Q => ∃ p xs, y = .ref p ∧ (SqL K H p xs ∨ SqT K H p xs) ∧ flatV x = true ∧ xs.all flatV = true ∧ Q (.bl (if neg then !inV x xs else inV x xs)) H
theorem op_in_seq : OpR X (compareOp .In) (rIn X.K false) := by
  intro pins s σ H x y v u Q I rx ry h
  obtain ⟨p, xs, rfl, hq, fx, fs, q⟩ := h
  cases ry
  rcases hq with hq | hq
  · obtain ⟨its, r, pl, hz⟩ := I.list hq
    refine SeqAt.in_listAt (eqU x) pl.isList (fun w hw => mem_eqAt rx fx r fs w (by simpa using hw)) ⟨.bl _, H, I, rfl, ?_⟩
    rw [show its.toArray.any (eqU x) = its.any (eqU x) by simp, any_eqU r fs]
    exact q
  · obtain ⟨its, r, pl, hz⟩ := I.tuple hq
    refine SeqAt.in_tupleAt (eqU x) pl (fun w hw => mem_eqAt rx fx r fs w (by simpa using hw)) ⟨.bl _, H, I, rfl, ?_⟩
    rw [show its.toArray.any (eqU x) = its.any (eqU x) by simp, any_eqU r fs]
    exact q
theorem op_notIn_seq : OpR X (compareOp .NotIn) (rIn X.K true) := by
  intro pins s σ H x y v u Q I rx ry h
  obtain ⟨p, xs, rfl, hq, fx, fs, q⟩ := h
  cases ry
  rcases hq with hq | hq
  · obtain ⟨its, r, pl, hz⟩ := I.list hq
    refine SeqAt.notIn_listAt (eqU x) pl.isList (fun w hw => mem_eqAt rx fx r fs w (by simpa using hw)) ⟨.bl _, H, I, rfl, ?_⟩
    rw [show its.toArray.any (eqU x) = its.any (eqU x) by simp, any_eqU r fs]
    exact q
  · obtain ⟨its, r, pl, hz⟩ := I.tuple hq
    refine SeqAt.notIn_tupleAt (eqU x) pl (fun w hw => mem_eqAt rx fx r fs w (by simpa using hw)) ⟨.bl _, H, I, rfl, ?_⟩
    rw [show its.toArray.any (eqU x) = its.any (eqU x) by simp, any_eqU r fs]
    exact q
theorem call_len_seq : CallR X (.builtin "len") (fun xs H Q => ∃ p ys, xs = [.ref p] ∧ (SqL X.K H p ys ∨ SqT X.K H p ys) ∧ Q (.int ys.length) H) := by
  intro pins s σ H xs us Q I r h
  obtain ⟨p, ys, rfl, hq, q⟩ := h
  obtain ⟨u, rfl, rx⟩ := vals1 r
  cases rx
  have hn := line63
  rcases hq with hq | hq
  · obtain ⟨its, r', pl, hz⟩ := I.list hq
    have hlen := r'.length
    exact Calls.call_len_list pl.isList (by simp only [List.size_toArray] <;> omega) ⟨.int ys.length, H, I.tok _, ⟨s.toks + 1, by rw [List.size_toArray, hlen]⟩, q⟩
  · obtain ⟨its, r', pl, hz⟩ := I.tuple hq
    have hlen := r'.length
    exact len_tuple pl (by simp only [List.size_toArray] <;> omega) ⟨.int ys.length, H, I.tok _, ⟨s.toks + 1, by rw [List.size_toArray, hlen]⟩, q⟩
theorem call_len_str : CallR X (.builtin "len") (fun xs H Q => ∃ z, xs = [.str z] ∧ z.length ≤ sizeLine ∧ Q (.int z.length) H) := by
  intro pins s σ H xs us Q I r h
  obtain ⟨z, rfl, hz, q⟩ := h
  obtain ⟨u, rfl, t, rfl⟩ := vals1 r
  have hn := line63
  exact len_str (by omega) ⟨.int z.length, H, I.tok _, ⟨_, rfl⟩, q⟩
theorem call_list_of : CallR X (.type "list") (fun xs H Q => ∃ p ys, xs = [.ref p] ∧ (SqL X.K H p ys ∨ SqT X.K H p ys) ∧ ∀ l, H l = none → Q (.ref l) (upd H l (.lst ys))) := by
  intro pins s σ H xs us Q I r h
  obtain ⟨p, ys, rfl, hq, q⟩ := h
  obtain ⟨u, rfl, rx⟩ := vals1 r
  cases rx
  have fin : ∀ (its : List Value), Vals ys its → ys.length ≤ sizeLine → ∀ (h' : Heap) (c' : Nat), (∀ b o', s.heap.get? b = some o' → h'.get? b = some o') →
      h'.get? s.heap.objs.size = some { cls := .type "list", dict := none, data := .seq its.toArray c', slots := #[] } → EP X pins σ Q (.ref s.heap.objs.size) { s with heap := h' } := fun its r' hz h' c' kp e =>
    ⟨.ref s.heap.objs.size, _, I.laid (t' := s.toks) kp (Nat.le_refl _) (show ObjOk X.prog X.w _ h' _ (.lst ys) from ⟨hz, its, c', r', e⟩), rfl, q _ (I.hok.fresh (Nat.le_refl _))⟩
  rcases hq with hq | hq
  · obtain ⟨its, r', pl, hz⟩ := I.list hq
    have hlen := r'.length
    obtain ⟨o, ho, hc, n, hd⟩ := pl.isList
    exact call_list_seq p (.inl rfl) ho hc hd (fun h' c' kp e => fin its r' hz h' c' kp e) (by simp only [List.size_toArray] <;> omega)
  · obtain ⟨its, r', pl, hz⟩ := I.tuple hq
    have hlen := r'.length
    obtain ⟨o, ho, hc, n, hd⟩ := pl
    exact call_list_seq p (.inr rfl) ho hc hd (fun h' c' kp e => fin its r' hz h' c' kp e) (by simp only [List.size_toArray] <;> omega)
theorem call_tuple_of : CallR X (.type "tuple") (fun xs H Q => ∃ p ys, xs = [.ref p] ∧ ((SqL X.K H p ys ∧ ∀ l, H l = none → Q (.ref l) (upd H l (.tup ys))) ∨ (SqT X.K H p ys ∧ Q (.ref p) H))) := by
  intro pins s σ H xs us Q I r h
  obtain ⟨p, ys, rfl, h⟩ := h
  obtain ⟨u, rfl, rx⟩ := vals1 r
  cases rx
  rcases h with ⟨hq, q⟩ | ⟨hq, q⟩
  · obtain ⟨its, r', pl, hz⟩ := I.list hq
    have hlen := r'.length
    refine call_tuple_list pl.isList (fun h' kp => ?_) (by simp only [List.size_toArray] <;> omega)
    have I1 : Inv X pins σ H { s with heap := h' } := I.kept (t' := s.toks) kp
    have I2 : Inv X pins σ (upd H h'.objs.size (.tup ys)) { s with heap := h'.push { cls := .type "tuple", data := .seq its.toArray } } :=
      I1.laid (t' := s.toks) (fun b o e => Heap.get?_push_of_some _ e) (Nat.le_refl _) (show ObjOk X.prog X.w _ _ _ (.tup ys) from ⟨hz, ⟨its, r', IsTup.new _ _⟩, _, Heap.get?_push_size _ rfl, rfl⟩)
    exact ⟨.ref h'.objs.size, _, I2, rfl, q _ (I1.hok.fresh (Nat.le_refl _))⟩
  · obtain ⟨its, r', pl, hz⟩ := I.tuple hq
    exact call_tuple_same pl ⟨.ref p, H, I, rfl, q⟩
def tyV (K : PySem.W.Frag) (T : String) (x : V) (H : Hp) : Prop := match x with
  | .str _ => T = "str"
  | .int _ => T = "int"
  | .ref p => (T = "list" ∧ ∃ xs, SqL K H p xs) ∨ (T = "tuple" ∧ ∃ o, K.lookup p = some o ∧ o.cls = .type "tuple" ∧ o.dict = none) ∨
      (T = "dict" ∧ ((∃ kvs, H p = some (.dK kvs)) ∨ ∃ kvs, H p = some (.dT kvs))) ∨ (T = "set" ∧ ∃ S n, H p = some (.set S n))
  | _ => False
theorem tyV_is {pins : List (Addr × Obj)} {σ : St} {H : Hp} {s : Shared} {T : String} {x : V} {v : Value} (I : Inv X pins σ H s) (r : RelV x v) (ty : tyV X.K T x H) :
    s.TypeIs v T ∧ ∀ a, v = .ref a → ∃ ob, s.heap.get? a = some ob ∧ ob.dict = none := by
  cases x with
  | str z =>
    obtain ⟨t, rfl⟩ := r
    cases (show T = "str" from ty)
    exact ⟨typeIs_str s z t, fun _ e => nomatch e⟩
  | int i =>
    obtain ⟨t, rfl⟩ := r
    cases (show T = "int" from ty)
    exact ⟨typeIs_int s i t, fun _ e => nomatch e⟩
  | ref p =>
    cases r
    rcases ty with ⟨rfl, xs, hq⟩ | ⟨rfl, o, hk, hc, hd⟩ | ⟨rfl, hk⟩ | ⟨rfl, S, n, hk⟩
    · obtain ⟨its, _, pl, _⟩ := I.list hq
      refine ⟨pl.isList.typeIs, fun a e => ?_⟩
      cases e
      obtain ⟨o, n, e, c, hd, _⟩ := pl
      exact ⟨o, e, hd⟩
    · refine ⟨⟨o, I.kIn p o hk, hc⟩, fun a e => ?_⟩
      cases e
      exact ⟨o, I.kIn _ o hk, hd⟩
    · have z : ∃ o, s.heap.get? p = some o ∧ o.ExactDict := by
        rcases hk with ⟨kvs, hk⟩ | ⟨kvs, hk⟩
        · obtain ⟨_, _, _, _, o, _, _, e, ex, _⟩ := I.hok p _ hk
          exact ⟨o, e, ex⟩
        · obtain ⟨_, _, _, _, o, _, _, e, ex, _⟩ := I.hok p _ hk
          exact ⟨o, e, ex⟩
      obtain ⟨o, e, ex⟩ := z
      refine ⟨⟨o, e, ex.1⟩, fun a e2 => ?_⟩
      cases e2
      exact ⟨o, e, ex.2.1⟩
    · obtain ⟨o, _, _, _, e, ex, _⟩ := I.hok p _ hk
      refine ⟨⟨o, e, ex.1⟩, fun a e2 => ?_⟩
      cases e2
      exact ⟨o, e, ex.2.1⟩
  | _ => exact False.elim ty
def tBM (K : PySem.W.Frag) (T : String) (r : V → List V → Hp → VK → Prop) (to : TE) (t : TA) : TE := fun σ H Q => to σ H fun x H1 => tyV K T x H1 ∧ t σ H1 fun xs H2 => r x xs H2 Q
variable {o e : Expr} {es : List Expr} {to : TE} {t : TA} {name : Str} {apos cpos : Pos} {T id : String} {r : V → List V → Hp → VK → Prop}
theorem pe_bm (pa : PlainAttrs T) (slot : Slot T name id) (hty : typeOf (.builtin id) = pure (.type "method_descriptor")) (hm : MtR X id r) (ho : PE X o to) (ha : PA X (e :: es) t)
    (hbase : attributeBase o name X.env (eval o X.env) = eval o X.env := by rfl)
    (hfew : ((backTo cpos (starEach (e :: es) X.env)).all (fun x => !x.1) && (backToKw cpos (keywordEach [] X.env)).all (fun x => x.1.isSome)
      && decide ((e :: es).length + ([] : List Keyword).length + (if ([] : List Keyword).isEmpty then 0 else 1) < 30)) = true := by rfl)
    (hline : (apos.endLine == cpos.line) = true := by rfl) (hs : starEach (e :: es) X.env = (false, eval e X.env) :: starEach es X.env := by rfl) (hplain : (backTo cpos (starEach es X.env)).any (·.1) = false := by rfl) :
    PE X (.Call (.Attribute o name apos) (e :: es) [] cpos) (tBM X.K T r to t) := by
  intro pins s σ H Q I h
  refine wpAny_Call_method_late hbase hfew hline rfl (thn (ho pins s σ H _ I h) fun v s1 ⟨x, H1, I1, r1, ty, q1⟩ => ?_)
  obtain ⟨h1, h2⟩ := tyV_is I1 r1 ty
  refine ⟨T, id, pa, slot, hty, h1, h2, ?_⟩
  have hA := ha cpos pins s1 σ H1 _ I1 q1
  rw [hs] at hA ⊢
  refine Calls.callWith_builtin (by show (false || (backTo cpos (starEach es X.env)).any (·.1)) = false; rw [hplain] <;> rfl) (Calls.evalArgs_plain ?_)
  exact thn hA fun us s2 ⟨vs, H2, I2, r2, q2⟩ => hm pins s2 σ H2 x vs v us Q I2 r1 r2 q2
end
end L2
namespace L2
open PySem PySem.Spec PyProof.Rows
def MtM (X : Cx) (id : String) (r : V → List V → Hp → VK → Prop) : Prop :=
  ∀ (pins : List (Addr × Obj)) (s : Shared) (σ : St) (H : Hp) (x : V) (xs : List V) (v : Value) (us : List Value) (Q : VK), Inv X pins σ H s → RelV x v → Vals xs us → r x xs H Q →
    wpAny (model X.prog X.w) X.A (call (.builtin id) (v :: us)) (EP X pins σ Q) X.xe s
theorem Vals.one : ∀ {x : V} {us : List Value}, Vals [x] us → ∃ u, us = [u] ∧ RelV x u
  | _, _, .cons r .nil => ⟨_, rfl, r⟩
theorem Vals.two : ∀ {x y : V} {us : List Value}, Vals [x, y] us → ∃ u v, us = [u, v] ∧ RelV x u ∧ RelV y v
  | _, _, _, .cons r (.cons q .nil) => ⟨_, _, rfl, r, q⟩
theorem Vals.zero : ∀ {us : List Value}, Vals [] us → us = []
  | _, .nil => rfl
theorem Vals.reverse {xs : List V} {us : List Value} (h : Vals xs us) : Vals xs.reverse us.reverse := by
  induction h with
  | nil => exact .nil
  | cons r t ih => rw [List.reverse_cons, List.reverse_cons]; exact Vals.append ih (.cons r .nil)
section
variable {X : Cx} {pins : List (Addr × Obj)} {σ : St} {H : Hp} {s : Shared} {l b : Addr} {xs ys zs : List V}
theorem Inv.lset {its its' : List Value} {n : Nat} {f : Array Value → Array Value} {t' : Nat} (I : Inv X pins σ H s) (hH : H l = some (.lst xs))
    (e : s.heap.get? l = some { cls := .type "list", data := .seq its.toArray n }) (hf : f its.toArray = its'.toArray) (hv : Vals ys its') (hz : ys.length ≤ sizeLine) :
    Inv X pins σ (upd H l (.lst ys)) { s with heap := s.heap.update l (Obj.mapSeq f), toks := t' } := by
  have q := PySem.IsL.update e f
  rw [hf] at q
  refine I.write (x := l) (e := l) (by rw [hH]; exact trivial) (.inl rfl) (fun b' u hb hu => (Heap.get?_update_other s.heap (Obj.mapSeq f) (Ne.symm hb)).trans hu) ⟨_, q⟩ ?_
  exact ⟨hz, its', _, hv, q⟩
theorem Inv.fresh (I : Inv X pins σ H s) : H s.heap.objs.size = none := I.hok.fresh (Nat.le_refl _)
theorem Inv.lstM (I : Inv X pins σ H s) (hH : H l = some (.lst xs)) : xs.length ≤ sizeLine ∧ ∃ (its : List Value) (n : Nat), Vals xs its ∧ xs.length = its.length ∧ s.heap.get? l = some { cls := .type "list", data := .seq its.toArray n } := by
  obtain ⟨z, its, n, r, e⟩ := I.hok l _ hH
  exact ⟨z, its, n, r, r.length, e⟩
end
section
variable {X : Cx}
def rAppend : V → List V → Hp → VK → Prop := fun x vs H Q => ∃ l xs y, x = .ref l ∧ vs = [y] ∧ H l = some (.lst xs) ∧ xs.length < sizeLine ∧ Q .non (upd H l (.lst (xs ++ [y])))
theorem mt_append : MtM X "list.append" rAppend := by
  intro pins s σ H x vs v us Q I rx rv h
  obtain ⟨l, xs, y, rfl, rfl, hH, hz, q⟩ := h
  cases rx
  obtain ⟨u, rfl, ru⟩ := rv.one
  obtain ⟨z, its, n, r, hl, e⟩ := I.lstM hH
  refine call_meets F.slot_list_append ⟨_, e, rfl⟩ F.entry_list_append (F.args_list_append_2 _ _) (PySem.list_append l its.toArray n u (by rw [List.size_toArray]; omega)) ⟨e, ?_⟩
  refine ⟨.non, _, I.lset (its' := its ++ [u]) hH e (by simp) (r.append (.cons ru .nil)) ?_, rfl, q⟩
  rw [List.length_append, List.length_singleton]
  omega
end
section
variable {prog : Program} {w : World} {A : Around} {E : Value → Shared → Prop} {s : Shared}
end
section
variable {X : Cx}
end
end L2
namespace Att
open PySem PySem.W PySem.Calls PyProof.Rows
theorem ints_of_wellAll {P : Params} {h : Heap} : ∀ (ns : List Int) (vs : List Value), WellAll P h vs (ns.map WData.int) → IntsAre vs ns := by
  intro ns
  induction ns with
  | nil =>
    intro vs w
    rw [List.map_nil] at w
    cases w
    exact .nil
  | cons n ns ih =>
    intro vs w
    rw [List.map_cons] at w
    cases w with
    | cons a b =>
      cases a
      exact .cons _ _ (ih _ b)
theorem script_of {l : OpenLaw} {n : Nat} (hn : l.most = some n) {P : Params} {h : Heap} {args : List WData} {vals : List Value}
    (hpre : l.row.toRowW.claim.pre args = true) (hwl : WellAll P h vals args) :
    ∃ a vs ns, vals = [Value.ref a] ∧ args = [WData.list (ns.map WData.int)] ∧ h.get? a = some { cls := .type "list", data := .seq vs.toArray } ∧ IntsAre vs ns ∧ ns.length ≤ n := by
  have hsh : WShape.hasAll [] args [.list .int] = true := (pre_splitW hpre).1
  have hc : l.pre.holds [] { args := args } = true := (pre_splitW hpre).2
  obtain ⟨d, r, rfl, h1, h2⟩ := hasAllW_cons hsh
  obtain rfl := hasAllW_nil h2
  obtain ⟨xs, rfl, h3⟩ := hasW_list h1
  obtain ⟨ns, rfl⟩ := items_int h3
  have hlen : ns.length ≤ n := by
    unfold OpenLaw.pre at hc
    have h4 : (WTm.not (.lt (.lit (.int (n : Int))) (.len (.arg 0)))).holds [] { args := [.list (ns.map .int)] } = true := by
      have h4 := (holds_andW hc).1
      rw [hn] at h4
      exact h4
    have h5 := condW_of h4 (w_not (w_lt w_lit (w_len_list (w_arg rfl))))
    rw [List.length_map] at h5
    refine Nat.le_of_not_lt fun q => ?_
    have q' : (n : Int) < ((ns.length : Nat) : Int) := by omega
    first
      | (rw [decide_eq_true q'] at h5; exact absurd h5 (by decide))
      | (simp at h5; omega)
  cases hwl with
  | cons w1 w2 =>
    cases w2
    cases w1 with
    | list ho hall => exact ⟨_, _, ns, rfl, rfl, ho, ints_of_wellAll ns _ hall, hlen⟩
theorem post_true (l : OpenLaw) (args : List WData) : l.row.toRowW.claim.post args (.bool true) args = true :=
  postW_of (r := l.row.toRowW) (X := (true == true))
    (show WShape.has [] (.bool true) .bool = true by first | rfl | decide | simp [WShape.has, WShape.arms, WShape.armsAll])
    (show (WTm.eq .res (.lit (.bool true))).value [] { args := args, res := some (.bool true), after := args } = some (.bool (true == true)) from w_eq_bool (w_res rfl) w_lit) rfl
theorem attach_call {l : OpenLaw} {n : Nat} {q : Program} {loose : List Str} {XP : (Str → Option Value) → Heap → Prop} {YP : World → Heap → Prop} {d : DefRec}
    (hn : l.most = some n) (hdf : d.params.defaults = [])
    (call : ∀ (w : World) (s₀ s₁ : Shared) (mg mb : Str → Option Value) (fa : Addr) (o : Obj) (pm cd doc : Value) (a : Addr) (vs : List Value) (ns : List Int),
      Ground q loose [] XP w s₀ mg mb s₁.heap → YP w s₁.heap →
      s₁.heap.get? fa = some o → o.data = .func (docDef d.name d.params d.body d.scope pm cd doc) → s₁.heap.CodeRec cd d.name → mg d.name = some (.ref fa) →
      s₁.heap.get? a = some { cls := .type "list", data := .seq vs.toArray } → IntsAre vs ns → ns.length ≤ n → s₁.gens = #[] →
      codeAny (model l.prog w) callerA (.call (.ref fa) ⟨[.ref a], []⟩) (fun r s' => r = .ok (.ret (.bool true)) ∧ OldK s₁.heap s'.heap ∧ s'.os = s₁.os ∧ AllBare s'.gens) s₁) :
    WalkO q loose XP YP l.row.toRowW d [] (fun f vs => PySem.call f vs) := by
  intro w s₀ s₁ mg mb G Y fa o pm cd doc dV kV ho hd hcd hD hmg hg args vals as hpre hlay hrd hwl hlo
  obtain rfl : dV = .none := Dflts.none hD hdf
  obtain rfl : kV = .none := Dflts.noKw hD
  obtain ⟨a, vs, ns, rfl, rfl, hobj, hints, hlen⟩ := script_of hn hpre hwl
  refine enter_call (codeAny_mono (call w s₀ s₁ mg mb fa o pm cd doc a vs ns G Y ho (fd_plain hd) hcd hmg hobj hints hlen hg) fun r s' hq => ?_)
  obtain ⟨rfl, h2, h3, h4⟩ := hq
  exact ⟨.inl ⟨.bool true, .bool true, [], rfl, fun _ => rfl, .bool true, post_true l _, fun _ => ⟨List.Pairwise.nil, fun _ hm => (nomatch hm)⟩⟩, h2, h3, h4⟩
section
variable {prog : Program} {w : World} {A : Around} {E : Value → Shared → Prop} {s : Shared} {K : Frag}
end
end Att
namespace L2
open PySem PySem.Spec PyProof.Rows
theorem vals_ints : ∀ {vs : List Value} {ns : List Int}, IntsAre vs ns → Vals (ns.map V.int) vs
  | _, _, .nil => .nil
  | _, _, .cons n t h => .cons ⟨t, rfl⟩ (vals_ints h)
def Only (H : Hp) : Prop := ∀ b, H b = none ∨ ∃ o xs, H b = some (.frz o (.lst xs))
theorem law_call {P : Program} {w : World} {K : PySem.W.Frag} {mg mb : Str → Option Value} {CX : CXT} {k : Nat} {fa a : Addr} {fd : FuncData} {x : Str} {sp : Sp} {s₁ : Shared} {vs : List Value} {ns : List Int}
    (KX : K.In s₁.heap) (hns : s₁.heap.Ns mainGlobals mg) (hb : s₁.heap.Ns builtinsNs mb) (hbb : ∀ x : Str, x ≠ "__name__" → mb x = bootBuiltins x) (hlim : s₁.heap.NoLimit) (hg : s₁.gens = #[])
    (ha : s₁.heap.get? a = some { cls := .type "list", data := .seq vs.toArray }) (hi : IntsAre vs ns) (hl : ns.length ≤ sizeLine) (hr : Room k callerA)
    (F : ∀ base : Heap, K.In base → base.Ns mainGlobals mg → FnOk P w K mg base CX k fa fd [x] sp) (hbind : ∀ (s : Shared) (u : Value), BindsTo s fd ⟨[u], []⟩ [(x, u)])
    (hsp : ∀ H : Hp, Only H → SqL K H a (ns.map V.int) → sp [.ref a] H (fun v _ => v = .bl true) fun _ _ _ => False)
    (hCX : ∀ H e s', CX [] H s₁ (fun _ _ _ => False) e s' → False) :
    codeAny (model P w) callerA (.call (.ref fa) ⟨[.ref a], []⟩) (fun r s' => r = .ok (.ret (.bool true)) ∧ OldK s₁.heap s'.heap ∧ s'.os = s₁.os ∧ AllBare s'.gens) s₁ := by
  have rv := vals_ints hi
  have lenV := hi.length
  have core : ∀ H : Hp, Only H → SqL K H a (ns.map V.int) → HOk P w H s₁.heap → (∀ b, H b ≠ none → b = a) → (H a ≠ none → K.lookup a = none) →
      codeAny (model P w) callerA (.call (.ref fa) ⟨[.ref a], []⟩) (fun r s' => r = .ok (.ret (.bool true)) ∧ OldK s₁.heap s'.heap ∧ s'.os = s₁.os ∧ AllBare s'.gens) s₁ := by
    intro H hO hS hok hA hK
    have base_of : ∀ {b : Addr} {o : Obj}, s₁.heap.get? b = some o → H b = none → (hidT s₁.heap H).get? b = some o := fun e n => hidT_get e n
    have noA : ∀ {b : Addr} {o : Obj} {es : Array DictEntry} {ep : Nat}, s₁.heap.get? b = some o → o.data = .dict es ep → H b = none := fun {b o es ep} e d => by
      cases q : H b with
      | none => rfl
      | some u =>
        have e' : b = a := hA b (by rw [q]; simp)
        subst e'
        rw [ha] at e; cases e
        have d' : Data.seq vs.toArray _ = Data.dict es ep := d
        cases d'
    have nsK : ∀ {b : Addr} {m : Str → Option Value}, s₁.heap.Ns b m → (hidT s₁.heap H).Ns b m := fun {b m} ⟨o, es, ep, e, d, r⟩ => ⟨o, es, ep, base_of e (noA e d), d, r⟩
    have hKb : K.In (hidT s₁.heap H) := fun b o e => base_of (KX b o e) (by
      cases q : H b with
      | none => rfl
      | some u =>
        have e' : b = a := hA b (by rw [q]; simp)
        subst e'
        rw [hK (by rw [q]; simp)] at e; cases e)
    have hM : Mod K mg (hidT s₁.heap H) := ⟨hKb, nsK hns, ⟨mb, nsK hb, hbb⟩, let ⟨mc, h1, h2⟩ := hlim; ⟨mc, nsK h1, h2⟩⟩
    have e0 : Env0 P w K mg (hidT s₁.heap H) callerA [] s₁ H := ⟨rfl, hM, fun b o e => of_hidT e, Nat.le_of_eq (hidT_size _ _), trivial, fun b hb => absurd (show b ∈ ([] : List Addr) from hb) (by simp), hok, .of_eq hg⟩
    refine codeAny_mono ((F _ hKb (nsK hns)).run callerA [] s₁ H ⟨[.ref a], []⟩ [.ref a] [.ref a] _ _ hr e0 (hbind s₁ (.ref a)) (.cons rfl .nil) (hsp H hO hS)) fun r s' h => ?_
    cases r with
    | error e => exact (hCX H e s' h).elim
    | ok fl =>
      cases fl with
      | next => exact False.elim h
      | brk => exact False.elim h
      | cont => exact False.elim h
      | ret u =>
        obtain ⟨v, H', os, bare, un, hok', r', q⟩ := h
        have q' : v = .bl true := q
        subst q'
        obtain rfl : u = Value.bool true := r'
        refine ⟨rfl, OldK.of_keep fun b o e => ?_, os, bare⟩
        cases q : H b with
        | none => exact un.keep b o e q (by intro z; exact absurd (show b ∈ ([] : List Addr) from z) (by simp)) (by simp)
        | some u =>
          rcases hO b with z | ⟨ob, xs, z⟩
          · rw [q] at z; cases z
          · have z2 := un.frzs b ob _ z
            obtain ⟨e1, _⟩ := hok b _ z
            obtain ⟨e2, _⟩ := hok' b _ z2
            rw [e] at e1; cases e1
            exact e2
  cases hk : K.lookup a with
  | some o =>
    have e := KX a o hk
    rw [ha] at e
    cases e
    refine core (fun _ => none) (fun _ => .inl rfl) (.inr ⟨_, vs.toArray, _, hk, rfl, rfl, rfl, by rw [List.size_toArray, lenV]; exact hl, by simpa using rv⟩) (fun b u z => by have z' : (none : Option HO) = some u := z; cases z') (fun b z => absurd rfl z) fun z => absurd rfl z
  | none =>
    refine core (fun b => if b = a then some (.frz { cls := .type "list", data := .seq vs.toArray } (.lst (ns.map V.int))) else none) (fun b => ?_) (.inl (.inr ⟨{ cls := .type "list", data := .seq vs.toArray }, if_pos rfl⟩)) (fun b u z => ?_) (fun b z => ?_) fun _ => hk
    · by_cases hb : b = a
      · exact .inr ⟨_, _, if_pos hb⟩
      · exact .inl (if_neg hb)
    · by_cases hb : b = a
      · have z' := (if_pos hb).symm.trans z
        cases z'
        subst hb
        exact ⟨ha, by rw [List.length_map]; exact hl, vs, _, rv, ha⟩
      · have z' := (if_neg hb).symm.trans z
        cases z'
    · by_cases hb : b = a
      · exact hb
      · exact absurd (if_neg hb) z
end L2
namespace L2
open PySem PySem.Spec PyProof.Rows
theorem walk_of {l : PySem.W.OpenLaw} {n k : Nat} {q : Program} {loose : List Str} {XP : (Str → Option Value) → Heap → Prop} {YP : World → Heap → Prop} {d : DefRec} {K : Params → PySem.W.Frag} {CX : World → CXT} {sp : World → Sp} {x : Str}
    (hn : l.most = some n) (hn2 : n ≤ sizeLine) (hdf : d.params.defaults = []) (hr : Room k callerA)
    (hY : ∀ (w : World) (h : Heap), YP w h → (K w.params).In h)
    (F : ∀ (w : World) (mg : Str → Option Value) (fa : Addr) (h : Heap), (K w.params).In h → h.Ns mainGlobals mg → mg d.name = some (.ref fa) →
      ∃ fd : FuncData, (∀ (s : Shared) (u : Value), BindsTo s fd ⟨[u], []⟩ [(x, u)]) ∧
        ∀ base : Heap, (K w.params).In base → base.Ns mainGlobals mg → FnOk l.prog w (K w.params) mg base (CX w) k fa fd [x] (sp w))
    (hsp : ∀ (w : World) (H : Hp) (a : Addr) (ns : List Int), ns.length ≤ n → Only H → SqL (K w.params) H a (ns.map V.int) → sp w [.ref a] H (fun v _ => v = .bl true) fun _ _ _ => False)
    (hCX : ∀ (w : World) (H : Hp) (s : Shared) (e : Value) (s' : Shared), CX w [] H s (fun _ _ _ => False) e s' → False) :
    PySem.W.WalkO q loose XP YP l.row.toRowW d [] (fun f vs => PySem.call f vs) := by
  refine Att.attach_call hn hdf fun w s₀ s₁ mg mb fa o pm cd doc a vs ns G Y ho hd hcd hmg hobj hints hlen hg => ?_
  have KX := hY w _ Y
  obtain ⟨fd, hb, hF⟩ := F w mg fa _ KX G.T.g hmg
  exact law_call KX G.T.g G.T.b G.T.builtins G.T.nolimit hg hobj hints (Nat.le_trans hlen hn2) hr hF hb (fun H hO hS => hsp w H a ns hlen hO hS) fun H e s' => hCX w H s₁ e s'
end L2
namespace L2
open PySem PySem.Spec PyProof.Rows
def inClass (s : Stmt) (j : Nat) : Stmt := match s with
  | .ClassDef _ _ _ body _ _ _ _ _ _ _ => body.getD j (.Pass ⟨0, 0, 0, 0⟩)
  | _ => .Pass ⟨0, 0, 0, 0⟩
def defArgs (s : Stmt) : Arguments := match s with
  | .FunctionDef _ a _ _ _ _ _ _ _ _ => a
  | _ => { posonlyargs := [], args := [], vararg := none, kwonlyargs := [], kw_defaults := [], kwarg := none, defaults := [] }
def defBody (s : Stmt) : List Stmt := match s with
  | .FunctionDef _ _ b _ _ _ _ _ _ _ => b
  | _ => []
def defScope (s : Stmt) : Scope := match s with
  | .FunctionDef _ _ _ _ _ _ sc _ _ _ => sc
  | _ => { kind := .function, names := [], isGenerator := false, isCoroutine := false }
abbrev CX0 : CXT := fun _ _ _ _ _ _ => False
abbrev E0 : XK := fun _ _ _ => False
theorem pass0 {X : Cx} : Passes CX0 X E0 := fun _ _ _ _ _ _ _ h => h.elim
structure Fun (K : PySem.W.Frag) (x qual : Str) (st : Stmt) (f : Addr) (fd : FuncData) : Prop where
  ex : ∃ (oc : Value) (od : Option Addr) (kV doc pm : Value) (an : Option Addr) (cdv ct : Value) (osl : Array (Option Value)),
    fd = PySem.W.fnOf x qual (defArgs st) (defBody st) (defScope st) .none kV doc pm an cdv ct ∧ K.lookup f = some ⟨oc, od, .func fd, osl⟩ ∧ PySem.W.codeIn K cdv qual = true
  kp : PySem.W.keepIn K (.ref f) = true
section
variable {P : Program} {w : World} {K : PySem.W.Frag} {mg : Str → Option Value} {base : Heap}
theorem Fun.ok {x qual : Str} {st : Stmt} {f : Addr} {fd : FuncData} {N ps : List Str} {k : Nat} {sp : Sp} (F : Fun K x qual st f fd) (S : FnScope N ps (defScope st)) (len : ∀ vs H Q E, sp vs H Q E → vs.length = ps.length)
    (hbody : ∀ (cdv : Value) (A : Around) (outer : List Env) (s : Shared) (H : Hp) (vs : List V) (Q : VK) (E : XK), Room k (A.deeper (envOfC qual (defScope st) s.heap.objs.size f cdv)) → sp vs H Q E →
      ∃ t, PSs (cxOf CX0 P w K mg base N qual (defScope st) f cdv A outer s H E).nox (defBody st) t ∧ t { nx := fun _ H' => Q .non H', rt := Q } (start N vs) H) : FnOk P w K mg base CX0 (k + 1) f fd ps sp := by
  obtain ⟨oc, od, kV, doc, pm, an, cdv, ct, osl, rfl, lk, hcd⟩ := F.ex
  refine fn_of lk hcd S len fun A outer s H vs Q E hr hsp => ?_
  obtain ⟨t, h, q⟩ := hbody cdv A outer s H vs Q E hr hsp
  exact ⟨t, h.nox, q⟩
theorem Fun.binds {x qual : Str} {st : Stmt} {f : Addr} {fd : FuncData} {ps : List Str} (F : Fun K x qual st f fd)
    (h : ∀ (kV doc pm : Value) (an : Option Addr) (cdv ct : Value) (us : List Value), us.length = ps.length → bindArgs (PySem.W.fnOf x qual (defArgs st) (defBody st) (defScope st) .none kV doc pm an cdv ct) ⟨us, []⟩ = pure (ps.zip us)) : Binds K fd ps [] := by
  obtain ⟨oc, od, kV, doc, pm, an, cdv, ct, osl, rfl, lk, hcd⟩ := F.ex
  exact .all (h kV doc pm an cdv ct)
theorem fun_mk {x qual : Str} {st : Stmt} {f : Addr} {oc : Value} {od an : Option Addr} {osl : Array (Option Value)} {kV doc pm cdv ct : Value} (l : K.lookup f = some ⟨oc, od, .func (PySem.W.fnOf x qual (defArgs st) (defBody st) (defScope st) .none kV doc pm an cdv ct), osl⟩)
    (c : PySem.W.codeIn K cdv qual = true) (k : PySem.W.keepIn K (.ref f) = true) : Fun K x qual st f (PySem.W.fnOf x qual (defArgs st) (defBody st) (defScope st) .none kV doc pm an cdv ct) := ⟨⟨oc, od, kV, doc, pm, an, cdv, ct, osl, rfl, l, c⟩, k⟩
end
section
variable {X : Cx}
theorem pv (i : Nat) {x : Str} {pos : Pos} (hN : X.N[i]? = some x := by rfl) (hv : Vis X.env.scope x := by first | exact Or.inl rfl | exact Or.inr (Or.inl rfl) | exact Or.inr (Or.inr rfl)) (hd : (x == ("__debug__" : Str)) = false := by decide)
    (hcd : (x == ("__classdict__" : Str)) = false := by decide) : PE X (.Name x pos) (tVar i) := pe_var hN hv hd hcd
end
theorem iteF {A B : Prop} (h : B) : if false = true then A else B := by
  rw [if_neg Bool.false_ne_true]
  exact h
theorem iteT {A B : Prop} (h : A) : if true = true then A else B := by
  rw [if_pos rfl]
  exact h
def Same (H H' : Hp) : Prop := ∀ b o, H b = some o → H' b = some o
theorem Same.refl (H : Hp) : Same H H := fun _ _ h => h
theorem Same.trans {H H1 H2 : Hp} (a : Same H H1) (b : Same H1 H2) : Same H H2 := fun c o h => b c o (a c o h)
theorem Same.free {H H' : Hp} (e : Same H H') {l : Addr} (h : H' l = Option.none) : H l = Option.none := by
  cases q : H l with
  | none => rfl
  | some o =>
    rw [e l o q] at h
    cases h
theorem Same.seq {K : PySem.W.Frag} {H H' : Hp} {a : Addr} {xs : List V} (e : Same H H') (h : SqL K H a xs) : SqL K H' a xs := by
  rcases h with (h | ⟨o, h⟩) | h
  · exact .inl (.inl (e _ _ h))
  · exact .inl (.inr ⟨o, e _ _ h⟩)
  · exact .inr h
end L2
set_option maxRecDepth 100000
set_option maxHeartbeats 4000000
namespace L2
open PySem PySem.Spec PyProof.Rows
def OwnG (k : Nat) (g : TG) : Prop := ∀ v σ H (Q Q' : St → Hp → Prop),
  (∀ σ2 H2, σ2.length = σ.length → (∀ j, k ≤ j → σ2[j]? = σ[j]?) → Q σ2 H2 → Q' σ2 H2) → g v σ H Q → g v σ H Q'
def OwnGs (k : Nat) (t : TGs) : Prop := ∀ vs σ H (Q Q' : St → Hp → Prop),
  (∀ σ2 H2, σ2.length = σ.length → (∀ j, k ≤ j → σ2[j]? = σ[j]?) → Q σ2 H2 → Q' σ2 H2) → t vs σ H Q → t vs σ H Q'
theorem own_name {k i : Nat} (h : i < k) : OwnG k (gName i) := by
  intro v σ H Q Q' m q
  refine m _ _ (by simp) (fun j hj => ?_) q
  rw [List.getElem?_set_ne (by omega)]
theorem own_nil {k : Nat} : OwnGs k gNil := fun vs σ H Q Q' m ⟨e, q⟩ => ⟨e, m _ _ rfl (fun _ _ => rfl) q⟩
theorem own_cons {k : Nat} {t : TG} {u : TGs} (ht : OwnG k t) (hu : OwnGs k u) : OwnGs k (gCons t u) := by
  rintro vs σ H Q Q' m ⟨v, r, e, q⟩
  refine ⟨v, r, e, ht v σ H _ _ (fun σ2 H2 l2 k2 q2 => ?_) q⟩
  exact hu r σ2 H2 _ _ (fun σ3 H3 l3 k3 q3 => m σ3 H3 (l3.trans l2) (fun j hj => (k3 j hj).trans (k2 j hj)) q3) q2
theorem own_tup {k n : Nat} {K : PySem.W.Frag} {t : TGs} (ht : OwnGs k t) : OwnG k (gTup K n t) := by
  rintro v σ H Q Q' m ⟨a, xs, e, hs, hl, q⟩
  exact ⟨a, xs, e, hs, hl, ht xs σ H Q Q' m q⟩
def cxComp (X : Cx) (scope : Scope) (cl : List (Str × Addr)) (C : Addr) (N : List Str) (s : Shared) (H : Hp) (ex : List Addr) : Cx :=
  { X with N := N, s₀ := s, H₀ := H, env := compEnvC scope cl C X.env, outer := X.stack, ex := ex, fn := fun _ => false, pn := [], xe := fun _ _ => False }
def CompOk (osc : Scope) (oN : List Str) (k : Nat) (ix : List Nat) (N : List Str) (scope : Scope) : Prop :=
  scope.kind = .function ∧ (∀ y ∈ scope.names, y.2 ≠ .cell) ∧ (∀ y ∈ scope.names, y.2 = .local → scope.names.lookup y.1 = some .local) ∧
  (∀ y ∈ scope.names, y.2 = .free → osc.names.lookup y.1 = some .cell ∨ osc.names.lookup y.1 = some .free) ∧
  N.length = k + ix.length ∧ (∀ p ∈ (N.drop k).zip ix, oN[p.2]? = some p.1 ∧ scope.names.lookup p.1 = some .free)
instance {osc : Scope} {oN : List Str} {k : Nat} {ix : List Nat} {N : List Str} {scope : Scope} : Decidable (CompOk osc oN k ix N scope) := by
  unfold CompOk
  exact inferInstance
def outS (ix : List Nat) (σ : St) : St := ix.map fun i => (σ[i]?).getD none
theorem closure_ok (env : Env) : ∀ (ns : List (Str × NameKind)) (acc : List (Str × Addr)), (∀ y ∈ ns, y.2 = .free → ∃ c, env.cells.lookup y.1 = some c) →
    ∃ cl, (forIn (m := Sem) ns acc fun (y : Str × NameKind) r => match y with
      | (n, k) => if (k == .free) = true then (do let c ← cellOf env n; pure (ForInStep.yield ((n, c) :: r))) else pure (ForInStep.yield r)) = pure cl ∧
      (∀ n c, cl.lookup n = some c → acc.lookup n = some c ∨ env.cells.lookup n = some c) ∧ ∀ n, ((acc.lookup n).isSome = true ∨ (n, NameKind.free) ∈ ns) → (cl.lookup n).isSome = true
  | [], acc, _ => ⟨acc, rfl, fun _ _ h => .inl h, fun n h => h.elim id fun z => by cases z⟩
  | (n, k) :: ns, acc, h => by
    by_cases hk : k = .free
    · subst hk
      obtain ⟨c, hc⟩ := h (n, .free) List.mem_cons_self rfl
      obtain ⟨cl, e, p, q⟩ := closure_ok env ns ((n, c) :: acc) fun y hy => h y (List.mem_cons_of_mem _ hy)
      refine ⟨cl, ?_, fun m d hm => ?_, fun m hm => ?_⟩
      · rw [List.forIn_cons]
        simp only [cellOf, hc, beq_self_eq_true, if_true, pure_bind]
        exact e
      · rcases p m d hm with z | z
        · rw [List.lookup_cons] at z
          split at z
          · rename_i hmn
            cases z
            have : m = n := by simpa using hmn
            subst this
            exact .inr hc
          · exact .inl z
        · exact .inr z
      · refine q m ?_
        rw [List.lookup_cons]
        split
        · exact .inl rfl
        · rename_i hmn
          rcases hm with z | z
          · exact .inl z
          · rcases List.mem_cons.mp z with z | z
            · cases z
              simp at hmn
            · exact .inr z
    · obtain ⟨cl, e, p, q⟩ := closure_ok env ns acc fun y hy => h y (List.mem_cons_of_mem _ hy)
      have hb : (k == NameKind.free) = false := by simpa using hk
      refine ⟨cl, ?_, p, fun m hm => q m (hm.imp id fun z => ?_)⟩
      · rw [List.forIn_cons]
        simp only [hb, Bool.false_eq_true, if_false, pure_bind]
        exact e
      · rcases List.mem_cons.mp z with z | z
        · cases z
          exact absurd rfl hk
        · exact z
theorem closureFor_ok (env : Env) (scope : Scope) (h : ∀ y ∈ scope.names, y.2 = .free → ∃ c, env.cells.lookup y.1 = some c) :
    ∃ cl, closureFor scope env = pure cl ∧ (∀ n c, cl.lookup n = some c → env.cells.lookup n = some c) ∧ ∀ n, (n, NameKind.free) ∈ scope.names → ∃ c, cl.lookup n = some c := by
  obtain ⟨cl, e, p, q⟩ := closure_ok env scope.names [] h
  refine ⟨cl, ?_, fun n c z => (p n c z).elim (fun z => by cases z) id, fun n hn => Option.isSome_iff_exists.mp (q n (.inr hn))⟩
  unfold closureFor
  simpa using e
theorem comp_loop {prog : Program} {w : World} {A : Around} {R : Result → Shared → Prop} {s : Shared} {elt target iter : Expr} {ifs : List Expr} {scope : Scope} {pos : Pos} {it acc : Value} {env : Env}
    (J : Nat → Shared → Prop)
    (turn : ∀ n s, J n s → wpAny (model prog w) A (pyNext it) (fun r s1 => match r with
      | none => R (.ok .next) s1
      | some v => wpAny (model prog w) A (letOwnedTupleGo target it v) (fun _ s2 => wpAny (model prog w) A (assign target env v) (fun _ s3 =>
          wpAny (model prog w) A (forIn ifs true fun c r => if r = true then do let ok ← isTrue c env (eval c env); pure (ForInStep.yield ok) else pure (ForInStep.yield r)) (fun ok s4 =>
            if ok = true then wpAny (model prog w) A (eval elt env) (fun x s5 =>
              wpAny (model prog w) A (call (.builtin "list.append") [acc, x]) (fun _ s6 => ∃ m, m < n ∧ J m s6) (fun _ _ => False) s5) (fun _ _ => False) s4
            else ∃ m, m < n ∧ J m s4) (fun _ _ => False) s3) (fun _ _ => False) s2) (fun _ _ => False) s1) (fun _ _ => False) s)
    (n : Nat) (h : J n s) : codeAny (model prog w) A (.compLoop (.ListComp elt [⟨target, iter, ifs, 0⟩] scope pos) 0 it acc env) R s := by
  refine codeAny_loop rfl J (fun n s hJ => ?_) n h
  show wpAny (model prog w) A ((compTurn (.ListComp elt [⟨target, iter, ifs, 0⟩] scope pos) 0 it acc env).onRaise (fun y => do noteFrame y env; theTreesLotGoes y)) _ _ s
  refine wpAny_noted ?_
  rw [compTurn_list]
  refine wpAny_bind (wpAny_standAt (wpAny_bind (wpAny_mono (turn n s hJ) (fun r s1 h1 => ?_) fun _ _ z => z.elim)))
  cases r with
  | none => exact wpAny_pure h1
  | some v =>
    refine wpAny_bind (wpAny_mono h1 (fun _ s2 h2 => ?_) fun _ _ z => z.elim)
    refine wpAny_bind (wpAny_mono h2 (fun _ s3 h3 => ?_) fun _ _ z => z.elim)
    refine wpAny_bind (wpAny_mono h3 (fun ok s4 h4 => ?_) fun _ _ z => z.elim)
    cases ok with
    | false => exact wpAny_pure ⟨rfl, h4⟩
    | true =>
      refine wpAny_bind (wpAny_bind (wpAny_mono h4 (fun x s5 h5 => ?_) fun _ _ z => z.elim))
      exact wpAny_bind (wpAny_mono h5 (fun _ s6 h6 => wpAny_pure (wpAny_pure ⟨rfl, h6⟩)) fun _ _ z => z.elim)
def PF (X : Cx) (ifs : List Expr) (t : TT) : Prop :=
  ∀ (pins : List (Addr × Obj)) (s : Shared) (σ : St) (H : Hp) (Q : Bool → Hp → Prop), Inv X pins σ H s → t σ H Q →
    wpAny (model X.prog X.w) X.A (forIn ifs true fun c r => if r = true then do let ok ← isTrue c X.env (eval c X.env); pure (ForInStep.yield ok) else pure (ForInStep.yield r)) (TP X pins σ Q) X.xe s
def tYes : TT := fun _ H Q => Q true H
theorem pf_nil {X : Cx} : PF X [] tYes := fun _ _ _ H _ I h => wpAny_tests_nil ⟨H, I, h⟩
theorem pf_one {X : Cx} {c : Expr} {t : TT} (hc : PT X c t) : PF X [c] t := fun pins s σ H Q I h => wpAny_tests_one (hc pins s σ H Q I h)
section
variable {X : Cx} {pins : List (Addr × Obj)} {σ : St} {H : Hp} {s : Shared}
theorem comp_ctx_ok {scope : Scope} {cl : List (Str × Addr)} {C : Addr} {N : List Str} {fp : List Addr} {k : Nat} {ix : List Nat} (I : Inv X pins σ H s) (hc : CompOk X.env.scope X.N k ix N scope)
    (hcl : ∀ n c, cl.lookup n = some c → X.env.cells.lookup n = some c) (hcl2 : ∀ n, (n, NameKind.free) ∈ scope.names → ∃ c, cl.lookup n = some c)
    (hC : s.heap.objs.size ≤ C) (hf : ∀ b ∈ fp, FpOk X pins H b) (hlt : ∀ b ∈ fp, b < s.heap.objs.size) : (cxComp X scope cl C N s H fp).Ok := by
  obtain ⟨kind, nocell, names, free, len, own⟩ := hc
  have lk : ∀ (l : List (Str × NameKind)) (x : Str) (kd : NameKind), l.lookup x = some kd → (x, kd) ∈ l := fun l x kd e => PySem.mem_of_lookup e
  refine ⟨I.ok.mod, kind, I.ok.glob, I.ok.blt, hC, fun x y c h1 h2 => I.ok.inj x y c (hcl x c h1) (hcl y c h2), fun x hx => ?_, fun x c z => (by cases z), I.ok.hd, I.ok.frames, .inl rfl, fun b hb => ⟨Nat.ne_of_lt (Nat.lt_of_lt_of_le (hlt b hb) hC), fun x c e => (hf b hb).2.2.2.2.1 x c (hcl x c e)⟩,
    I.bs, Nat.le_trans I.ok.bsz I.sz, fun b o e z => ?_, fun b hb z => ?_, I.stack, I.stkFree⟩
  ·
    have hx' : (relabel scope X.env).names.lookup x = some .cell ∨ (relabel scope X.env).names.lookup x = some .free := hx
    have key : (x, NameKind.free) ∈ scope.names := by
      have : ∃ kd, (x, kd) ∈ (relabel scope X.env).names ∧ (kd = .cell ∨ kd = .free) := by
        rcases hx' with z | z
        · exact ⟨_, lk _ _ _ z, .inl rfl⟩
        · exact ⟨_, lk _ _ _ z, .inr rfl⟩
      obtain ⟨kd, hm, hkd⟩ := this
      unfold relabel at hm
      obtain ⟨⟨n, k0⟩, h1, h2⟩ := List.mem_map.mp hm
      dsimp only at h2
      by_cases hc : (k0 == NameKind.free && X.env.scope.kind == .function && X.env.kindOf n == some .cell) = true
      · rw [if_pos hc] at h2
        cases h2
        have : k0 = .free := by
          simp only [Bool.and_eq_true] at hc
          simpa using hc.1.1
        rw [← this]
        exact h1
      · rw [if_neg hc] at h2
        cases h2
        rcases hkd with z | z
        · exact absurd z (nocell _ h1)
        · rw [← z]
          exact h1
    exact hcl2 x key
  · obtain ⟨_, _, _, hx, _⟩ := hf b z
    rcases hx with hx | hx
    · exact I.ok.noex b o e hx
    · exact absurd (Nat.lt_of_lt_of_le (Heap.lt_size (I.ok.bs b o e).1) hx) (Nat.lt_irrefl _)
  · rcases List.mem_cons.mp (I.stkSub b z) with e | e
    · exact (hf b hb).2.1 e
    · exact (hf b hb).2.2.1 e
theorem look_comp {scope : Scope} {cl : List (Str × Addr)} {C : Addr} {h' : Heap} {m m' : Str → Option Value} {x : Str} {u : Value} (hl : scope.names.lookup x = some .free)
    (ho : X.env.scope.names.lookup x = some .cell ∨ X.env.scope.names.lookup x = some .free) (hcl : ∀ n c, cl.lookup n = some c → X.env.cells.lookup n = some c) (hcl2 : ∃ c, cl.lookup x = some c)
    (l : Look X.env s.heap m x u) (hk : ∀ b o, s.heap.get? b = some o → h'.get? b = some o) : Look (compEnvC scope cl C X.env) h' m' x u := by
  rcases l with ⟨hk1, _⟩ | ⟨hk1, c, hc, o, e1, e2⟩
  · have hk1' : X.env.scope.names.lookup x = some .local := hk1
    rcases ho with z | z <;> rw [hk1'] at z <;> cases z
  · obtain ⟨c', hc'⟩ := hcl2
    have := hcl x c' hc'
    rw [hc] at this
    cases this
    refine .inr ⟨?_, c, hc', o, hk _ _ e1, e2⟩
    show (relabel scope X.env).names.lookup x = some .cell ∨ (relabel scope X.env).names.lookup x = some .free
    unfold relabel
    dsimp only
    revert hl
    generalize scope.names = ns
    intro hl
    induction ns with
    | nil => cases hl
    | cons y r ih =>
      obtain ⟨n, k0⟩ := y
      rw [List.map_cons]
      dsimp only
      rw [List.lookup_cons] at hl
      by_cases hxn : (x == n) = true
      · rw [hxn] at hl
        cases hl
        have exn : x = n := by simpa using hxn
        subst exn
        by_cases hc : (NameKind.free == NameKind.free && X.env.scope.kind == .function && X.env.kindOf x == some .cell) = true
        · rw [if_pos hc, List.lookup_cons, beq_self_eq_true]
          exact .inl rfl
        · rw [if_neg hc, List.lookup_cons, beq_self_eq_true]
          exact .inr rfl
      · have hxn' : (x == n) = false := by simpa using hxn
        rw [hxn'] at hl
        have hnn : ∀ (kk : NameKind), (List.lookup x ((n, kk) :: List.map (fun (y : Str × NameKind) => if (y.2 == NameKind.free && X.env.scope.kind == .function && X.env.kindOf y.1 == some .cell) = true then (y.1, NameKind.cell) else (y.1, y.2)) r)) = List.lookup x (List.map (fun (y : Str × NameKind) => if (y.2 == NameKind.free && X.env.scope.kind == .function && X.env.kindOf y.1 == some .cell) = true then (y.1, NameKind.cell) else (y.1, y.2)) r) := fun kk => by
          rw [List.lookup_cons, hxn']
        by_cases hc : (k0 == NameKind.free && X.env.scope.kind == .function && X.env.kindOf n == some .cell) = true
        · rw [if_pos hc]
          exact (hnn .cell).symm ▸ ih hl
        · rw [if_neg hc]
          exact (hnn k0).symm ▸ ih hl
theorem comp_inv {scope : Scope} {cl : List (Str × Addr)} {C : Addr} {N : List Str} {fp : List Addr} {k : Nat} {ix : List Nat} {h' : Heap} {m' : Str → Option Value} {t' : Nat} (I : Inv X pins σ H s) (hc : CompOk X.env.scope X.N k ix N scope)
    (hcl : ∀ n c, cl.lookup n = some c → X.env.cells.lookup n = some c) (hcl2 : ∀ n, (n, NameKind.free) ∈ scope.names → ∃ c, cl.lookup n = some c)
    (hC : s.heap.objs.size ≤ C) (hf : ∀ b ∈ fp, FpOk X pins H b) (hlt : ∀ b ∈ fp, b < s.heap.objs.size) (hk : ∀ b o, s.heap.get? b = some o → h'.get? b = some o) (hn : h'.Ns C m') :
    Inv (cxComp X scope cl C N s H fp) [] (List.replicate k none ++ outS ix σ) H { s with heap := h', toks := t' } := by
  have ok := comp_ctx_ok I hc hcl hcl2 hC hf hlt
  obtain ⟨kind, nocell, names, free, len, own⟩ := hc
  have mem : ∀ {x : Str}, scope.names.lookup x = some .free → (x, NameKind.free) ∈ scope.names := fun e => PySem.mem_of_lookup e
  refine ⟨ok, rfl, I.bare, Un.kept hk, ⟨m', hn, fun i x v h1 h2 _ => ?_⟩, fun x c e => ?_, I.hok.fresh hC, fun x c e => I.freeC x c (hcl x c e), fun p hp => (by cases hp), I.hok.kept hk, ?_⟩
  · have h1 : N[i]? = some x := h1
    have hi : k ≤ i := by
      rcases Nat.lt_or_ge i k with z | z
      · rw [List.getElem?_append_left (by simpa using z), List.getElem?_replicate, if_pos z] at h2
        cases h2
      · exact z
    rw [List.getElem?_append_right (by simpa using hi), List.length_replicate] at h2
    unfold outS at h2
    rw [List.getElem?_map] at h2
    cases e : ix[i - k]? with
    | none => rw [e] at h2; cases h2
    | some j =>
      rw [e] at h2
      have h2 : (σ[j]?).getD none = some v := Option.some.inj h2
      have hz : (x, j) ∈ (N.drop k).zip ix := by
        refine List.mem_of_getElem? (i := i - k) ?_
        rw [List.getElem?_zip_eq_some, List.getElem?_drop]
        exact ⟨by rw [Nat.add_sub_cancel' hi]; exact h1, e⟩
      obtain ⟨o1, o2⟩ := own _ hz
      have hs : σ[j]? = some (some v) := by
        cases q : σ[j]? with
        | none => rw [q] at h2; cases h2
        | some z => rw [q] at h2; have h2 : z = some v := h2; rw [h2]
      obtain ⟨m, hm, hl⟩ := I.loc
      have hfr := free _ (mem o2) rfl
      have hv : Vis X.env.scope x := hfr.elim (fun z => .inr (.inl z)) fun z => .inr (.inr z)
      obtain ⟨u, r, l⟩ := hl j x v o1 hs hv
      exact ⟨u, r, look_comp o2 hfr hcl (hcl2 _ (mem o2)) l hk⟩
  · obtain ⟨v, o, e1, e2⟩ := I.cell x c (hcl x c e)
    exact ⟨v, o, hk _ _ e1, e2⟩
  · show (List.replicate k none ++ outS ix σ).length = N.length
    rw [List.length_append, List.length_replicate, len]
    unfold outS
    rw [List.length_map]
structure BlockEnd (X : Cx) (scope : Scope) (cl : List (Str × Addr)) (N : List Str) (s : Shared) (H : Hp) (fp : List Addr) (D C : Addr) (ys : List V) (H' : Hp) (s' : Shared) : Prop where
  inv : ∃ σ', Inv (cxComp X scope cl C N s H fp) [] σ' H' s'
  dn : H' D = none
  lst : ∃ (its : List Value) (n : Nat), Vals ys its ∧ s'.heap.get? D = some { cls := .type "list", data := .seq its.toArray n }
  hD : s.heap.objs.size ≤ D
  hC : s.heap.objs.size ≤ C
  ne : D ≠ C
  sz : ys.length ≤ sizeLine
theorem BlockEnd.out {scope : Scope} {cl : List (Str × Addr)} {N : List Str} {fp : List Addr} {D C : Addr} {ys : List V} {H' : Hp} {s' : Shared} (I : Inv X pins σ H s) (hf : ∀ b ∈ fp, FpOk X pins H b)
    (B : BlockEnd X scope cl N s H fp D C ys H' s') : Inv X pins σ (upd H' D (.lst ys)) s' ∧ (∃ m, s'.heap.Ns C m) ∧ upd H' D (.lst ys) C = none := by
  obtain ⟨σ', J⟩ := B.inv
  obtain ⟨its, n, rv, e⟩ := B.lst
  have eD : ∀ b u, H' b = some u → b ≠ D := fun b u z => ne_of_none z B.dn
  refine ⟨?_, let ⟨m, hm, _⟩ := J.loc; ⟨m, hm⟩, by rw [upd_ne (Ne.symm B.ne)]; exact J.free⟩
  have U : Un (frs X.stack) fp H H' s.heap s'.heap := J.base
  refine I.call' (ch := fp) J.os ⟨U.keep, U.slot, fun b o q z hb => ?_, U.there, fun b xs q => ?_, fun b o xs q => ?_, fun b ps q => ?_⟩ ?_ J.bare fun b hb => ?_
  · rw [upd_ne (Nat.ne_of_lt (Nat.lt_of_lt_of_le (Heap.lt_size q) B.hD))]
    exact U.free b o q z hb
  · have z := U.tups b xs q
    rw [upd_ne (eD _ _ z)]; exact z
  · have z := U.frzs b o xs q
    rw [upd_ne (eD _ _ z)]; exact z
  · obtain ⟨m, z⟩ := U.tbls b ps q
    exact ⟨m, by rw [upd_ne (eD _ _ z)]; exact z⟩
  · intro b o q
    by_cases hb : b = D
    · subst hb
      rw [upd_same] at q
      cases q
      exact ⟨B.sz, its, n, rv, e⟩
    · rw [upd_ne hb] at q
      refine (J.hok b o q).stay (fun _ _ _ z => z) (fun c z => ?_) fun c xs z => ?_
      · rw [upd_ne (eD _ _ z)]; exact z
      · rw [upd_ne (eD _ _ z)]; exact z
  · obtain ⟨_, h1, h2, h3, h4, h5⟩ := hf b hb
    exact ⟨h3, h1, h4, h5⟩
end
end L2
set_option maxRecDepth 100000
set_option maxHeartbeats 4000000
namespace L2
open PySem PySem.Spec PyProof.Rows
def tTurn (k : Nat) (ix : List Nat) (g : TG) (tc : TT) (te : TE) (σ : St) (x : V) (H : Hp) (Qe : V → Hp → Prop) (Qn : Hp → Prop) : Prop :=
  g x (List.replicate k none ++ outS ix σ) H fun σ2 H2 => tc σ2 H2 fun b H3 => if b = true then te σ2 H3 Qe else Qn H3
def CompW (k : Nat) (ix : List Nat) (g : TG) (tc : TT) (te : TE) (σ : St) (J : It) (H1 : Hp) (Q : List V → Hp → Prop) : Prop :=
  ∃ W : Nat → Nat → List V → Hp → Prop, (∃ m, W 0 m [] H1) ∧ ∀ i m ys H, W i m ys H → ys.length ≤ sizeLine ∧
    ((J.stop i H ∧ Q ys H) ∨ (J.go i H ∧ ∀ x H', J.yld i H x H' → tTurn k ix g tc te σ x H' (fun v H4 => ∃ m', m' < m ∧ W (i + 1) m' (ys ++ [v]) H4) fun H3 => ∃ m', m' < m ∧ W (i + 1) m' ys H3))
section
variable {X : Cx} {pins : List (Addr × Obj)} {σ : St} {H : Hp} {s : Shared}
theorem comp_block {elt target iter : Expr} {ifs : List Expr} {scope : Scope} {cl : List (Str × Addr)} {pos : Pos} {N : List Str} {fp : List Addr} {k : Nat} {ix : List Nat} {it : Addr} {J : It} {tn : Nat → Heap → Prop} {g : TG} {tc : TT} {te : TE}
    {Q : List V → Hp → Prop} {RR : Value → Addr → Result → Shared → Prop} {E : Value → Shared → Prop} (hcalm : X.calm = true) (I : Inv X pins σ H s) (hc : CompOk X.env.scope X.N k ix N scope) (og : OwnG k g)
    (hcl : ∀ n c, cl.lookup n = some c → X.env.cells.lookup n = some c) (hcl2 : ∀ n, (n, NameKind.free) ∈ scope.names → ∃ c, cl.lookup n = some c)
    (T : Turn X.prog X.w X.K target J fp it tn) (t0 : tn 0 s.heap) (hf : ∀ b ∈ fp, FpOk X pins H b)
    (hg : ∀ C, PG (cxComp X scope cl C N s H fp) target g) (ht : ∀ C, PF (cxComp X scope cl C N s H fp) ifs tc) (he : ∀ C, PE (cxComp X scope cl C N s H fp) elt te)
    (hw : CompW k ix g tc te σ J H Q)
    (fin : ∀ D C ys H' s', BlockEnd X scope cl N s H fp D C ys H' s' → Q ys H' → RR (.ref D) C (.ok .next) s') :
    wpAny (model X.prog X.w) X.A (newList []) (fun acc s3 => wpAny (model X.prog X.w) X.A (newFunctionEnv scope X.env.globals cl [] X.env.qual none .none (some X.env)) (fun cenv s4 =>
      codeAny (model X.prog X.w) X.A (.compStart (.ListComp elt [⟨target, iter, ifs, 0⟩] scope pos) 0 (.ref it) acc { cenv with scope := relabel scope X.env }) (RR acc cenv.locals) s4) E s3) E s := by
  have hlt : ∀ b ∈ fp, b < s.heap.objs.size := fun b hb => by
    obtain ⟨o, e, _⟩ := T.obj 0 _ t0 b hb
    exact Heap.lt_size e
  refine wpAny_newObj_type (wpAny_newFunctionEnv hc.2.1 (by intro y hy; simp at hy) (fun h1 hns hsb => ?_) hc.1)
  dsimp only at hns hsb ⊢
  generalize eH : s.heap.push { cls := .type "list", dict := none, data := .seq ([] : List Value).toArray } = Hx at hns hsb ⊢
  have hC : Hx.objs.size = s.heap.objs.size + 1 := by rw [← eH, Heap.size_push]
  have hne : s.heap.objs.size ≠ Hx.objs.size := by rw [hC]; exact Nat.ne_of_lt (Nat.lt_succ_self _)
  have hle : s.heap.objs.size ≤ Hx.objs.size := by rw [hC]; exact Nat.le_succ _
  have old : ∀ b o, s.heap.get? b = some o → h1.get? b = some o := fun b o e =>
    hsb.extBut b o (Nat.ne_of_lt (Nat.lt_of_lt_of_le (Heap.lt_size e) hle)) (Heap.get?_push_of_some _ (eH ▸ Heap.get?_push_of_some _ e))
  have hacc : h1.PlainList s.heap.objs.size #[] := ⟨_, hsb.extBut _ _ hne (Heap.get?_push_of_some _ (eH ▸ Heap.get?_push_size _ rfl))⟩
  have ci := fun (t' : Nat) => comp_inv (C := Hx.objs.size) (t' := t') I hc hcl hcl2 hle hf hlt old hns
  have cfp : ∀ {H' : Hp}, (∀ b ∈ fp, H' b = none) → ∀ b ∈ fp, FpOk (cxComp X scope cl Hx.objs.size N s H fp) [] H' b := fun hn b hb => by
    obtain ⟨_, z1, z2, z3, z4, z5⟩ := hf b hb
    refine ⟨hn b hb, Nat.ne_of_lt (Nat.lt_of_lt_of_le (hlt b hb) hle), fun z => ?_, .inl hb, fun x c e => z4 x c (hcl x c e), fun p hp => by cases hp⟩
    rcases List.mem_cons.mp (I.stkSub b z) with e | e
    · exact z1 e
    · exact z2 e
  have dfs : s.heap.objs.size ∉ frs X.stack := fun z => (List.mem_cons.mp (I.stkSub _ z)).elim (fun e => absurd I.lt (by rw [e]; exact Nat.lt_irrefl _)) fun e => I.nofs (Nat.le_refl _) e
  have cne : ∀ x c, X.env.cells.lookup x = some c → c ≠ s.heap.objs.size := fun x c e z => by
    obtain ⟨_, o, q, _⟩ := I.cell x c e
    exact absurd (Heap.lt_size q) (by rw [z]; exact Nat.lt_irrefl _)
  obtain ⟨W, ⟨m0, w0⟩, turn⟩ := hw
  have loop : ∀ s3 : Shared, s3 = { s with heap := h1, toks := s.toks + ([] : List (Str × Value)).length } →
      codeAny (model X.prog X.w) X.A (.compLoop (.ListComp elt [⟨target, iter, ifs, 0⟩] scope pos) 0 (.ref it) (.ref s.heap.objs.size) (compEnvC scope cl Hx.objs.size X.env)) (RR (.ref s.heap.objs.size) Hx.objs.size) s3 := by
    rintro s3 rfl
    refine comp_loop (fun n s' => ∃ i ys H' its, Inv (cxComp X scope cl Hx.objs.size N s H fp) [] (List.replicate k none ++ outS ix σ) H' s' ∧ tn i s'.heap ∧ (∀ b ∈ fp, H' b = none) ∧ s'.heap.PlainList s.heap.objs.size (List.toArray its) ∧
      H' s.heap.objs.size = none ∧ Vals ys its ∧ W i n ys H') ?_ m0 ⟨0, [], H, [], ci _, T.keep _ _ _ t0 fun b _ o e => old b o e, fun b hb => (hf b hb).1, hacc, I.hok.fresh (Nat.le_refl _), .nil, w0⟩
    rintro n s4 ⟨i, ys, H4, its, I4, t4, f4, p4, d4, v4, w4⟩
    obtain ⟨hsz, turn4⟩ := turn i n ys H4 w4
    rcases turn4 with ⟨st, q⟩ | ⟨go, step⟩
    ·
      obtain ⟨pn, pe⟩ := p4
      have I4' : Inv (cxComp X scope cl Hx.objs.size N s H fp) [(s.heap.objs.size, { cls := .type "list", data := .seq its.toArray pn })] (List.replicate k none ++ outS ix σ) H4 s4 := I4.pins_of fun p hp => by
        have ep := List.mem_singleton.mp hp
        subst ep
        exact ⟨pe, d4, hne, dfs, fun v z => (by cases z)⟩
      have fp4 : ∀ b ∈ fp, FpOk (cxComp X scope cl Hx.objs.size N s H fp) [(s.heap.objs.size, { cls := .type "list", data := .seq its.toArray pn })] H4 b := fun b hb => by
        obtain ⟨z0, z1, z2, z3, z4, _⟩ := cfp f4 b hb
        refine ⟨z0, z1, z2, z3, z4, fun p hp e => ?_⟩
        have ep := List.mem_singleton.mp hp
        subst ep
        exact absurd (hlt b hb) (by rw [← e]; exact Nat.lt_irrefl _)
      refine thn (T.done (cxComp X scope cl Hx.objs.size N s H fp) rfl rfl rfl hcalm i _ s4 _ H4 _ I4' fp4 t4 st) fun r s5 ⟨hr, I5⟩ => ?_
      subst hr
      obtain ⟨e5, n5, _⟩ := I5.pin (s.heap.objs.size, _) (List.mem_singleton.mpr rfl)
      exact fin s.heap.objs.size Hx.objs.size ys H4 s5 ⟨⟨_, I5.pins_of (pins' := []) fun p hp => (by cases hp)⟩, n5, ⟨its, pn, v4, e5⟩, Nat.le_refl _, hle, hne, hsz⟩ q
    · obtain ⟨pn, pe⟩ := p4
      have I4' : Inv (cxComp X scope cl Hx.objs.size N s H fp) [(s.heap.objs.size, { cls := .type "list", data := .seq its.toArray pn })] (List.replicate k none ++ outS ix σ) H4 s4 := I4.pins_of fun p hp => by
        have ep := List.mem_singleton.mp hp
        subst ep
        exact ⟨pe, d4, hne, dfs, fun v z => (by cases z)⟩
      have fpx : ∀ {H' : Hp}, (∀ b ∈ fp, H' b = none) → ∀ b ∈ fp, FpOk (cxComp X scope cl Hx.objs.size N s H fp) [(s.heap.objs.size, { cls := .type "list", data := .seq its.toArray pn })] H' b := fun hn b hb => by
        obtain ⟨z0, z1, z2, z3, z4, _⟩ := cfp hn b hb
        refine ⟨z0, z1, z2, z3, z4, fun p hp e => ?_⟩
        have ep := List.mem_singleton.mp hp
        subst ep
        exact absurd (hlt b hb) (by rw [← e]; exact Nat.lt_irrefl _)
      refine thn (T.item (cxComp X scope cl Hx.objs.size N s H fp) rfl rfl rfl hcalm i _ s4 _ H4 (fun _ _ => False) I4' (fpx f4) t4 go) fun r s5 ⟨u, hr, h5⟩ => ?_
      subst hr
      refine thn h5 fun _ s6 ⟨x, H6, I6, r6, y6, t6, f6⟩ => ?_
      have I6' := I6.pinned (fpx f6) (T.obj _ _ t6)
      have stp := og x _ H6 _ (fun σ2 H2 => (σ2.length = (List.replicate k none ++ outS ix σ).length ∧ ∀ j, k ≤ j → σ2[j]? = (List.replicate k none ++ outS ix σ)[j]?) ∧
        tc σ2 H2 fun b H3 => if b = true then te σ2 H3 (fun v H4 => ∃ m', m' < n ∧ W (i + 1) m' (ys ++ [v]) H4) else ∃ m', m' < n ∧ W (i + 1) m' ys H3) (fun σ2 H2 a b c => ⟨⟨a, b⟩, c⟩) (step x H6 y6)
      refine thn (hg _ _ s6 _ H6 x u _ I6' r6 stp) fun _ s7 ⟨σ7, H7, I7, ⟨l7, k7⟩, q7⟩ => ?_
      have weak : ∀ {H' : Hp} {s' : Shared} {ps : List (Addr × Obj)}, Inv (cxComp X scope cl Hx.objs.size N s H fp) ps σ7 H' s' → Inv (cxComp X scope cl Hx.objs.size N s H fp) ps (List.replicate k none ++ outS ix σ) H' s' := fun z => z.weak l7.symm fun j v e => by
        rcases Nat.lt_or_ge j k with hj | hj
        · rw [List.getElem?_append_left (by simpa using hj), List.getElem?_replicate, if_pos hj] at e
          cases e
        · rw [k7 j hj]; exact e
      refine thn (ht _ _ s7 σ7 H7 _ I7 q7) fun ok s8 ⟨H8, I8, q8⟩ => ?_
      have keepT : ∀ {H' : Hp} {s' : Shared}, Inv (cxComp X scope cl Hx.objs.size N s H fp) ([(s.heap.objs.size, { cls := .type "list", data := .seq its.toArray pn })] ++ pinsAt fp s6.heap) σ7 H' s' →
          tn (i + 1) s'.heap ∧ (∀ b ∈ fp, H' b = none) ∧ s'.heap.PlainList s.heap.objs.size its.toArray ∧ H' s.heap.objs.size = none := fun {H' s'} z => by
        refine ⟨T.keep _ _ _ t6 fun b hb o e => (z.pin (b, o) (List.mem_append_right _ (List.mem_append_right _ (mem_pinsAt hb e)))).1, fun b hb => ?_, ?_⟩
        · obtain ⟨o, e, d⟩ := T.obj _ _ t6 b hb
          exact (z.pin (b, o) (List.mem_append_right _ (List.mem_append_right _ (mem_pinsAt hb e)))).2.1
        · obtain ⟨e, n', _⟩ := z.pin (s.heap.objs.size, { cls := .type "list", data := .seq its.toArray pn }) (List.mem_append_right _ (List.mem_append_left _ (List.mem_singleton.mpr rfl)))
          exact ⟨⟨pn, e⟩, n'⟩
      cases ok with
      | false =>
        have q8 : ∃ m', m' < n ∧ W (i + 1) m' ys H8 := by simpa using q8
        obtain ⟨m', hm, w8⟩ := q8
        obtain ⟨a1, a2, a3, a4⟩ := keepT I8
        exact ⟨m', hm, i + 1, ys, H8, its, (weak I8).pins_of (pins' := []) fun p hp => (by cases hp), a1, a2, a3, a4, v4, w8⟩
      | true =>
        have q8 : te σ7 H8 (fun v H4 => ∃ m', m' < n ∧ W (i + 1) m' (ys ++ [v]) H4) := by simpa using q8
        show wpAny _ _ (eval elt _) _ _ s8
        refine thn (he _ _ s8 σ7 H8 _ I8 q8) fun y s9 ⟨v, H9, I9, r9, m', hm, w9⟩ => ?_
        obtain ⟨a1, a2, a3, a4⟩ := keepT I9
        refine wpAny_list_append_plain a3 (fun h10 hp10 hs10 => ?_) (by rw [List.size_toArray, ← v4.length]; exact hsz)
        refine ⟨m', hm, i + 1, ys ++ [v], H9, its ++ [y], ?_, T.keep _ _ _ a1 fun b hb o e => hs10.extBut b o (fun z => absurd (hlt b hb) (by rw [z]; exact Nat.lt_irrefl _)) e, a2, by simpa using hp10, a4, Paired.snoc v4 r9, w9⟩
        have I9' : Inv (cxComp X scope cl Hx.objs.size N s H fp) [] (List.replicate k none ++ outS ix σ) H9 s9 := (weak I9).pins_of (pins' := []) fun p hp => (by cases hp)
        exact I9'.turned (t' := s9.toks) (it := s.heap.objs.size) (fun b o hb e => hs10.extBut b o hb e) a4 hne (.inr (Nat.le_refl _))
          (fun x c e => cne x c (hcl x c e)) fun p hp => (by cases hp)
  exact codeAny_compStart_list (loop _ rfl) (T.self _ 0 _ _ _ (T.keep _ _ _ t0 fun b _ o e => old b o e) (loop _ rfl))
end
def tComp (k : Nat) (ix : List Nat) (wi : TI) (g : TG) (tc : TT) (te : TE) : TE := fun σ H Q => wi σ H fun J H1 =>
  CompW k ix g tc te σ J H1 fun ys H2 => ∀ D, H2 D = none → Q (.ref D) (upd H2 D (.lst ys))
section
variable {X : Cx} {elt target iter : Expr} {ifs : List Expr} {scope : Scope} {pos : Pos} {N : List Str} {k : Nat} {ix : List Nat} {wi : TI} {g : TG} {tc : TT} {te : TE}
theorem comp_free {pins : List (Addr × Obj)} {σ : St} {H : Hp} {s : Shared} (I : Inv X pins σ H s) (hc : CompOk X.env.scope X.N k ix N scope) : ∀ y ∈ scope.names, y.2 = .free → ∃ c, X.env.cells.lookup y.1 = some c := fun y hy e =>
  I.ok.has y.1 (hc.2.2.2.1 y hy e)
theorem pe_comp (hcalm : X.calm = true) (hc : CompOk X.env.scope X.N k ix N scope) (og : OwnG k g) (hi : PI X target iter wi)
    (hb : ∀ cl C s H fp, PG (cxComp X scope cl C N s H fp) target g ∧ PF (cxComp X scope cl C N s H fp) ifs tc ∧ PE (cxComp X scope cl C N s H fp) elt te)
    (hs : ∀ x, foldedSetIterable iter X.env x = pure x := by intro _; rfl) : PE X (.ListComp elt [⟨target, iter, ifs, 0⟩] scope pos) (tComp k ix wi g tc te) := by
  intro pins s σ H Q I h
  obtain ⟨cl, hclos, hcl, hcl2⟩ := closureFor_ok X.env scope (comp_free I hc)
  rw [eval_ListComp]
  refine wpAny_comprehension_free (use := none) rfl hs hclos hc.1 hc.2.2.1 (thn (hi pins s σ H _ I h) fun xv s1 h1 => thn h1 fun itv s2 h2 => ?_)
  obtain ⟨it, fp, tn, J, H2, e, I2, T, st2, f2, hw⟩ := h2
  subst e
  refine comp_block hcalm I2 hc og hcl hcl2 T st2 f2 (fun C => (hb cl C s2 H2 fp).1) (fun C => (hb cl C s2 H2 fp).2.1) (fun C => (hb cl C s2 H2 fp).2.2) hw (RR := fun acc C => compPost (model X.prog X.w) X.A X.xe none (EP X pins σ Q) acc C) ?_
  intro D C ys H' s' B q
  obtain ⟨I3, ⟨m, hm⟩, hCn⟩ := B.out I2 f2
  refine ⟨m, hm, fun h' hs' => ?_⟩
  have q' := q D B.dn
  have hCs : X.s₀.heap.objs.size ≤ C := Nat.le_trans I2.sz B.hC
  obtain ⟨_, f1, f3, f4, f5, f6⟩ := I2.fpOk (H' := upd H' D (.lst ys)) B.hC hCn
  exact ⟨.ref D, _, I3.turned (t' := s'.toks) (it := C) (fun b o hb e => hs'.extBut b o hb e) hCn f1 f4 f5 f6, rfl, q'⟩
def tSetComp (i k : Nat) (ix : List Nat) (wi : TI) (g : TG) (tc : TT) (te : TE) : TS := fun D σ H => wi σ H fun J H1 =>
  CompW k ix g tc te σ J H1 fun ys H2 => ∀ p, H2 p = none → D.nx (σ.set i (some (.ref p))) (upd H2 p (.lst ys))
theorem ps_setComp {i : Nat} {x : Str} {pos' spos : Pos} (hcalm : X.calm = true) (hN : X.N.Nodup) (hx0 : X.N[i]? = some x) (hx : X.env.scope.names.lookup x = some .local) (hc : CompOk X.env.scope X.N k ix N scope) (og : OwnG k g) (hi : PI X target iter wi)
    (hb : ∀ cl C s H fp, PG (cxComp X scope cl C N s H fp) target g ∧ PF (cxComp X scope cl C N s H fp) ifs tc ∧ PE (cxComp X scope cl C N s H fp) elt te)
    (hsw : swapsWith (.ListComp elt [⟨target, iter, ifs, 0⟩] scope pos) (some (.Name x pos')) spos.line X.env = pure true := by rfl)
    (hs : ∀ x, foldedSetIterable iter X.env x = pure x := by intro _; rfl) : PS X (.Assign [.Name x pos'] (.ListComp elt [⟨target, iter, ifs, 0⟩] scope pos) spos) (tSetComp i k ix wi g tc te) := by
  intro pins s σ H Dn I h
  obtain ⟨cl, hclos, hcl, hcl2⟩ := closureFor_ok X.env scope (comp_free I hc)
  rw [exec_Assign_Name_used _ _ _ _ hsw]
  refine wpAny_bind (wpAny_standAt (wpAny_bind ?_))
  show wpAny _ X.A (do let _ ← comprehension (.ListComp elt [⟨target, iter, ifs, 0⟩] scope pos) scope X.env _ (newList []) false (eval iter X.env) (some (assign (.Name x pos') X.env))) _ _ s
  refine wpAny_bind (wpAny_mono (wpAny_comprehension_free (use := some (assign (.Name x pos') X.env)) (Q := fun _ s' => SP X pins Dn .next s') rfl hs hclos hc.1 hc.2.2.1
    (thn (hi pins s σ H _ I h) fun xv s1 h1 => thn h1 fun itv s2 h2 => ?_)) (fun _ s' hq => wpAny_pure (wpAny_pure hq)) fun _ _ e => e)
  obtain ⟨it, fp, tn, J, H2, e, I2, T, st2, f2, hw⟩ := h2
  subst e
  refine comp_block hcalm I2 hc og hcl hcl2 T st2 f2 (fun C => (hb cl C s2 H2 fp).1) (fun C => (hb cl C s2 H2 fp).2.1) (fun C => (hb cl C s2 H2 fp).2.2) hw (RR := fun acc C => compPost (model X.prog X.w) X.A X.xe (some (assign (.Name x pos') X.env)) (fun _ s' => SP X pins Dn .next s') acc C) ?_
  intro D C ys H' s' B q
  obtain ⟨I3, ⟨m, o, es, ep, ho, hd, hr⟩, hCn⟩ := B.out I2 f2
  have q' := q D B.dn
  obtain ⟨_, f1, f3, f4, f5, f6⟩ := I2.fpOk (H' := upd H' D (.lst ys)) B.hC hCn
  have I4 : Inv X (pins ++ [(C, o)]) σ (upd H' D (.lst ys)) s' := I3.pins_of fun p hp => (List.mem_append.mp hp).elim (fun z => I3.pin p (List.mem_append_right _ z)) fun z => by
    have z' := List.mem_singleton.mp z
    subst z'
    exact ⟨ho, hCn, f1, f3, fun v z => by rw [hd] at z; cases z⟩
  show wpAny _ X.A (assign (.Name x pos') X.env (.ref D)) _ _ s'
  refine wpAny_assign_Name (store_ok I4 hN hx0 (.inl hx) (v := .ref D) (u := .ref D) rfl (fun s5 I5 => ?_) (.inr hx))
  obtain ⟨e5, n5, _⟩ := I5.pin (C, o) (List.mem_append_right _ (List.mem_append_right _ (List.mem_singleton.mpr rfl)))
  refine ⟨m, ⟨o, es, ep, e5, hd, hr⟩, fun h' hs' => ?_⟩
  exact ⟨_, _, I5.unpinned.turned (t' := s5.toks) (it := C) (fun b o hb e => hs'.extBut b o hb e) hCn f1 f4 f5 f6, q'⟩
end
end L2
set_option maxRecDepth 100000
set_option maxHeartbeats 4000000
namespace L2
open PySem PySem.Spec PyProof.Rows
def ExcAt (a C : Addr) (h : Heap) : Prop := ∃ o vs, h.get? a = some o ∧ o.cls = .ref C ∧ o.data = .fields vs
def excD (C : Addr) : PyData := .dict [(.none, .int (C : Int))]
def ExcDAt (a C dx : Addr) (h : Heap) : Prop := ∃ o vs, h.get? a = some o ∧ o.cls = .ref C ∧ o.data = .fields vs ∧ o.dict = some dx
def excRD (C : Addr) (n : Int) : PyData := .dict [(.none, .int (C : Int)), (.none, .int n)]
def excC : List (PyData × PyData) → Option Addr
  | [(.none, .int i)] => some i.toNat
  | [(.none, .int i), (.none, .int _)] => some i.toNat
  | (.none, .tuple [.int i]) :: _ => some i.toNat
  | (.bool true, _) :: _ => some 0
  | _ => none
def objD (C : Addr) (es : List (PyData × PyData)) : PyData := .dict ((.none, .tuple [.int (C : Int)]) :: es)
def isObD : PyData → Bool
  | .dict ((.none, .tuple _) :: _) => true
  | .dict ((.bool true, _) :: _) => true
  | _ => false
theorem excC_obj (i : Int) (es : List (PyData × PyData)) : excC ((.none, .tuple [.int i]) :: es) = some i.toNat := by
  cases es with
  | nil => rfl
  | cons y ys => cases ys <;> rfl
def keyD : Key → PyData
  | .inl i => .int i
  | .inr x => .str x
def ppE (m : List ((Int × Int) × Int)) : List (PyData × PyData) := (.bool true, .none) :: m.map fun q => (.tuple [.int q.1.1, .int q.1.2], .int q.2)
def ppK (m : List ((Int × Int) × Int)) : List (List Key × V) := m.map fun q => ([.inl q.1.1, .inl q.1.2], V.int q.2)
def fldsAll : List Str := ["start", "text", "rows", "ways", "atoms", "numbers"]
mutual
inductive DV (K : PySem.W.Frag) (H : Hp) : V → PyData → Prop where
  | non : DV K H .non .none
  | bl (b : Bool) : DV K H (.bl b) (.bool b)
  | int (i : Int) : DV K H (.int i) (.int i)
  | str (x : Str) : DV K H (.str x) (.str x)
  | tup {a : Addr} {xs : List V} {ds : List PyData} : SqT K H a xs → DVs K H xs ds → DV K H (.ref a) (.tuple ds)
  | lst {a : Addr} {xs : List V} {ds : List PyData} : SqL K H a xs → DVs K H xs ds → DV K H (.ref a) (.list ds)
  | dct {a : Addr} {kvs : List (Key × V)} {es : List (PyData × PyData)} : H a = some (.dK kvs) → DVk K H kvs es → DV K H (.ref a) (.dict es)
  | exc {a C : Addr} : H a = some (.ext (ExcAt a C)) → DV K H (.ref a) (.dict [(.none, .int (C : Int))])
  | exr {a C dx : Addr} {n : Int} : H a = some (.ext (ExcDAt a C dx)) → H dx = some (.xd [("row", .int n)]) → DV K H (.ref a) (.dict [(.none, .int (C : Int)), (.none, .int n)])
  | obj {a C dx : Addr} {fs : List (Str × V)} {es : List (PyData × PyData)} : H a = some (.ins C dx fs) → (∀ m : Str, m ∉ fldsAll → fs.lookup m = none) → DVf K H fs es → DV K H (.ref a) (.dict ((.none, .tuple [.int (C : Int)]) :: es))
  | dtt {a : Addr} {m : List ((Int × Int) × Int)} : H a = some (.dT (ppK m)) → DV K H (.ref a) (.dict (ppE m))
inductive DVs (K : PySem.W.Frag) (H : Hp) : List V → List PyData → Prop where
  | nil : DVs K H [] []
  | cons {x : V} {d : PyData} {xs : List V} {ds : List PyData} : DV K H x d → DVs K H xs ds → DVs K H (x :: xs) (d :: ds)
inductive DVk (K : PySem.W.Frag) (H : Hp) : List (Key × V) → List (PyData × PyData) → Prop where
  | nil : DVk K H [] []
  | cons {k : Key} {x : V} {d : PyData} {xs : List (Key × V)} {ds : List (PyData × PyData)} : DV K H x d → DVk K H xs ds → DVk K H ((k, x) :: xs) ((keyD k, d) :: ds)
inductive DVf (K : PySem.W.Frag) (H : Hp) : List (Str × V) → List (PyData × PyData) → Prop where
  | nil {fs : List (Str × V)} : DVf K H fs []
  | cons {fs : List (Str × V)} {f : Str} {x : V} {d : PyData} {ds : List (PyData × PyData)} : fs.lookup f = some x → DV K H x d → DVf K H fs ds → DVf K H fs ((.str f, d) :: ds)
end
theorem Same.seqT {K : PySem.W.Frag} {H H' : Hp} {a : Addr} {xs : List V} (e : Same H H') (h : SqT K H a xs) : SqT K H' a xs := by
  rcases h with (h | ⟨o, h⟩) | h
  · exact .inl (.inl (e _ _ h))
  · exact .inl (.inr ⟨o, e _ _ h⟩)
  · exact .inr h
section
variable {K : PySem.W.Frag} {H H' : Hp}
mutual
theorem DV.mono (e : Same H H') : ∀ {v : V} {d : PyData}, DV K H v d → DV K H' v d
  | _, _, .non => .non
  | _, _, .bl b => .bl b
  | _, _, .int i => .int i
  | _, _, .str x => .str x
  | _, _, .tup h t => .tup (e.seqT h) (DVs.mono e t)
  | _, _, .lst h t => .lst (e.seq h) (DVs.mono e t)
  | _, _, .dct h t => .dct (e _ _ h) (DVk.mono e t)
  | _, _, .exc h => .exc (e _ _ h)
  | _, _, .exr h h' => .exr (e _ _ h) (e _ _ h')
  | _, _, .obj h n t => .obj (e _ _ h) n (DVf.mono e t)
  | _, _, .dtt h => .dtt (e _ _ h)
theorem DVs.mono (e : Same H H') : ∀ {vs : List V} {ds : List PyData}, DVs K H vs ds → DVs K H' vs ds
  | _, _, .nil => .nil
  | _, _, .cons h t => .cons (DV.mono e h) (DVs.mono e t)
theorem DVk.mono (e : Same H H') : ∀ {vs : List (Key × V)} {ds : List (PyData × PyData)}, DVk K H vs ds → DVk K H' vs ds
  | _, _, .nil => .nil
  | _, _, .cons h t => .cons (DV.mono e h) (DVk.mono e t)
theorem DVf.mono (e : Same H H') : ∀ {vs : List (Str × V)} {ds : List (PyData × PyData)}, DVf K H vs ds → DVf K H' vs ds
  | _, _, .nil => .nil
  | _, _, .cons l h t => .cons l (DV.mono e h) (DVf.mono e t)
end
theorem DVs.length : ∀ {vs : List V} {ds : List PyData}, DVs K H vs ds → vs.length = ds.length
  | _, _, .nil => rfl
  | _, _, .cons _ t => by rw [List.length_cons, List.length_cons, DVs.length t]
theorem DVs.get : ∀ {vs : List V} {ds : List PyData} {i : Nat} {d : PyData}, DVs K H vs ds → ds[i]? = some d → ∃ v, vs[i]? = some v ∧ DV K H v d
  | _, _, _, _, .nil, e => by simp at e
  | _, _, 0, _, .cons h _, e => by simp at e; subst e; exact ⟨_, rfl, h⟩
  | _, _, i + 1, d, .cons _ t, e => by
    obtain ⟨v, h1, h2⟩ := DVs.get (i := i) (d := d) t (by simpa using e)
    exact ⟨v, by simpa using h1, h2⟩
theorem DVs.get' : ∀ {vs : List V} {ds : List PyData} {i : Nat} {v : V}, DVs K H vs ds → vs[i]? = some v → ∃ d, ds[i]? = some d ∧ DV K H v d
  | _, _, _, _, .nil, e => by simp at e
  | _, _, 0, _, .cons h _, e => by simp at e; subst e; exact ⟨_, rfl, h⟩
  | _, _, i + 1, d, .cons _ t, e => by
    obtain ⟨v, h1, h2⟩ := DVs.get' (i := i) (v := d) t (by simpa using e)
    exact ⟨v, by simpa using h1, h2⟩
theorem DVs.append : ∀ {vs ws : List V} {ds es : List PyData}, DVs K H vs ds → DVs K H ws es → DVs K H (vs ++ ws) (ds ++ es)
  | _, _, _, _, .nil, s => s
  | _, _, _, _, .cons h t, s => .cons h (DVs.append t s)
theorem DVs.take : ∀ {vs : List V} {ds : List PyData} (n : Nat), DVs K H vs ds → DVs K H (vs.take n) (ds.take n)
  | _, _, 0, _ => .nil
  | _, _, _ + 1, .nil => .nil
  | _, _, n + 1, .cons h t => .cons h (DVs.take n t)
theorem DVs.drop : ∀ {vs : List V} {ds : List PyData} (n : Nat), DVs K H vs ds → DVs K H (vs.drop n) (ds.drop n)
  | _, _, 0, r => r
  | _, _, _ + 1, .nil => .nil
  | _, _, n + 1, .cons _ t => DVs.drop n t
theorem DVs.ints : ∀ (ns : List Int), DVs K H (ns.map V.int) (ns.map PyData.int)
  | [] => .nil
  | n :: r => .cons (.int n) (DVs.ints r)
theorem DVs.of_ints : ∀ {vs : List V} {ns : List Int}, DVs K H vs (ns.map PyData.int) → vs = ns.map V.int
  | _, [], .nil => rfl
  | _, n :: r, .cons h t => by cases h; rw [DVs.of_ints t]; rfl
theorem DVs.of_bools : ∀ {vs : List V} {ns : List Bool}, DVs K H vs (ns.map PyData.bool) → vs = ns.map V.bl
  | _, [], .nil => rfl
  | _, n :: r, .cons h t => by cases h; rw [DVs.of_bools t]; rfl
theorem DV.of_int {v : V} {i : Int} (h : DV K H v (.int i)) : v = .int i := by cases h; rfl
theorem DV.of_bl {v : V} {i : Bool} (h : DV K H v (.bool i)) : v = .bl i := by cases h; rfl
theorem DV.of_str {v : V} {i : Str} (h : DV K H v (.str i)) : v = .str i := by cases h; rfl
theorem DV.of_tup {v : V} {ds : List PyData} (h : DV K H v (.tuple ds)) : ∃ a xs, v = .ref a ∧ SqT K H a xs ∧ DVs K H xs ds := by cases h with | tup h t => exact ⟨_, _, rfl, h, t⟩
theorem DV.of_dct {v : V} {es : List (PyData × PyData)} (h : DV K H v (.dict es)) (hx : excC es = none) : ∃ a kvs, v = .ref a ∧ H a = some (.dK kvs) ∧ DVk K H kvs es := by
  cases h with
  | dct h t => exact ⟨_, _, rfl, h, t⟩
  | exc h => cases hx
  | exr h h' => cases hx
  | obj h n t => rw [excC_obj] at hx; cases hx
  | dtt h => unfold ppE excC at hx; cases hx
theorem excC_dvk {kvs : List (Key × V)} {es : List (PyData × PyData)} (h : DVk K H kvs es) : excC es = none := by
  cases h with
  | nil => rfl
  | cons h t =>
    rename_i k x d xs ds
    cases t with
    | nil => cases k <;> cases d <;> rfl
    | cons h2 t2 => rename_i k2 x2 d2 xs2 ds2; cases k <;> cases d <;> cases k2 <;> cases d2 <;> cases ds2 <;> rfl
theorem DV.of_objN {v : V} {C : Addr} {es : List (PyData × PyData)} (h : DV K H v (objD C es)) : ∃ a dx fs, v = .ref a ∧ H a = some (.ins C dx fs) ∧ DVf K H fs es ∧ ∀ m : Str, m ∉ fldsAll → fs.lookup m = none := by
  unfold objD at h
  generalize ei : ((C : Nat) : Int) = i at h
  generalize ee : PyData.dict ((.none, .tuple [.int i]) :: es) = e at h
  cases h with
  | dct h t =>
    injection ee with ee
    subst ee
    have z := excC_dvk t
    rw [excC_obj] at z
    cases z
  | obj h n t =>
    injection ee with ee
    injection ee with ee e2
    injection ee with _ ee
    injection ee with ee
    injection ee with ee _
    injection ee with ee
    have : C = _ := Int.ofNat.inj (ei.trans ee)
    subst this e2
    exact ⟨_, _, _, rfl, h, t, n⟩
  | _ => cases ee
theorem DVf.get : ∀ {fs : List (Str × V)} {es : List (PyData × PyData)} {f : Str} {d : PyData}, DVf K H fs es → (.str f, d) ∈ es → ∃ v, fs.lookup f = some v ∧ DV K H v d
  | _, _, _, _, .nil, h => by cases h
  | _, _, f, d, .cons l q t, h => by
    rcases List.mem_cons.mp h with e | e
    · injection e with e1 e2
      injection e1 with e1
      subst e1 e2
      exact ⟨_, l, q⟩
    · exact DVf.get t e
theorem DV.of_lst {v : V} {ds : List PyData} (h : DV K H v (.list ds)) : ∃ a xs, v = .ref a ∧ SqL K H a xs ∧ DVs K H xs ds := by cases h with | lst h t => exact ⟨_, _, rfl, h, t⟩
end
mutual
theorem DV.reads {X : Cx} {pins : List (Addr × Obj)} {σ : St} {H : Hp} {s : Shared} (I : Inv X pins σ H s) : ∀ {v : V} {d : PyData} {u : Value}, DV X.K H v d → RelV v u → d.canLay0 = true → ∃ as, Reads s.heap u d as
  | _, _, _, .non, r, _ => ⟨[], by rw [show _ = Value.none from r]; exact .none⟩
  | _, _, _, .bl b, r, _ => ⟨[], by rw [show _ = Value.bool b from r]; exact .bool b⟩
  | _, _, _, .int i, r, _ => let ⟨t, e⟩ := r; ⟨[], by rw [e]; exact .int i t⟩
  | _, _, _, .str x, r, _ => let ⟨t, e⟩ := r; ⟨[], by rw [e]; exact .str x t⟩
  | _, _, _, .tup h t, r, c => by
    rw [show _ = Value.ref _ from r]
    obtain ⟨its, rv, ⟨o, e1, e2, n, e3⟩, _⟩ := I.tuple h
    obtain ⟨as, q⟩ := DVs.reads I t rv (by unfold PyData.canLay0 at c; exact c)
    exact ⟨_, .tuple e1 e2 e3 (by simpa using q)⟩
  | _, _, _, .lst h t, r, c => by
    rw [show _ = Value.ref _ from r]
    obtain ⟨its, rv, pl, _⟩ := I.list h
    obtain ⟨o, e1, e2, n, e3⟩ := pl.isList
    obtain ⟨as, q⟩ := DVs.reads I t rv (by unfold PyData.canLay0 at c; exact c)
    exact ⟨_, .list e1 e2 e3 (by simpa using q)⟩
  | _, _, _, .dct h t, r, c => by simp [PyData.canLay0] at c
  | _, _, _, .exc h, r, c => by simp [PyData.canLay0] at c
  | _, _, _, .exr h h', r, c => by simp [PyData.canLay0] at c
  | _, _, _, .obj h n t, r, c => by simp [PyData.canLay0] at c
  | _, _, _, .dtt h, r, c => by simp [PyData.canLay0] at c
theorem DVs.reads {X : Cx} {pins : List (Addr × Obj)} {σ : St} {H : Hp} {s : Shared} (I : Inv X pins σ H s) : ∀ {vs : List V} {ds : List PyData} {us : List Value}, DVs X.K H vs ds → Vals vs us → PyData.canLayAll0 ds = true → ∃ as, ReadsAll s.heap us ds as
  | _, _, _, .nil, .nil, _ => ⟨_, .nil⟩
  | _, _, _, .cons h t, .cons r rs, c => by
    unfold PyData.canLayAll0 at c
    rw [Bool.and_eq_true] at c
    obtain ⟨a1, q1⟩ := DV.reads I h r c.1
    obtain ⟨a2, q2⟩ := DVs.reads I t rs c.2
    exact ⟨_, .cons q1 q2⟩
end
abbrev Gam := List (Option PyData)
def SD (K : PySem.W.Frag) (H : Hp) (σ : St) (G : Gam) : Prop := σ.length = G.length ∧ ∀ (i : Nat) d, G[i]? = some (some d) → ∃ v, σ[i]? = some (some v) ∧ DV K H v d
theorem SD.mono {K : PySem.W.Frag} {H H' : Hp} {σ : St} {G : Gam} (h : SD K H σ G) (e : Same H H') : SD K H' σ G := ⟨h.1, fun i d z => let ⟨v, a, b⟩ := h.2 i d z; ⟨v, a, b.mono e⟩⟩
theorem SD.set {K : PySem.W.Frag} {H : Hp} {σ : St} {G : Gam} {i : Nat} {v : V} {d : PyData} (h : SD K H σ G) (q : DV K H v d) : SD K H (σ.set i (some v)) (G.set i (some d)) := by
  refine ⟨by rw [List.length_set, List.length_set, h.1], fun j e z => ?_⟩
  by_cases hj : i = j
  · subst hj
    by_cases hl : i < G.length
    · rw [List.getElem?_set_self hl] at z
      cases z
      exact ⟨v, List.getElem?_set_self (by rw [h.1]; exact hl), q⟩
    · rw [List.getElem?_eq_none (by rw [List.length_set]; omega)] at z
      cases z
  · rw [List.getElem?_set_ne hj] at z
    obtain ⟨w, a, b⟩ := h.2 j e z
    exact ⟨w, by rw [List.getElem?_set_ne hj]; exact a, b⟩
def tD (K : PySem.W.Frag) (G : Gam) (d : PyData) : TE := fun σ H Q => SD K H σ G ∧ ∀ v H', Same H H' → DV K H' v d → Q v H'
def tDT (K : PySem.W.Frag) (G : Gam) (b : Bool) : TT := fun σ H Q => SD K H σ G ∧ ∀ H', Same H H' → Q b H'
def tDA (K : PySem.W.Frag) (G : Gam) (ds : List PyData) : TA := fun σ H Q => SD K H σ G ∧ ∀ vs H', Same H H' → DVs K H' vs ds → Q vs H'
inductive Out where
  | next (G : Gam) | ret (d : PyData)
def tDS (K : PySem.W.Frag) (G : Gam) (o : Out) : TS := fun D σ H => SD K H σ G ∧ match o with
  | .next G' => ∀ σ' H', Same H H' → SD K H' σ' G' → D.nx σ' H'
  | .ret d => ∀ v H', Same H H' → DV K H' v d → D.rt v H'
abbrev EV (X : Cx) (G : Gam) (e : Expr) (d : PyData) : Prop := PE X e (tD X.K G d)
abbrev TV (X : Cx) (G : Gam) (e : Expr) (b : Bool) : Prop := PT X e (tDT X.K G b)
abbrev WV (X : Cx) (G : Gam) (e : Expr) (b : Bool) : Prop := PW X e (tDT X.K G b)
abbrev AV (X : Cx) (G : Gam) (es : List Expr) (ds : List PyData) : Prop := PA X es (tDA X.K G ds)
abbrev SV (X : Cx) (G : Gam) (st : Stmt) (o : Out) : Prop := PS X st (tDS X.K G o)
abbrev SVs (X : Cx) (G : Gam) (st : List Stmt) (o : Out) : Prop := PSs X st (tDS X.K G o)
section
variable {X : Cx} {G : Gam} {a b c e : Expr} {es : List Expr} {pos : Pos} {d da db dc : PyData}
theorem PE.imp {t t' : TE} (h : PE X e t) (m : ∀ σ H Q, t' σ H Q → t σ H Q) : PE X e t' := fun pins s σ H Q I q => h pins s σ H Q I (m σ H Q q)
theorem PT.imp {t t' : TT} (h : PT X e t) (m : ∀ σ H Q, t' σ H Q → t σ H Q) : PT X e t' := fun pins s σ H Q I q => h pins s σ H Q I (m σ H Q q)
theorem PW.imp {t t' : TT} (h : PW X e t) (m : ∀ σ H Q, t' σ H Q → t σ H Q) : PW X e t' := fun w pins s σ H Q I q => h w pins s σ H Q I (m σ H Q q)
theorem PA.imp {t t' : TA} (h : PA X es t) (m : ∀ σ H Q, t' σ H Q → t σ H Q) : PA X es t' := fun p pins s σ H Q I q => h p pins s σ H Q I (m σ H Q q)
theorem PS.imp {st : Stmt} {t t' : TS} (h : PS X st t) (m : ∀ D σ H, t' D σ H → t D σ H) : PS X st t' := fun pins s σ H D I q => h pins s σ H D I (m D σ H q)
theorem PSs.imp {st : List Stmt} {t t' : TS} (h : PSs X st t) (m : ∀ D σ H, t' D σ H → t D σ H) : PSs X st t' := fun pins s σ H D I q => h pins s σ H D I (m D σ H q)
theorem OpR.imp {f : Value → Value → Sem Value} {r r' : R2} (h : OpR X f r) (m : ∀ x y H Q, r' x y H Q → r x y H Q) : OpR X f r' := fun pins s σ H x y v u Q I rx ry q => h pins s σ H x y v u Q I rx ry (m x y H Q q)
theorem CallR.imp {f : Value} {r r' : List V → Hp → VK → Prop} (h : CallR X f r) (m : ∀ xs H Q, r' xs H Q → r xs H Q) : CallR X f r' := fun pins s σ H xs us Q I rs q => h pins s σ H xs us Q I rs (m xs H Q q)
theorem ev_var (i : Nat) {x : Str} (hG : G[i]? = some (some d)) (hp : PE X (.Name x pos) (tVar i)) : EV X G (.Name x pos) d := hp.imp fun σ H Q ⟨h, k⟩ => by
  obtain ⟨v, a, b⟩ := h.2 i d hG
  exact ⟨v, a, k v H (Same.refl H) b⟩
theorem ev_int {i j} : EV X G (.Constant (.int i) j pos) (.int i) := pe_int.imp fun σ H Q ⟨h, k⟩ => k _ H (Same.refl H) (.int i)
theorem ev_bl {i j} : EV X G (.Constant (.bool i) j pos) (.bool i) := pe_bl.imp fun σ H Q ⟨h, k⟩ => k _ H (Same.refl H) (.bl i)
theorem ev_str {i j} : EV X G (.Constant (.str i) j pos) (.str i) := pe_str.imp fun σ H Q ⟨h, k⟩ => k _ H (Same.refl H) (.str i)
def rD (K : PySem.W.Frag) (da db d : PyData) : R2 := fun x y H Q => DV K H x da ∧ DV K H y db ∧ ∀ v H', Same H H' → DV K H' v d → Q v H'
abbrev OD (X : Cx) (f : Value → Value → Sem Value) (da db d : PyData) : Prop := OpR X f (rD X.K da db d)
theorem tOp_D {r : R2} {σ : St} {H : Hp} {Q : VK} {K : PySem.W.Frag} (h : SD K H σ G) (k : ∀ x y H', Same H H' → DV K H' x da → DV K H' y db → r x y H' Q) : tOp r (tD K G da) (tD K G db) σ H Q :=
  ⟨h, fun x H1 s1 d1 => ⟨h.mono s1, fun y H2 s2 d2 => k x y H2 (s1.trans s2) (d1.mono s2) d2⟩⟩
theorem ev_bin {op : Operator} (ha : EV X G a da) (hb : EV X G b db) (ho : OD X (binaryOp op) da db d) : EV X G (.BinOp a op b pos) d :=
  (pe_op ho ha hb).imp fun σ H Q ⟨h, k⟩ => tOp_D h fun x y H' s' d1 d2 => ⟨d1, d2, fun v H2 s2 dv => k v H2 (s'.trans s2) dv⟩
theorem ev_cmp {op : CmpOp} (ha : EV X G a da) (hb : EV X G b db) (ho : OD X (compareOp op) da db d) (hm : behindInMarks op b = false) : EV X G (.Compare a [op] [b] pos) d :=
  (pe_cmpR ho ha hb hm).imp fun σ H Q ⟨h, k⟩ => tOp_D h fun x y H' s' d1 d2 => ⟨d1, d2, fun v H2 s2 dv => k v H2 (s'.trans s2) dv⟩
theorem tv_cmp {op : CmpOp} {k : Bool} (ha : EV X G a da) (hb : EV X G b db) (ho : OD X (compareOp op) da db (.bool k)) (hm : behindInMarks op b = false) : TV X G (.Compare a [op] [b] pos) k :=
  (pt_cmpR ho ha hb hm).imp fun σ H Q ⟨h, kk⟩ => tOp_D h fun x y H' s' d1 d2 => ⟨d1, d2, fun v H2 s2 dv => ⟨k, dv.of_bl, kk H2 (s'.trans s2)⟩⟩
theorem od_rI0 {f : Value → Value → Sem Value} {i j : Int} {g : Int → Int → V} (h : OpR X f (rI0 g)) (hd : ∀ H, DV X.K H (g i j) d) : OD X f (.int i) (.int j) d :=
  h.imp fun x y H Q ⟨h1, h2, k⟩ => ⟨i, j, h1.of_int, h2.of_int, k _ H (Same.refl H) (hd H)⟩
theorem od_rI {f : Value → Value → Sem Value} {i j : Int} {C : Int → Int → Prop} {g : Int → Int → V} (h : OpR X f (rI C g)) (hc : C i j) (hd : ∀ H, DV X.K H (g i j) d) : OD X f (.int i) (.int j) d :=
  h.imp fun x y H Q ⟨h1, h2, k⟩ => ⟨i, j, h1.of_int, h2.of_int, hc, k _ H (Same.refl H) (hd H)⟩
theorem od_eq {k : Bool} (hu : X.A.units + 64 < cLine) (ha : da.canLay0 = true) (hb : db.canLay0 = true) (hd : min da.depth db.depth ≤ 60) (hk : PyData.eqv da db = k) : OD X (compareOp .Eq) da db (.bool k) := by
  intro pins s σ H x y v u Q I rx ry ⟨h1, h2, q⟩
  obtain ⟨as, r1⟩ := h1.reads I rx ha
  obtain ⟨bs, r2⟩ := h2.reads I ry hb
  refine PySem.SeqAt.compareEq_reads r1 r2 ha hb (by omega) ⟨.bl _, H, I, rfl, q _ H (Same.refl H) ?_⟩
  rw [hk]
  exact .bl k
theorem od_ne {k : Bool} (hu : X.A.units + 64 < cLine) (ha : da.canLay0 = true) (hb : db.canLay0 = true) (hd : min da.depth db.depth ≤ 60) (hk : (!PyData.eqv da db) = k) : OD X (compareOp .NotEq) da db (.bool k) := by
  intro pins s σ H x y v u Q I rx ry ⟨h1, h2, q⟩
  obtain ⟨as, r1⟩ := h1.reads I rx ha
  obtain ⟨bs, r2⟩ := h2.reads I ry hb
  refine PySem.SeqAt.compareNe_reads r1 r2 ha hb (by omega) ⟨.bl _, H, I, rfl, q _ H (Same.refl H) ?_⟩
  rw [hk]
  exact .bl k
end
end L2
set_option maxRecDepth 100000
set_option maxHeartbeats 4000000
namespace L2
open PySem PySem.Spec PyProof.Rows
section
variable {X : Cx} {G : Gam} {a b c e : Expr} {es rest : List Expr} {pos : Pos} {d da db dc : PyData}
theorem Same.new {H : Hp} {p : Addr} {o : HO} (h : H p = none) : Same H (upd H p o) := fun b u e => by rw [upd_ne (ne_of_none e h)]; exact e
theorem tv_val {k : Bool} (h : EV X G e (.bool k)) (he : ∀ whole, isTrue e X.env whole = (do let v ← whole; standAt e.pos; holding [v] (truthy v)) := by intro _; rfl) : TV X G e k :=
  (pt_val h he).imp fun σ H Q ⟨h, q⟩ => ⟨h, fun v H' s' dv => ⟨k, dv.of_bl, q H' s'⟩⟩
theorem wv_and1 {k : Bool} (h : TV X G a k) : WV X G (.BoolOp .And [a] pos) k := pw_and1 h
theorem wv_or1 {k : Bool} (h : TV X G a k) : WV X G (.BoolOp .Or [a] pos) k := pw_or1 h
theorem wv_and {k k' : Bool} (h : TV X G a k) (h2 : k = true → WV X G (.BoolOp .And (b :: rest) pos) k') : WV X G (.BoolOp .And (a :: b :: rest) pos) (k && k') := by
  cases k with
  | true => exact (pw_and h (h2 rfl)).imp fun σ H Q ⟨h, q⟩ => ⟨h, fun H' s' => (by simp only [if_true]; exact ⟨h.mono s', fun H2 s2 => q H2 (s'.trans s2)⟩)⟩
  | false =>
    intro wh pins s σ H Q I ⟨h1, q⟩
    refine isTrue_and (thn (h pins s σ H (fun c H1 => c = false ∧ Q false H1) I ⟨h1, fun H' s' => ⟨rfl, q H' s'⟩⟩) fun c s1 ⟨H1, I1, e1, q1⟩ => ?_)
    subst e1
    exact ⟨H1, I1, q1⟩
theorem wv_or {k k' : Bool} (h : TV X G a k) (h2 : k = false → WV X G (.BoolOp .Or (b :: rest) pos) k') : WV X G (.BoolOp .Or (a :: b :: rest) pos) (k || k') := by
  cases k with
  | false => exact (pw_or h (h2 rfl)).imp fun σ H Q ⟨h, q⟩ => ⟨h, fun H' s' => (by simp only [Bool.false_eq_true, if_false]; exact ⟨h.mono s', fun H2 s2 => q H2 (s'.trans s2)⟩)⟩
  | true =>
    intro wh pins s σ H Q I ⟨h1, q⟩
    refine isTrue_or (thn (h pins s σ H (fun c H1 => c = true ∧ Q true H1) I ⟨h1, fun H' s' => ⟨rfl, q H' s'⟩⟩) fun c s1 ⟨H1, I1, e1, q1⟩ => ?_)
    subst e1
    exact ⟨H1, I1, q1⟩
theorem tv_w {k : Bool} (h : WV X G e k) : TV X G e k := h.pt
theorem tv_not {k : Bool} (h : TV X G a k) : TV X G (.UnaryOp .Not a pos) (!k) := (pt_not h).imp fun σ H Q ⟨h, q⟩ => ⟨h, fun H' s' => q H' s'⟩
theorem ev_not {k : Bool} (h : EV X G a (.bool k)) : EV X G (.UnaryOp .Not a pos) (.bool (!k)) := (pe_not h).imp fun σ H Q ⟨h, q⟩ => ⟨h, fun v H' s' dv => ⟨k, dv.of_bl, q _ H' s' (.bl _)⟩⟩
theorem ev_one {op} (h : EV X G a d) : EV X G (.BoolOp op [a] pos) d := pe_one h
theorem ev_and {k : Bool} (h : EV X G a (.bool k)) (h2 : k = true → EV X G (.BoolOp .And (b :: rest) pos) d) (h3 : k = false → d = .bool false) : EV X G (.BoolOp .And (a :: b :: rest) pos) d := by
  cases k with
  | true => exact (pe_and h (h2 rfl)).imp fun σ H Q ⟨h, q⟩ => ⟨h, fun v H' s' dv => ⟨true, dv.of_bl, by simp only [if_true]; exact ⟨h.mono s', fun v2 H2 s2 d2 => q v2 H2 (s'.trans s2) d2⟩⟩⟩
  | false =>
    intro pins s σ H Q I ⟨h1, q⟩
    refine BoolOp_and (thn (h pins s σ H (fun v H1 => v = .bl false ∧ Q (.bl false) H1) I ⟨h1, fun v H' s' dv => ⟨dv.of_bl, q _ H' s' (by rw [h3 rfl]; exact .bl _)⟩⟩) fun v s1 ⟨x, H1, I1, r1, e1, q1⟩ => ?_)
    subst e1
    cases r1
    exact wpAny_truthy_bool ⟨.bl false, H1, I1, rfl, q1⟩
theorem od_add {i j : Int} : OD X (binaryOp .Add) (.int i) (.int j) (.int (i + j)) := od_rI0 op_add fun H => .int _
theorem od_sub {i j : Int} : OD X (binaryOp .Sub) (.int i) (.int j) (.int (i - j)) := od_rI0 op_sub fun H => .int _
theorem od_mul {i j : Int} (h : CMul i j) : OD X (binaryOp .Mult) (.int i) (.int j) (.int (i * j)) := od_rI op_mul h fun H => .int _
theorem od_fdiv {i j : Int} (h : CDiv i j) : OD X (binaryOp .FloorDiv) (.int i) (.int j) (.int (i / j)) := od_rI op_fdiv h fun H => .int _
theorem od_mod {i j : Int} (h : 0 < j) : OD X (binaryOp .Mod) (.int i) (.int j) (.int (i % j)) := od_rI op_mod h fun H => .int _
theorem od_pow {i j : Int} (h : CPow i j) : OD X (binaryOp .Pow) (.int i) (.int j) (.int (i ^ j.toNat)) := od_rI op_pow h fun H => .int _
theorem od_xor {i j : Int} : OD X (binaryOp .BitXor) (.int i) (.int j) (.int (Builtin.bitXor i j)) := od_rI0 op_xor fun H => .int _
theorem od_lt {i j : Int} : OD X (compareOp .Lt) (.int i) (.int j) (.bool (decide (i < j))) := od_rI0 op_lt fun H => .bl _
theorem od_le {i j : Int} : OD X (compareOp .LtE) (.int i) (.int j) (.bool (decide (i ≤ j))) := od_rI0 op_le fun H => .bl _
theorem od_gt {i j : Int} : OD X (compareOp .Gt) (.int i) (.int j) (.bool (decide (j < i))) := od_rI0 op_gt fun H => .bl _
theorem od_ge {i j : Int} : OD X (compareOp .GtE) (.int i) (.int j) (.bool (decide (j ≤ i))) := od_rI0 op_ge fun H => .bl _
theorem od_catL {xs ys : List PyData} (hz : xs.length + ys.length ≤ sizeLine) : OD X (binaryOp .Add) (.list xs) (.list ys) (.list (xs ++ ys)) := by
  intro pins s σ H x y v u Q I rx ry ⟨h1, h2, q⟩
  obtain ⟨l, us, rfl, hl, d1⟩ := h1.of_lst
  obtain ⟨m, ws, rfl, hm, d2⟩ := h2.of_lst
  cases rx
  cases ry
  obtain ⟨its, r, pl, _⟩ := I.list hl
  obtain ⟨its2, r2, pl2, _⟩ := I.list hm
  obtain ⟨⟨cls, dd, data, sl⟩, ho, hc, n, hd⟩ := pl.isList
  obtain ⟨⟨cls2, dd2, data2, sl2⟩, ho2, hc2, n2, hd2⟩ := pl2.isList
  simp only at hc hd hc2 hd2
  subst hc hd hc2 hd2
  have hn : its.toArray.size + its2.toArray.size ≤ sizeLine := by rw [List.size_toArray, List.size_toArray, ← r.length, ← r2.length, d1.length, d2.length]; exact hz
  refine concat_meets ⟨_, ho, rfl⟩ ⟨_, ho2, rfl⟩ noFill_list_add seq_list_add PySem.F.slot_list_add PySem.F.entry_list_add (PySem.F.args_list_add_2 _ _) (list_addW l m its.toArray its2.toArray n n2 dd dd2 sl sl2 hn) ⟨ho, ho2, ?_⟩
  have ea : its.toArray ++ its2.toArray = (its ++ its2).toArray := by simp
  rw [ea]
  have hf := I.hok.fresh (Nat.le_refl _)
  refine ⟨.ref s.heap.objs.size, _, I.laid (t' := s.toks) (o := .lst (us ++ ws)) (fun b o e => Heap.get?_push_of_some _ e) (Nat.le_refl _) ⟨by rw [List.length_append, d1.length, d2.length]; exact hz, its ++ its2, 0, r.append r2, Heap.get?_push_size _ rfl⟩, rfl, q _ _ (Same.new hf) ?_⟩
  exact .lst (SqL.of upd_same) ((d1.append d2).mono (Same.new hf))
theorem od_catT {xs ys : List PyData} (hx : xs ≠ []) (hz : xs.length + ys.length ≤ sizeLine) : OD X (binaryOp .Add) (.tuple xs) (.tuple ys) (.tuple (xs ++ ys)) :=
  op_catT.imp fun x y H Q ⟨h1, h2, q⟩ => by
    obtain ⟨l, us, rfl, hl, d1⟩ := h1.of_tup
    obtain ⟨m, ws, rfl, hm, d2⟩ := h2.of_tup
    refine ⟨l, m, us, ws, rfl, rfl, hl, hm, fun z => hx ?_, by rw [d1.length, d2.length]; exact hz, fun z => ?_, fun z p hp => ?_⟩
    · subst z
      cases d1
      rfl
    · subst z
      cases d2
      rw [List.append_nil] at q
      exact q _ H (Same.refl H) (.tup hl d1)
    · exact q _ _ (Same.new hp) (.tup (SqT.of upd_same) ((d1.append d2).mono (Same.new hp)))
def flatD : PyData → Bool
  | .none => true
  | .bool _ => true
  | .int _ => true
  | .str _ => true
  | _ => false
theorem DV.flat {K : PySem.W.Frag} {H : Hp} {v : V} {d : PyData} (h : DV K H v d) (f : flatD d = true) : flatV v = true := by
  cases h <;> first | rfl | cases f
theorem DVs.flat {K : PySem.W.Frag} {H : Hp} : ∀ {vs : List V} {ds : List PyData}, DVs K H vs ds → ds.all flatD = true → vs.all flatV = true
  | _, _, .nil, _ => rfl
  | _, _, .cons h t, f => by
    rw [List.all_cons, Bool.and_eq_true] at f ⊢
    exact ⟨h.flat f.1, DVs.flat t f.2⟩
theorem DV.eqV_eqv {K : PySem.W.Frag} {H : Hp} {v w : V} {d e : PyData} (h : DV K H v d) (h' : DV K H w e) (f : flatD d = true) (f' : flatD e = true) : eqV v w = PyData.eqv d e := by
  cases h <;> cases h' <;> first | rfl | (simp [flatD] at f; done) | (simp [flatD] at f'; done)
theorem DVs.inV {K : PySem.W.Frag} {H : Hp} {v : V} {d : PyData} (h : DV K H v d) (f : flatD d = true) : ∀ {vs : List V} {ds : List PyData}, DVs K H vs ds → ds.all flatD = true → inV v vs = ds.any fun e => PyData.eqv e d
  | _, _, .nil, _ => rfl
  | _, _, .cons h' t, fs => by
    rw [List.all_cons, Bool.and_eq_true] at fs
    have ih := DVs.inV h f t fs.2
    unfold L2.inV at ih ⊢
    rw [List.any_cons, List.any_cons, ih, h'.eqV_eqv h fs.1 f]
theorem od_in {xs : List PyData} {k : Bool} (hs : db = .list xs ∨ db = .tuple xs) (f : flatD da = true) (fs : xs.all flatD = true) (hk : (xs.any fun e => PyData.eqv e da) = k) : OD X (compareOp .In) da db (.bool k) :=
  op_in_seq.imp fun x y H Q ⟨h1, h2, q⟩ => by
    have z : ∃ p us, y = .ref p ∧ (SqL X.K H p us ∨ SqT X.K H p us) ∧ DVs X.K H us xs := by
      rcases hs with rfl | rfl
      · obtain ⟨l, us, e, hl, d1⟩ := h2.of_lst
        exact ⟨l, us, e, .inl hl, d1⟩
      · obtain ⟨l, us, e, hl, d1⟩ := h2.of_tup
        exact ⟨l, us, e, .inr hl, d1⟩
    obtain ⟨p, us, e, hl, d1⟩ := z
    refine ⟨p, us, e, hl, h1.flat f, d1.flat fs, q _ H (Same.refl H) ?_⟩
    rw [if_neg (by simp), d1.inV h1 f fs, hk]
    exact .bl k
theorem od_notIn {xs : List PyData} {k : Bool} (hs : db = .list xs ∨ db = .tuple xs) (f : flatD da = true) (fs : xs.all flatD = true) (hk : (!xs.any fun e => PyData.eqv e da) = k) : OD X (compareOp .NotIn) da db (.bool k) :=
  op_notIn_seq.imp fun x y H Q ⟨h1, h2, q⟩ => by
    have z : ∃ p us, y = .ref p ∧ (SqL X.K H p us ∨ SqT X.K H p us) ∧ DVs X.K H us xs := by
      rcases hs with rfl | rfl
      · obtain ⟨l, us, e, hl, d1⟩ := h2.of_lst
        exact ⟨l, us, e, .inl hl, d1⟩
      · obtain ⟨l, us, e, hl, d1⟩ := h2.of_tup
        exact ⟨l, us, e, .inr hl, d1⟩
    obtain ⟨p, us, e, hl, d1⟩ := z
    refine ⟨p, us, e, hl, h1.flat f, d1.flat fs, q _ H (Same.refl H) ?_⟩
    rw [if_pos rfl, d1.inV h1 f fs, hk]
    exact .bl k
theorem av_nil : AV X G [] [] := pa_nil.imp fun σ H Q ⟨h, q⟩ => q [] H (Same.refl H) .nil
theorem av_cons {ds : List PyData} (h : EV X G e d) (hr : AV X G es ds) (hs : starEach (e :: es) X.env = (false, eval e X.env) :: starEach es X.env := by rfl) : AV X G (e :: es) (d :: ds) :=
  (pa_cons h hr hs).imp fun σ H Q ⟨h, q⟩ => ⟨h, fun v H1 s1 d1 => ⟨h.mono s1, fun vs H2 s2 d2 => q _ H2 (s1.trans s2) (.cons (d1.mono s2) d2)⟩⟩
theorem ev_tup {x1} {ds : List PyData} (h : AV X G es ds) (hz : ds.length ≤ sizeLine) : EV X G (.Tuple es x1 pos) (.tuple ds) :=
  (pe_tup h).imp fun σ H Q ⟨h, q⟩ => ⟨h, fun vs H1 s1 d1 => ⟨by rw [d1.length]; exact hz, fun p hp => q _ _ (s1.trans (Same.new hp)) (.tup (SqT.of upd_same) (d1.mono (Same.new hp)))⟩⟩
theorem ev_lst {ds : List PyData} (h : AV X G es ds) (hz : ds.length ≤ sizeLine) : EV X G (.List es pos) (.list ds) :=
  (pe_lst h).imp fun σ H Q ⟨h, q⟩ => ⟨h, fun vs H1 s1 d1 => ⟨by rw [d1.length]; exact hz, fun p hp => q _ _ (s1.trans (Same.new hp)) (.lst (SqL.of upd_same) (d1.mono (Same.new hp)))⟩⟩
theorem DVs.atI {K : PySem.W.Frag} {H : Hp} {vs : List V} {ds : List PyData} {i : Int} {d : PyData} (h : DVs K H vs ds) (e : atI ds i = some d) : ∃ v, L2.atI vs i = some v ∧ DV K H v d := by
  unfold L2.atI at e ⊢
  rw [h.length]
  cases q : ixN ds.length i with
  | none => rw [q] at e; cases e
  | some j =>
    rw [q] at e
    exact h.get e
theorem ev_ixL {ds : List PyData} {i : Int} (ha : EV X G a (.list ds)) (hb : EV X G b (.int i)) (he : atI ds i = some d) (hs : PlainIx b := by intro _ _; rfl) : EV X G (.Subscript a b pos) d :=
  (pe_ix ix_list ha hb hs).imp fun σ H Q ⟨h, q⟩ => tOp_D h fun x y H' s' d1 d2 => by
    obtain ⟨l, us, rfl, hl, d3⟩ := d1.of_lst
    obtain ⟨v, e1, e2⟩ := d3.atI he
    exact ⟨l, us, i, v, rfl, d2.of_int, hl, e1, q v H' s' e2⟩
theorem ev_ixT {ds : List PyData} {i : Int} (ha : EV X G a (.tuple ds)) (hb : EV X G b (.int i)) (he : atI ds i = some d) (hs : PlainIx b := by intro _ _; rfl) : EV X G (.Subscript a b pos) d :=
  (pe_ix ix_tup ha hb hs).imp fun σ H Q ⟨h, q⟩ => tOp_D h fun x y H' s' d1 d2 => by
    obtain ⟨l, us, rfl, hl, d3⟩ := d1.of_tup
    obtain ⟨v, e1, e2⟩ := d3.atI he
    exact ⟨l, us, i, v, rfl, d2.of_int, hl, e1, q v H' s' e2⟩
theorem ev_neg {i : Int} (ha : EV X G a (.int i)) : EV X G (.UnaryOp .USub a pos) (.int (-i)) :=
  (pe_un un_neg ha).imp fun σ H Q ⟨h, q⟩ => ⟨h, fun v H' s' dv => ⟨i, dv.of_int, q _ H' s' (.int _)⟩⟩
def tDO (K : PySem.W.Frag) (G : Gam) (o : Option Int) : TO := fun σ H Q => SD K H σ G ∧ ∀ H', Same H H' → Q o H'
abbrev OV (X : Cx) (G : Gam) (e : Option Expr) (o : Option Int) : Prop := PO X e (tDO X.K G o)
theorem ov_none : OV X G none none := fun pins s σ H Q I ⟨h, q⟩ => po_none pins s σ H Q I (q H (Same.refl H))
theorem ov_some {i : Int} (h : EV X G e (.int i)) : OV X G (some e) (some i) := fun pins s σ H Q I ⟨h1, q⟩ => po_some h pins s σ H Q I ⟨h1, fun v H' s' dv => ⟨i, dv.of_int, q H' s'⟩⟩
def cutD (xs : List PyData) (lo hi : Option Int) : List PyData := (xs.drop (HT.sIx xs.length 0 lo)).take (HT.sIx xs.length xs.length hi - HT.sIx xs.length 0 lo)
theorem DVs.cut {K : PySem.W.Frag} {H : Hp} {vs : List V} {ds : List PyData} (h : DVs K H vs ds) (lo hi : Option Int) : DVs K H (cutV vs lo hi) (cutD ds lo hi) := by
  unfold cutV cutD
  rw [h.length]
  exact (h.drop _).take _
end
end L2
set_option maxRecDepth 100000
set_option maxHeartbeats 4000000
namespace L2
open PySem PySem.Spec PyProof.Rows
section
variable {κ : Type} [DecidableEq κ]
def valV (kvs : List (κ × V)) (k : κ) : Option V := (kvs.find? fun kv => decide (kv.1 = k)).map (·.2)
def putK (kvs : List (κ × V)) (k : κ) (v : V) : List (κ × V) :=
  if (kvs.any fun kv => decide (kv.1 = k)) = true then kvs.map (fun kv => if kv.1 = k then (kv.1, v) else kv) else kvs ++ [(k, v)]
def dropK (kvs : List (κ × V)) (k : κ) : List (κ × V) := kvs.filter fun kv => decide (kv.1 ≠ k)
theorem valV_pos {p : κ × V} {r : List (κ × V)} {k : κ} (e : p.1 = k) : valV (p :: r) k = some p.2 := by simp [valV, List.find?_cons, e]
theorem valV_neg {p : κ × V} {r : List (κ × V)} {k : κ} (e : ¬ p.1 = k) : valV (p :: r) k = valV r k := by simp [valV, List.find?_cons, e]
theorem valV_any (k : κ) : ∀ kvs : List (κ × V), (kvs.any fun kv => decide (kv.1 = k)) = (valV kvs k).isSome
  | [] => rfl
  | p :: r => by
    rw [List.any_cons]
    by_cases e : p.1 = k
    · simp only [valV_pos e, decide_eq_true e, Bool.true_or, Option.isSome_some]
    · rw [valV_neg e, decide_eq_false e, Bool.false_or]; exact valV_any k r
theorem length_putK (kvs : List (κ × V)) (k : κ) (v : V) : (putK kvs k v).length ≤ kvs.length + 1 := by
  unfold putK
  split
  · rw [List.length_map]; omega
  · rw [List.length_append, List.length_cons, List.length_nil]; omega
theorem RelO.isSome_eq {o : Option V} {u : Option Value} (r : RelO o u) : o.isSome = u.isSome := by
  cases o with
  | none => cases u with
    | none => rfl
    | some _ => exact (show False from r).elim
  | some _ => cases u with
    | none => exact (show False from r).elim
    | some _ => rfl
theorem RelO.getD {o : Option V} {u : Option Value} {d : V} {d' : Value} (r : RelO o u) (rd : RelV d d') : RelV (o.getD d) (u.getD d') := by
  cases o with
  | none => cases u with
    | none => exact rd
    | some _ => exact (show False from r).elim
  | some _ => cases u with
    | none => exact (show False from r).elim
    | some _ => exact r
theorem KV.val {kvs : List (κ × V)} {vs : List (κ × Value)} (r : KV kvs vs) (k : κ) : RelO (valV kvs k) (valueAt vs k) := by
  unfold KV at r
  induction r with
  | nil => exact True.intro
  | @cons p q ps qs h t ih =>
    obtain ⟨h1, h2⟩ := h
    by_cases e : p.1 = k
    · have e' : q.1 = k := h1.symm.trans e
      have b : valueAt (q :: qs) k = some q.2 := by simp [valueAt, List.find?_cons, e']
      rw [valV_pos e, b]; exact h2
    · have e' : ¬ q.1 = k := fun z => e (h1.trans z)
      have b : valueAt (q :: qs) k = valueAt qs k := by simp [valueAt, List.find?_cons, e']
      rw [valV_neg e, b]; exact ih
theorem KV.any {kvs : List (κ × V)} {vs : List (κ × Value)} (r : KV kvs vs) (k : κ) : (kvs.any fun kv => decide (kv.1 = k)) = vs.any fun kv => decide (kv.1 = k) := by
  unfold KV at r
  induction r with
  | nil => rfl
  | cons h t ih => rw [List.any_cons, List.any_cons, ih, h.1]
theorem KV.repl {kvs : List (κ × V)} {vs : List (κ × Value)} (r : KV kvs vs) (k : κ) {y : V} {u : Value} (ry : RelV y u) :
    KV (kvs.map fun kv => if kv.1 = k then (kv.1, y) else kv) (vs.map fun kv => if kv.1 = k then (kv.1, u) else kv) := by
  unfold KV at r ⊢
  induction r with
  | nil => exact .nil
  | @cons p q ps qs h t ih =>
    rw [List.map_cons, List.map_cons]
    refine .cons ?_ ih
    obtain ⟨h1, h2⟩ := h
    by_cases e : p.1 = k
    · rw [if_pos e, if_pos (h1.symm.trans e)]; exact ⟨h1, ry⟩
    · rw [if_neg e, if_neg (fun z => e (h1.trans z))]; exact ⟨h1, h2⟩
theorem KV.put {kvs : List (κ × V)} {vs : List (κ × Value)} (r : KV kvs vs) (k : κ) {y : V} {u : Value} (ry : RelV y u) : KV (putK kvs k y) (stored vs k u) := by
  unfold putK stored
  rw [r.any k]
  by_cases e : (vs.any fun kv => decide (kv.1 = k)) = true
  · rw [if_pos e, if_pos e]; exact r.repl k ry
  · rw [if_neg e, if_neg e]; exact Paired.snoc r ⟨rfl, ry⟩
theorem KV.drop {kvs : List (κ × V)} {vs : List (κ × Value)} (r : KV kvs vs) (k : κ) : KV (dropK kvs k) (without vs k) := by
  unfold KV at r ⊢
  unfold dropK without
  induction r with
  | nil => exact .nil
  | @cons p q ps qs h t ih =>
    obtain ⟨h1, h2⟩ := h
    rw [List.filter_cons, List.filter_cons]
    by_cases e : p.1 = k
    · have a : ¬ decide (p.1 ≠ k) = true := by simp [e]
      have b : ¬ decide (q.1 ≠ k) = true := by simp [h1.symm.trans e]
      rw [if_neg a, if_neg b]; exact ih
    · have e' : ¬ q.1 = k := fun z => e (h1.trans z)
      have a : decide (p.1 ≠ k) = true := by simp [e]
      have b : decide (q.1 ≠ k) = true := by simp [e']
      rw [if_pos a, if_pos b]; exact .cons ⟨h1, h2⟩ ih
theorem KV.keys {kvs : List (κ × V)} {vs : List (κ × Value)} (r : KV kvs vs) : kvs.map (·.1) = vs.map (·.1) := by
  unfold KV at r
  induction r with
  | nil => rfl
  | cons h t ih => rw [List.map_cons, List.map_cons, ih, h.1]
theorem KV.length {kvs : List (κ × V)} {vs : List (κ × Value)} (r : KV kvs vs) : kvs.length = vs.length := Paired.length r
end
theorem kV_is {P : Program} {w : World} {k : Key} {u : Value} (r : RelV (kV k) u) : (mixKind P w).is k u = true := by
  cases k with
  | inl i => obtain ⟨t, e⟩ := (show ∃ t, u = Value.int i t from r); subst e; exact mixKind_int P w i t
  | inr x => obtain ⟨t, e⟩ := (show ∃ t, u = Value.str x t from r); subst e; exact mixKind_str P w x t
theorem items_are {P : Program} {w : World} : ∀ {ks : List Key} {us : List Value}, Vals (ks.map kV) us → ItemsAre (mixKind P w) ks us
  | [], _, r => by rw [List.map_nil] at r; cases r; exact .nil
  | k :: ks, _, r => by
    rw [List.map_cons] at r
    cases r with
    | cons h t => exact .cons (kV_is h) (items_are t)
abbrev KT (H : Hp) : List (List Key × V) → List (List Key × Addr × Value) → Prop := Paired fun p q => p.1 = q.1 ∧ H q.2.1 = some (.tup (p.1.map kV)) ∧ RelV p.2 q.2.2
theorem KT.val {H : Hp} {kvs : List (List Key × V)} {xs : List (List Key × Addr × Value)} (r : KT H kvs xs) (k : List Key) : RelO (valV kvs k) ((atKey xs k).map (·.2)) := by
  induction r with
  | nil => exact True.intro
  | @cons p q ps qs h t ih =>
    obtain ⟨h1, _, h2⟩ := h
    by_cases e : p.1 = k
    · have e' : q.1 = k := h1.symm.trans e
      have b : atKey (q :: qs) k = some q.2 := by simp [atKey, List.find?_cons, e']
      rw [valV_pos e, b]; exact h2
    · have e' : ¬ q.1 = k := fun z => e (h1.trans z)
      have b : atKey (q :: qs) k = atKey qs k := by simp [atKey, List.find?_cons, e']
      rw [valV_neg e, b]; exact ih
theorem KT.repl {H : Hp} {kvs : List (List Key × V)} {xs : List (List Key × Addr × Value)} (r : KT H kvs xs) (k : List Key) {y : V} {u : Value} (ry : RelV y u) :
    KT H (kvs.map fun kv => if kv.1 = k then (kv.1, y) else kv) (xs.map (putAt k u)) := by
  induction r with
  | nil => exact .nil
  | @cons p q ps qs h t ih =>
    rw [List.map_cons, List.map_cons]
    refine .cons ?_ ih
    obtain ⟨h1, h2, h3⟩ := h
    unfold putAt
    by_cases e : p.1 = k
    · rw [if_pos e, if_pos (h1.symm.trans e)]; exact ⟨h1, h2, ry⟩
    · rw [if_neg e, if_neg (fun z => e (h1.trans z))]; exact ⟨h1, h2, h3⟩
theorem KT.put {H : Hp} {kvs : List (List Key × V)} {xs : List (List Key × Addr × Value)} (r : KT H kvs xs) (k : List Key) {b : Addr} {y : V} {u : Value} (hb : H b = some (.tup (k.map kV))) (ry : RelV y u) :
    KT H (putK kvs k y) (storedH xs k b u) := by
  have e : (kvs.any fun kv => decide (kv.1 = k)) = (atKey xs k).isSome := by
    rw [valV_any, (r.val k).isSome_eq, Option.isSome_map]
  unfold putK storedH
  rw [e]
  by_cases q : (atKey xs k).isSome = true
  · rw [if_pos q, if_pos q]; exact r.repl k ry
  · rw [if_neg q, if_neg q]; exact Paired.snoc r ⟨rfl, hb, ry⟩
theorem KT.keeps {H H' : Hp} {kvs : List (List Key × V)} {xs : List (List Key × Addr × Value)} (r : KT H kvs xs) (ht : ∀ b ys, H b = some (.tup ys) → H' b = some (.tup ys)) : KT H' kvs xs :=
  Paired.mapP r fun _ _ z => ⟨z.1, ht _ _ z.2.1, z.2.2⟩
section
variable {P : Program} {w : World} {H : Hp} {h : Heap} {a : Addr}
theorem rd_of {u : HO} (ok : HOk P w H h) (e : Rd H a u) : ObjOk P w H h a u := e.ok ok
theorem dk_rd {kvs : List (Key × V)} (ok : HOk P w H h) (e : Rd H a (.dK kvs)) : kvs.length ≤ sizeLine ∧ (a == sysModules) = false ∧ ∃ vs, KV kvs vs ∧ h.DictOf (mixKind P w) a vs :=
  show ObjOk P w H h a (.dK kvs) from rd_of ok e
theorem dk_of {kvs : List (Key × V)} (ok : HOk P w H h) (e : H a = some (.dK kvs)) : kvs.length ≤ sizeLine ∧ (a == sysModules) = false ∧ ∃ vs, KV kvs vs ∧ h.DictOf (mixKind P w) a vs := dk_rd ok (.inl e)
theorem key_of {ks : List Key} (ok : HOk P w H h) (e : H a = some (.tup (ks.map kV))) : (tupleKind (mixKind P w)).is h ks a := by
  obtain ⟨_, ⟨its, r, o, h1, h2, n, h3⟩, _⟩ := (show ObjOk P w H h a (.tup (ks.map kV)) from ok a _ e)
  exact ⟨o, its.toArray, n, h1, h2, h3, by simpa using items_are r⟩
theorem dt_rd {kvs : List (List Key × V)} (ok : HOk P w H h) (e : Rd H a (.dT kvs)) : kvs.length ≤ sizeLine ∧ (a == sysModules) = false ∧
    ∃ xs, KT H kvs xs ∧ h.DictOfH (tupleKind (mixKind P w)) a xs := by
  obtain ⟨z, y, xs, r, o, es, ep, h1, h2, h3, h4, h5⟩ := (show ObjOk P w H h a (.dT kvs) from rd_of ok e)
  refine ⟨z, y, xs, r, o, es, ep, h1, h2, h3, h4, fun x hx => ?_, h5⟩
  have all : ∀ {l : List (List Key × V)} {m : List (List Key × Addr × Value)}, KT H l m → ∀ x ∈ m, (tupleKind (mixKind P w)).is h x.1 x.2.1 := by
    intro l m q
    induction q with
    | nil => intro x hx; exact nomatch hx
    | @cons p q ps qs hq t ih =>
      intro x hx
      rcases List.mem_cons.mp hx with e | hx
      · subst e
        exact key_of ok (by rw [← hq.1]; exact hq.2.1)
      · exact ih x hx
  exact all r x hx
theorem dt_of {kvs : List (List Key × V)} (ok : HOk P w H h) (e : H a = some (.dT kvs)) : kvs.length ≤ sizeLine ∧ (a == sysModules) = false ∧
    ∃ xs, KT H kvs xs ∧ h.DictOfH (tupleKind (mixKind P w)) a xs := dt_rd ok (.inl e)
end
def DGet (H : Hp) (a : Addr) (y : V) (r : Option V) : Prop :=
  (∃ kvs k, Rd H a (.dK kvs) ∧ y = kV k ∧ r = valV kvs k) ∨ ∃ kvs k b, Rd H a (.dT kvs) ∧ y = .ref b ∧ H b = some (.tup (k.map kV)) ∧ r = valV kvs k
def DPut (H : Hp) (a : Addr) (y v : V) (H' : Hp) : Prop :=
  (∃ kvs k, H a = some (.dK kvs) ∧ y = kV k ∧ kvs.length < sizeLine ∧ H' = upd H a (.dK (putK kvs k v))) ∨
  ∃ kvs k b, H a = some (.dT kvs) ∧ y = .ref b ∧ H b = some (.tup (k.map kV)) ∧ kvs.length < sizeLine ∧ H' = upd H a (.dT (putK kvs k v))
theorem DGet.k {H : Hp} {a : Addr} {kvs : List (Key × V)} {k : Key} (e : H a = some (.dK kvs)) : DGet H a (kV k) (valV kvs k) := .inl ⟨kvs, k, .inl e, rfl, rfl⟩
theorem DGet.t {H : Hp} {a b : Addr} {kvs : List (List Key × V)} {k : List Key} (e : H a = some (.dT kvs)) (eb : H b = some (.tup (k.map kV))) : DGet H a (.ref b) (valV kvs k) := .inr ⟨kvs, k, b, .inl e, rfl, eb, rfl⟩
theorem DPut.k {H : Hp} {a : Addr} {kvs : List (Key × V)} {k : Key} {v : V} (e : H a = some (.dK kvs)) (hl : kvs.length < sizeLine) : DPut H a (kV k) v (upd H a (.dK (putK kvs k v))) := .inl ⟨kvs, k, e, rfl, hl, rfl⟩
theorem DPut.t {H : Hp} {a b : Addr} {kvs : List (List Key × V)} {k : List Key} {v : V} (e : H a = some (.dT kvs)) (eb : H b = some (.tup (k.map kV))) (hl : kvs.length < sizeLine) :
    DPut H a (.ref b) v (upd H a (.dT (putK kvs k v))) := .inr ⟨kvs, k, b, e, rfl, eb, hl, rfl⟩
section
variable {X : Cx} {pins : List (Addr × Obj)} {σ : St} {H : Hp} {s : Shared} {a : Addr} {y v : V} {u r : Value} {o : Option V} {A : Around} {E : Value → Shared → Prop}
theorem Inv.big (I : Inv X pins σ H s) : sysModules < s.heap.objs.size := by
  have h : mainGlobals < s.heap.objs.size := (I.mod.glob.keeps I.bk).lt
  exact Nat.lt_trans (by decide) h
theorem d_getItem {Q : Value → Shared → Prop} (hu : A.units + 1 < cLine) (I : Inv X pins σ H s) (g : DGet H a y (some v)) (ry : RelV y u) (h : ∀ w' s', Inv X pins σ H s' → RelV v w' → Q w' s') :
    wpAny (model X.prog X.w) A (getItem (.ref a) u) Q E s := by
  rcases g with ⟨kvs, k, e, ey, l⟩ | ⟨kvs, k, b, e, ey, eb, l⟩
  · subst ey
    obtain ⟨z, hd, vs, rel, dd⟩ := dk_rd I.hok e
    obtain ⟨w', hw, rw'⟩ := RelO.some_of (v := v) (o := valueAt vs k) (by rw [l]; exact rel.val k)
    exact wpAny_getItem_of (kV_is ry) dd.mapOf hw (h w' _ (I.tok _) rw')
  · subst ey
    cases (show u = Value.ref b from ry)
    obtain ⟨z, hd, xs, rel, dd⟩ := dt_rd I.hok e
    obtain ⟨w', hw, rw'⟩ := RelO.some_of (v := v) (o := (atKey xs k).map (·.2)) (by rw [l]; exact rel.val k)
    obtain ⟨p, hp, hp2⟩ := Option.map_eq_some_iff.mp hw
    refine wpAny_getItem_heap (tupleKind_room_in1 hu) (key_of I.hok eb) dd hp ?_
    rw [hp2]
    exact h w' _ (I.tok _) rw'
theorem d_write {h' : Heap} {t' : Nat} {ob : HO} (I : Inv X pins σ H s) (mu : Mut (H a)) (hs : Heap.SameBut a s.heap h') (he : ∃ q, h'.get? a = some q) (new : ObjOk X.prog X.w (upd H a ob) h' a ob) :
    Inv X pins σ (upd H a ob) { s with heap := h', toks := t' } :=
  I.write (x := a) (e := a) mu (.inl rfl) (fun b q hb z => (hs.2 b hb).trans z) he new
theorem dk_new {P : Program} {w : World} {H' : Hp} {h' : Heap} {kvs : List (Key × V)} {vs : List (Key × Value)} (z : kvs.length ≤ sizeLine) (hd : (a == sysModules) = false) (rel : KV kvs vs) (dd : h'.DictOf (mixKind P w) a vs) :
    ObjOk P w H' h' a (.dK kvs) := ⟨z, hd, vs, rel, dd⟩
theorem d_setItem {H' : Hp} {Q : Unit → Shared → Prop} (hu : A.units + 1 < cLine) (I : Inv X pins σ H s) (g : DPut H a y v H') (ry : RelV y u) (rv : RelV v r) (h : ∀ s', Inv X pins σ H' s' → Q () s') :
    wpAny (model X.prog X.w) A (setItem (.ref a) u r) Q E s := by
  rcases g with ⟨kvs, k, e, ey, l, eH⟩ | ⟨kvs, k, b, e, ey, eb, l, eH⟩
  · subst ey eH
    obtain ⟨z, hd, vs, rel, dd⟩ := dk_of I.hok e
    have hz : vs.length ≤ sizeLine := by rw [← rel.length]; exact z
    have hl : (putK kvs k v).length ≤ sizeLine := by have := length_putK kvs k v; omega
    refine wpAny_setItem_pairs (hsz := hz) (kV_is ry) dd fun h' dd' hs => h _ ?_
    have he : ∃ q, h'.get? a = some q := let ⟨q, _, _, hq, _⟩ := dd'; ⟨q, hq⟩
    exact d_write I (by rw [e]; exact True.intro) hs he (dk_new hl hd (rel.put k rv) dd')
  · subst ey eH
    cases (show u = Value.ref b from ry)
    obtain ⟨z, hd, xs, rel, dd⟩ := dt_of I.hok e
    have hz : xs.length ≤ sizeLine := by rw [← Paired.length rel]; exact z
    have hl : (putK kvs k v).length ≤ sizeLine := by have := length_putK kvs k v; omega
    refine wpAny_setItem_heap (hsz := hz) (tupleKind_room_in1 hu) (key_of I.hok eb) dd fun h' dd' hs => h _ ?_
    obtain ⟨q, es, ep, hq, h2, h3, h4, _, h5⟩ := dd'
    refine d_write I (by rw [e]; exact True.intro) hs ⟨q, hq⟩ ⟨hl, hd, _, (rel.put k eb rv).keeps fun c ys ec => ?_, q, es, ep, hq, h2, h3, h4, h5⟩
    rw [upd_ne (ne_of ec e (fun z => nomatch z))]
    exact ec
end
section
variable {X : Cx} {pins : List (Addr × Obj)} {σ : St} {H : Hp} {s : Shared} {a : Addr} {kvs : List (Key × V)} {k : Key} {u : Value} {A : Around} {E : Value → Shared → Prop}
end
def NoSl (i : Expr) : Prop := ∀ ov iv, subscripted i false ov iv = operate [ov, iv] (getItem ov iv)
theorem subD_of {prog : Program} {w : World} {A : Around} {E : Value → Shared → Prop} {s : Shared} {env : Env} {value slice : Expr} {pos : Pos} {T id : String} {Q : Value → Shared → Prop}
    (hl : typeLookup (.type T) "__getitem__" = pure (some (.builtin id))) (hs : NoSl slice)
    (h : wpAny (model prog w) A (eval value env) (fun o s₁ => wpAny (model prog w) A (eval slice env) (fun i s₂ => s₂.TypeIs o T ∧ wpAny (model prog w) A (getItem o i) Q E s₂) E s₁) E s) :
    wpAny (model prog w) A (eval (.Subscript value slice pos) env) Q E s := by
  refine Subscript_ (wpAny_mono h (fun o s₁ h₁ => wpAny_mono h₁ (fun i s₂ h₂ => ?_) fun _ _ x => x) fun _ _ x => x)
  obtain ⟨hT, h₂⟩ := h₂
  unfold subscriptTail
  refine wpAny_bind ?_
  rw [getitemInPython_of_ne hT.not_modules]
  refine wpAny_bind (wpAny_specialOf hT hl ?_)
  have fin : wpAny (model prog w) A (subscripted slice false o i) (fun r s₃ => wpAny (model prog w) A (letTemporaryGo value o r >>= fun _ => pure r) Q E s₃) E s₂ := by
    rw [hs o i]
    exact wpAny_operating (wpAny_mono h₂ (fun r s₃ h₃ => wpAny_bind (wpAny_letTemporaryGo (wpAny_pure h₃))) fun _ _ x => x)
  first
    | exact wpAny_pure (wpAny_bind fin)
    | exact wpAny_bind (wpAny_pure (wpAny_bind fin))
    | exact wpAny_bind fin
theorem dict_typeIs {X : Cx} {pins : List (Addr × Obj)} {σ : St} {H : Hp} {s : Shared} {a : Addr} {y : V} {o : Option V} (I : Inv X pins σ H s) (g : DGet H a y o) : s.TypeIs (.ref a) "dict" := by
  rcases g with ⟨kvs, k, e, _, _⟩ | ⟨kvs, k, b, e, _, _, _⟩
  · obtain ⟨_, _, vs, _, dd⟩ := dk_rd I.hok e
    exact dd.typeIs
  · obtain ⟨_, _, xs, _, dd⟩ := dt_rd I.hok e
    exact dd.typeIs
def tDGet (td ty : TE) : TE := fun σ H Q => td σ H fun x H1 => ty σ H1 fun y H2 => ∃ a v, x = .ref a ∧ DGet H2 a y (some v) ∧ Q v H2
def sDPut (td ty tv : TE) : TS := fun D σ H => tv σ H fun v H1 => td σ H1 fun x H2 => ty σ H2 fun y H3 => ∃ a H4, x = .ref a ∧ DPut H3 a y v H4 ∧ D.nx σ H4
section
variable {X : Cx} {o i e value : Expr} {pos pos' tpos : Pos} {td ty tv : TE}
theorem pe_dget (hu : X.A.units + 1 < cLine) (ho : PE X o td) (hi : PE X i ty) (hs : NoSl i) : PE X (.Subscript o i pos) (tDGet td ty) := by
  intro pins s σ H Q I h
  refine subD_of PySem.F.slot_dict_getitem.lookup hs (thn (ho pins s σ H _ I h) fun u s1 ⟨x, H1, I1, rx, q1⟩ => thn (hi pins s1 σ H1 _ I1 q1) fun iv s2 ⟨y, H2, I2, ry, a, v, ex, g, q2⟩ => ?_)
  subst ex
  obtain rfl : u = Value.ref a := rx
  exact ⟨dict_typeIs I2 g, d_getItem hu I2 g ry fun w' s3 I3 rw' => ⟨v, H2, I3, rw', q2⟩⟩
theorem ps_dput (hu : X.A.units + 1 < cLine) (ho : PE X o td) (hi : PE X i ty) (hv : PE X value tv) (hs : swapsWith value (some (.Subscript o i pos')) pos.line X.env = pure false) :
    PS X (.Assign [.Subscript o i pos'] value pos) (sDPut td ty tv) := by
  intro pins s σ H D I h
  refine wpAny_Assign_Subscript (thn (hv pins s σ H _ I h) fun r s1 ⟨v, H1, I1, rv, q1⟩ => thn (ho pins s1 σ H1 _ I1 q1) fun u s2 ⟨x, H2, I2, rx, q2⟩ => thn (hi pins s2 σ H2 _ I2 q2) fun iv s3 ⟨y, H3, I3, ry, a, H4, ex, g, q3⟩ => ?_) hs
  subst ex
  obtain rfl : u = Value.ref a := rx
  exact d_setItem hu I3 g ry rv fun s4 I4 => ⟨σ, H4, I4, q3⟩
end
theorem dt_empty {P : Program} {w : World} {H : Hp} (h : Heap) (hb : sysModules < h.objs.size) : ObjOk P w H (h.push { cls := .type "dict", data := .dict #[] }) h.objs.size (.dT []) :=
  ⟨Nat.zero_le _, beq_eq_false_iff_ne.mpr (Ne.symm (Nat.ne_of_lt hb)), [], .nil, _, #[], 0, Heap.get?_push_size _ rfl, ⟨rfl, rfl, rfl⟩, rfl, rfl, List.nodup_nil⟩
def tDNewT : TE := fun _ H Q => ∀ p, H p = none → Q (.ref p) (upd H p (.dT []))
section
variable {X : Cx} {pos : Pos}
theorem pe_dnewT : PE X (.Dict [] [] pos) tDNewT := fun pins s σ H Q I h =>
  wpAny_Dict_empty ⟨.ref s.heap.objs.size, _, I.laid (a := s.heap.objs.size) (o := .dT []) (t' := s.toks) (fun _ _ q => Heap.get?_push_of_some _ q) (Nat.le_refl _) (dt_empty s.heap I.big), rfl, h _ (I.hok.fresh (Nat.le_refl _))⟩
end
def mergeK (kvs more : List (Key × V)) : List (Key × V) := more.foldl (fun acc kv => putK acc kv.1 kv.2) kvs
theorem KV.merge : ∀ {more : List (Key × V)} {rs : List (Key × Value)} {kvs : List (Key × V)} {vs : List (Key × Value)}, KV more rs → KV kvs vs → KV (mergeK kvs more) (merged vs rs) := by
  intro more rs kvs vs r
  unfold KV at r
  induction r generalizing kvs vs with
  | nil => intro q; exact q
  | @cons p q ps qs h t ih =>
    intro r0
    have e : KV (putK kvs p.1 p.2) (stored vs q.1 q.2) := by
      have := r0.put p.1 h.2
      rw [← h.1]; exact this
    exact ih e
structure M1 (X : Cx) (o : Expr) (m : Str) (apos : Pos) (e : Expr) (cpos : Pos) : Prop where
  base : attributeBase o m X.env (eval o X.env) = eval o X.env
  few : ((backTo cpos (starEach [e] X.env)).all (fun x => !x.1) && (backToKw cpos (keywordEach [] X.env)).all (fun x => x.1.isSome)
    && decide (([e] : List Expr).length + ([] : List Keyword).length + (if ([] : List Keyword).isEmpty then 0 else 1) < 30)) = true
  line : (apos.endLine == cpos.line) = true
  trees : backTo cpos (starEach [e] X.env) = [(false, eval e X.env)]
structure M2 (X : Cx) (o : Expr) (m : Str) (apos : Pos) (e f : Expr) (cpos : Pos) : Prop where
  base : attributeBase o m X.env (eval o X.env) = eval o X.env
  few : ((backTo cpos (starEach [e, f] X.env)).all (fun x => !x.1) && (backToKw cpos (keywordEach [] X.env)).all (fun x => x.1.isSome)
    && decide (([e, f] : List Expr).length + ([] : List Keyword).length + (if ([] : List Keyword).isEmpty then 0 else 1) < 30)) = true
  line : (apos.endLine == cpos.line) = true
  trees : backTo cpos (starEach [e, f] X.env) = [(false, eval e X.env), (false, eval f X.env)]
def IsD (H : Hp) (a : Addr) : Prop := (∃ kvs, Rd H a (.dK kvs)) ∨ ∃ kvs, Rd H a (.dT kvs)
theorem isD_at {X : Cx} {pins : List (Addr × Obj)} {σ : St} {H : Hp} {s : Shared} {a : Addr} (I : Inv X pins σ H s) (d : IsD H a) :
    s.TypeIs (.ref a) "dict" ∧ (∀ b, Value.ref a = .ref b → ∃ ob, s.heap.get? b = some ob ∧ ob.dict = none) ∧ (a == sysModules) = false := by
  rcases d with ⟨kvs, e⟩ | ⟨kvs, e⟩
  · obtain ⟨_, hd, vs, _, dd⟩ := dk_rd I.hok e
    refine ⟨dd.typeIs, fun b q => ?_, hd⟩
    cases q
    obtain ⟨ob, _, _, h1, h2, _⟩ := dd
    exact ⟨ob, h1, h2.2.1⟩
  · obtain ⟨_, hd, xs, _, dd⟩ := dt_rd I.hok e
    refine ⟨dd.typeIs, fun b q => ?_, hd⟩
    cases q
    obtain ⟨ob, _, _, h1, h2, _⟩ := dd
    exact ⟨ob, h1, h2.2.1⟩
section
variable {X : Cx} {pins : List (Addr × Obj)} {σ : St} {H : Hp} {s : Shared} {a : Addr} {y d : V} {u r : Value} {o : Option V} {A : Around} {E : Value → Shared → Prop}
theorem d_get2 {Q : Value → Shared → Prop} (hu : A.units + 1 < cLine) (I : Inv X pins σ H s) (g : DGet H a y o) (ry : RelV y u) (rd : RelV d r) (h : ∀ w' s', Inv X pins σ H s' → RelV (o.getD d) w' → Q w' s') :
    wpAny (model X.prog X.w) A (call (.builtin "dict.get") [.ref a, u, r]) Q E s := by
  rcases g with ⟨kvs, k, e, ey, l⟩ | ⟨kvs, k, b, e, ey, eb, l⟩
  · subst ey
    obtain ⟨z, hd, vs, rel, dd⟩ := dk_rd I.hok e
    refine call_meetsIn PySem.F.slot_dict_get dd.typeIs PySem.F.entry_dict_get (PySem.F.args_dict_get_3 _ _ _) (meets_dict_get_default (mixKind X.prog X.w) a (kV_is ry) hd r) ⟨_, dd.mapOf, h _ _ (I.tok _) ?_⟩
    rw [l]
    exact (rel.val k).getD rd
  · subst ey
    cases (show u = Value.ref b from ry)
    obtain ⟨z, hd, xs, rel, dd⟩ := dt_rd I.hok e
    refine call_meetsIn PySem.F.slot_dict_get dd.typeIs PySem.F.entry_dict_get (PySem.F.args_dict_get_3 _ _ _) (meetsH_dict_get_default (tupleKind (mixKind X.prog X.w)) a b hd r) ⟨tupleKind_room_in1 hu, k, xs, key_of I.hok eb, dd, h _ _ (I.tok _) ?_⟩
    rw [l]
    exact (rel.val k).getD rd
end
def tDGet2 (td ty tx : TE) : TE := fun σ H Q => td σ H fun x H1 => ∃ a, x = .ref a ∧ IsD H1 a ∧ ty σ H1 fun y H2 => tx σ H2 fun z H3 => ∃ o, DGet H3 a y o ∧ Q (o.getD z) H3
section
variable {X : Cx} {o e f : Expr} {apos cpos : Pos} {td ty tx : TE}
theorem pe_dget2 (hu : X.A.units + 1 < cLine) (ho : PE X o td) (he : PE X e ty) (hf : PE X f tx) (m : M2 X o "get" apos e f cpos) : PE X (.Call (.Attribute o "get" apos) [e, f] [] cpos) (tDGet2 td ty tx) := by
  intro pins s σ H Q I h
  refine wpAny_Call_method m.base m.few m.line PySem.F.plainAttrs_dict PySem.F.slot_dict_get PySem.F.type_dict_get (thn (ho pins s σ H _ I h) fun u s1 ⟨x, H1, I1, rx, a, ex, d, q1⟩ => ?_)
  subst ex
  obtain rfl : u = Value.ref a := rx
  obtain ⟨t1, t2, _⟩ := isD_at I1 d
  refine ⟨t1, t2, ?_⟩
  rw [m.trees]
  refine Calls.callWith_builtin rfl (Calls.evalArgs_plain (Calls.spliced_cons (thn (he pins s1 σ H1 _ I1 q1) fun iv s2 ⟨y, H2, I2, ry, q2⟩ =>
    Calls.spliced_cons (thn (hf pins s2 σ H2 _ I2 q2) fun fv s3 ⟨z, H3, I3, rz, ov, g, q3⟩ => Calls.spliced_nil ?_))))
  exact d_get2 hu I3 g ry rz fun w' s4 I4 rw' => ⟨_, H3, I4, rw', q3⟩
end
section
variable {X : Cx} {pins : List (Addr × Obj)} {σ : St} {H : Hp} {s : Shared} {a : Addr} {kvs : List (Key × V)} {A : Around} {E : Value → Shared → Prop}
end
section
variable {X : Cx} {pins : List (Addr × Obj)} {σ : St} {H : Hp} {s : Shared} {a : Addr} {y : V} {u : Value} {A : Around} {E : Value → Shared → Prop}
end
end L2
set_option maxRecDepth 100000
set_option maxHeartbeats 4000000
namespace L2
open PySem PySem.Spec PyProof.Rows
def rDA (K : PySem.W.Frag) (ds : List PyData) (d : PyData) : List V → Hp → VK → Prop := fun xs H Q => DVs K H xs ds ∧ ∀ v H', Same H H' → DV K H' v d → Q v H'
abbrev CD (X : Cx) (f : Value) (ds : List PyData) (d : PyData) : Prop := CallR X f (rDA X.K ds d)
section
variable {X : Cx} {G : Gam} {a b c e : Expr} {es rest : List Expr} {pos p p2 : Pos} {d da db dc : PyData} {ds : List PyData} {x : Str} {id T : String}
theorem ev_callB (hc : CD X (.builtin id) ds d) (hg : Gl X x) (hm : X.mg x = none) (hv : bootBuiltins x = some (.builtin id)) (ha : AV X G (e :: es) ds) (hn : x ≠ "__name__" := by decide) (hdb : (x == ("__debug__" : Str)) = false := by decide)
    (he : starEach (e :: es) X.env = (false, eval e X.env) :: starEach es X.env := by rfl) (hpl : (backTo pos (starEach es X.env)).any (·.1) = false := by rfl) : EV X G (.Call (.Name x p) (e :: es) [] pos) d :=
  (pe_callB hc hg hm hv ha hn hdb he hpl).imp fun σ H Q ⟨h, q⟩ => ⟨h, fun vs H1 s1 d1 => ⟨d1, fun v H2 s2 d2 => q v H2 (s1.trans s2) d2⟩⟩
theorem ev_callTy (hc : CD X (.type T) ds d) (hg : Gl X x) (hm : X.mg x = none) (hv : bootBuiltins x = some (.type T)) (ha : AV X G (e :: es) ds) (hn : x ≠ "__name__" := by decide) (hdb : (x == ("__debug__" : Str)) = false := by decide)
    (he : starEach (e :: es) X.env = (false, eval e X.env) :: starEach es X.env := by rfl) (hpl : (backTo pos (starEach es X.env)).any (·.1) = false := by rfl) : EV X G (.Call (.Name x p) (e :: es) [] pos) d :=
  (pe_callTy hc hg hm hv ha hn hdb he hpl).imp fun σ H Q ⟨h, q⟩ => ⟨h, fun vs H1 s1 d1 => ⟨d1, fun v H2 s2 d2 => q v H2 (s1.trans s2) d2⟩⟩
theorem DVs.one {K : PySem.W.Frag} {H : Hp} {vs : List V} (h : DVs K H vs [d]) : ∃ v, vs = [v] ∧ DV K H v d := by
  cases h with
  | cons h t => cases t; exact ⟨_, rfl, h⟩
theorem DVs.two {K : PySem.W.Frag} {H : Hp} {vs : List V} (h : DVs K H vs [da, db]) : ∃ v w, vs = [v, w] ∧ DV K H v da ∧ DV K H w db := by
  cases h with
  | cons h t =>
    obtain ⟨w, rfl, h2⟩ := t.one
    exact ⟨_, w, rfl, h, h2⟩
theorem cd_lenL : CD X (.builtin "len") [.list ds] (.int ds.length) := call_len_seq.imp fun xs H Q ⟨h, q⟩ => by
  obtain ⟨v, rfl, dv⟩ := h.one
  obtain ⟨l, us, rfl, hl, d1⟩ := dv.of_lst
  exact ⟨l, us, rfl, .inl hl, q _ H (Same.refl H) (by rw [d1.length]; exact .int _)⟩
theorem cd_lenT : CD X (.builtin "len") [.tuple ds] (.int ds.length) := call_len_seq.imp fun xs H Q ⟨h, q⟩ => by
  obtain ⟨v, rfl, dv⟩ := h.one
  obtain ⟨l, us, rfl, hl, d1⟩ := dv.of_tup
  exact ⟨l, us, rfl, .inr hl, q _ H (Same.refl H) (by rw [d1.length]; exact .int _)⟩
theorem cd_lenS {z : Str} (hz : z.length ≤ sizeLine) : CD X (.builtin "len") [.str z] (.int z.length) := call_len_str.imp fun xs H Q ⟨h, q⟩ => by
  obtain ⟨v, rfl, dv⟩ := h.one
  exact ⟨z, by rw [dv.of_str], hz, q _ H (Same.refl H) (.int _)⟩
theorem cd_tupleL : CD X (.type "tuple") [.list ds] (.tuple ds) := call_tuple_of.imp fun xs H Q ⟨h, q⟩ => by
  obtain ⟨v, rfl, dv⟩ := h.one
  obtain ⟨l, us, rfl, hl, d1⟩ := dv.of_lst
  exact ⟨l, us, rfl, .inl ⟨hl, fun p hp => q _ _ (Same.new hp) (.tup (SqT.of upd_same) (d1.mono (Same.new hp)))⟩⟩
theorem cd_listL : CD X (.type "list") [.list ds] (.list ds) := call_list_of.imp fun xs H Q ⟨h, q⟩ => by
  obtain ⟨v, rfl, dv⟩ := h.one
  obtain ⟨l, us, rfl, hl, d1⟩ := dv.of_lst
  exact ⟨l, us, rfl, .inl hl, fun p hp => q _ _ (Same.new hp) (.lst (SqL.of upd_same) (d1.mono (Same.new hp)))⟩
theorem cd_listT : CD X (.type "list") [.tuple ds] (.list ds) := call_list_of.imp fun xs H Q ⟨h, q⟩ => by
  obtain ⟨v, rfl, dv⟩ := h.one
  obtain ⟨l, us, rfl, hl, d1⟩ := dv.of_tup
  exact ⟨l, us, rfl, .inr hl, fun p hp => q _ _ (Same.new hp) (.lst (SqL.of upd_same) (d1.mono (Same.new hp)))⟩
theorem cd_intB {k : Bool} : CD X (.type "int") [.bool k] (.int (if k then 1 else 0)) := call_int1.imp fun xs H Q ⟨h, q⟩ => by
  obtain ⟨v, rfl, dv⟩ := h.one
  exact .inr ⟨k, by rw [dv.of_bl], q _ H (Same.refl H) (.int _)⟩
theorem cd_max {i j : Int} (hc : X.calm = true) : CD X (.builtin "max") [.int i, .int j] (.int (if j > i then j else i)) := (call_max2 hc).imp fun xs H Q ⟨h, q⟩ => by
  obtain ⟨v, w, rfl, dv, dw⟩ := h.two
  exact ⟨i, j, by rw [dv.of_int, dw.of_int], q _ H (Same.refl H) (.int _)⟩
theorem all_range_eq (bs : List Bool) : (List.range bs.length).all (fun i => bs.getD i false) = bs.all (fun z => z) := by
  rw [Bool.eq_iff_iff, List.all_eq_true, List.all_eq_true]
  constructor
  · intro h x hx
    obtain ⟨i, hi, e⟩ := List.mem_iff_getElem.mp hx
    have := h i (List.mem_range.mpr hi)
    simp only [List.getD_eq_getElem?_getD, List.getElem?_eq_getElem hi, Option.getD_some] at this
    rw [← e]
    exact this
  · intro h i hi
    have hi := List.mem_range.mp hi
    simp only [List.getD_eq_getElem?_getD, List.getElem?_eq_getElem hi, Option.getD_some]
    exact h _ (List.getElem_mem hi)
theorem cd_all (hc : X.calm = true) {bs : List Bool} : CD X (.builtin "all") [.list (bs.map PyData.bool)] (.bool (bs.all fun z => z)) := by
  intro pins s σ H xs us Q I rs ⟨h, q⟩
  obtain ⟨v, rfl, dv⟩ := h.one
  obtain ⟨l, vs, rfl, hl, d1⟩ := dv.of_lst
  obtain ⟨u, rfl, ru⟩ := vals1 rs
  cases ru
  have e1 := d1.of_bools
  subst e1
  obtain ⟨its, r, pl, hz⟩ := I.list hl
  have hlt : l < s.heap.objs.size := by
    obtain ⟨o, ho, _⟩ := pl.isList
    exact Heap.lt_size ho
  have hh : X.A.in1.handled = none := I.ok.hd hc
  have hlen : its.toArray.size = bs.length := by rw [List.size_toArray, ← r.length, List.length_map]
  refine call_all_walk (wpAny_pyIter_list pl.isList ⟨s.heap.objs.size, _, _, its.toArray.size, _, _, fun i => bs.getD i false, rfl, Walks.list hh s.heap.objs.size l (Nat.ne_of_lt hlt) its.toArray,
    ⟨⟨_, Heap.get?_push_size _ rfl, rfl, rfl⟩, let ⟨o, e, r⟩ := pl.isList; ⟨o, Heap.get?_push_of_some _ e, r⟩⟩, fun i v s2 Q2 E2 hP hQ => ?_, fun h' tk hk => ?_⟩)
  · have hP : its.toArray[i]? = some v := hP
    have hP : its[i]? = some v := by simpa using hP
    have hi : i < bs.length := by
      have := (List.getElem?_eq_some_iff.mp hP).1
      rw [← r.length, List.length_map] at this
      exact this
    have hb : (bs.map V.bl)[i]? = some (V.bl bs[i]) := by simp [hi]
    obtain ⟨u, e2, r2⟩ := r.get hb
    rw [hP] at e2
    cases e2
    cases r2
    refine wpAny_truthy_bool ?_
    have : bs.getD i false = bs[i] := by simp [List.getD_eq_getElem?_getD, hi]
    exact this ▸ hQ
  · rw [hlen, all_range_eq]
    have I1 : Inv X pins σ H { s with heap := h', toks := tk } := I.kept fun b o e => hk b o (by
      intro z
      have z : b = s.heap.objs.size := by simpa using z
      exact absurd (Heap.lt_size e) (by rw [z]; exact Nat.lt_irrefl _)) (Heap.get?_push_of_some _ e)
    exact ⟨.bl _, H, I1, rfl, q _ H (Same.refl H) (.bl _)⟩
theorem cd_sum (hc : X.calm = true) {ns : List Int} : CD X (.builtin "sum") [.list (ns.map PyData.int)] (.int ns.sum) := by
  intro pins s σ H xs us Q I rs ⟨h, q⟩
  obtain ⟨v, rfl, dv⟩ := h.one
  obtain ⟨l, vs, rfl, hl, d1⟩ := dv.of_lst
  obtain ⟨u, rfl, ru⟩ := vals1 rs
  cases ru
  have e1 := d1.of_ints
  subst e1
  obtain ⟨its, r, pl, hz⟩ := I.list hl
  have hi : IntsAre its ns := intsAre_of r
  obtain ⟨ys, ey⟩ := (hi.allInts : AllInts its.toArray).items
  have hh : X.A.handled = none := I.ok.hd hc
  have hl' : s.heap.IsList l (intItems ys) := ey ▸ pl.isList
  refine sum_intListG hh hl' fun h' tk t' hk => ?_
  have I1 : Inv X pins σ H { s with heap := h', toks := tk } := I.kept hk
  have en : ns = numsOf its := hi.numsOf.symm
  have es : preSum (numAt ys) ys.size = ns.sum := by
    rw [preSum_eq, List.take_of_length_le (by simp), en, ← nums_intItems ys]
    congr 2
    have := congrArg Array.toList ey
    simpa using this.symm
  rw [es]
  exact ⟨.int _, H, I1, ⟨_, rfl⟩, q _ H (Same.refl H) (.int _)⟩
def tyD : PyData → Value
  | .none => .type "NoneType"
  | .bool _ => .type "bool"
  | .int _ => .type "int"
  | .str _ => .type "str"
  | .list _ => .type "list"
  | .tuple _ => .type "tuple"
  | .dict es => match excC es with
    | some C => .ref C
    | none => .type "dict"
def ExcIsi (K : PySem.W.Frag) (C : Addr) : Prop := ∀ (a : Addr) (φ : Heap → Prop), (∀ h, φ h → ∃ o, h.get? a = some o ∧ o.cls = .ref C) → PySem.W.KitX K (.ref a) (.ref C) φ
theorem isinst_D {pins : List (Addr × Obj)} {σ : St} {H : Hp} {s : Shared} {A : Around} {E : Value → Shared → Prop} {Q : Value → Shared → Prop} {c : Value} {k : Bool} {v : V} {u : Value} (I : Inv X pins σ H s) (h : DV X.K H v d) (rv : RelV v u)
    (e : PySem.W.kitOne X.K (tyD d) c = some k) (hq : ∀ tk, Q (.bool k) { s with toks := tk }) (hX : ∀ C, d = excD C → ExcIsi X.K C := by intro _ z; cases z) (hX2 : ∀ C n, d = excRD C n → ExcIsi X.K C := by intro _ _ z; first | cases z | (unfold excD at z; cases z)) (hO : isObD d = false := by first | rfl | assumption) : wpAny (model X.prog X.w) A (call (.builtin "isinstance") [u, c]) Q E s := by
  cases h with
  | non => exact isinst_ok I rv .non e hq
  | bl b => exact isinst_ok I rv (.bl b) e hq
  | int i => exact isinst_ok I rv (.int i) e hq
  | str x => exact isinst_ok I rv (.str x) e hq
  | @tup a xs ds h t =>
    cases rv
    obtain ⟨its, _, ⟨o, h1, h2, _⟩, _⟩ := I.tuple h
    exact PySem.W.kia_one PySem.W.kitx_tuple I.kIn ⟨o, h1, h2⟩ e (fun z => nomatch z) hq
  | @lst a xs ds h t =>
    cases rv
    obtain ⟨its, _, pl, _⟩ := I.list h
    obtain ⟨o, h1, h2, _⟩ := pl.isList
    exact PySem.W.kia_one PySem.W.kitx_list I.kIn ⟨o, h1, h2⟩ e (fun z => nomatch z) hq
  | @dct a kvs es h t =>
    cases rv
    have e' : PySem.W.kitOne X.K (.type "dict") c = some k := by
      have z : tyD (.dict es) = (match excC es with | some C => Value.ref C | none => .type "dict") := rfl
      rw [z, excC_dvk t] at e
      exact e
    exact PySem.W.kia_one PySem.W.kitx_dict I.kIn (isD_at I (.inl ⟨kvs, .inl h⟩)).1 e' (fun z => nomatch z) hq
  | @exc a C h =>
    cases rv
    have e' : PySem.W.kitOne X.K (.ref C) c = some k := e
    exact PySem.W.kia_one (hX C rfl a _ fun h p => let ⟨o, _, h1, h2, _⟩ := p; ⟨o, h1, h2⟩) I.kIn (I.hok a _ h).1 e' (fun z => nomatch z) hq
  | @exr a C dx n h h' =>
    cases rv
    have e' : PySem.W.kitOne X.K (.ref C) c = some k := e
    exact PySem.W.kia_one (hX2 C n rfl a _ fun h p => let ⟨o, _, h1, h2, _⟩ := p; ⟨o, h1, h2⟩) I.kIn (I.hok a _ h).1 e' (fun z => nomatch z) hq
  | obj h n t => cases hO
  | dtt h => unfold ppE isObD at hO; cases hO
theorem ev_isi {k : Bool} {n : String} {x1 : Str} (ha : EV X G a da) (hg : Gl X "isinstance") (hm : X.mg "isinstance" = none) (hg1 : Gl X x1) (hm1 : X.mg x1 = none) (hv1 : bootBuiltins x1 = some (.type n)) (e : PySem.W.kitOne X.K (tyD da) (.type n) = some k)
    (hX : ∀ C, da = excD C → ExcIsi X.K C := by intro _ z; cases z) (hX2 : ∀ C n, da = excRD C n → ExcIsi X.K C := by intro _ _ z; first | cases z | (unfold excD at z; cases z)) (hO : isObD da = false := by first | rfl | assumption) (hn : x1 ≠ "__name__" := by decide) (hd1 : (x1 == ("__debug__" : Str)) = false := by decide) (hv : bootBuiltins "isinstance" = some (.builtin "isinstance") := by decide +kernel)
    (he : starEach [a, .Name x1 p2] X.env = (false, eval a X.env) :: starEach [.Name x1 p2] X.env := by rfl) (he2 : starEach [.Name x1 p2] X.env = (false, eval (.Name x1 p2) X.env) :: starEach [] X.env := by rfl)
    (hpl : (backTo pos (starEach [.Name x1 p2] X.env)).any (·.1) = false := by rfl) :
    EV X G (.Call (.Name "isinstance" p) [a, .Name x1 p2] [] pos) (.bool k) := by
  have cr : CallR X (.builtin "isinstance") (fun xs H Q => ∃ v, xs = [v, .ty n] ∧ DV X.K H v da ∧ Q (.bl k) H) := by
    intro pins s σ H xs us Q I rs ⟨v, ex, dv, q⟩
    subst ex
    obtain ⟨u, w, rfl, ru, rw'⟩ := vals2 rs
    cases rw'
    exact isinst_D I dv ru e (fun tk => ⟨.bl k, H, I.tok tk, rfl, q⟩) hX hX2 hO
  refine (pe_callB cr hg hm hv (pa_cons ha (pa_cons (pe_bltn (v := .ty n) hg1 hm1 hv1 rfl hn hd1) pa_nil he2) he) (by decide) (by decide) he hpl).imp fun σ H Q ⟨h, q⟩ => ⟨h, fun v H1 s1 d1 => ⟨v, rfl, d1, q _ H1 s1 (.bl k)⟩⟩
def spD (K : PySem.W.Frag) (F : List PyData → PyData → Prop) : Sp := fun vs H Q _ => ∃ ds d, DVs K H vs ds ∧ F ds d ∧ ∀ v H', Same H H' → DV K H' v d → Q v H'
def DFn (P : Program) (w : World) (K : PySem.W.Frag) (mg : Str → Option Value) (base : Heap) (k : Nat) (x : Str) (F : List PyData → PyData → Prop) : Prop :=
  ∃ f fd ps, FnOk P w K mg base CX0 k f fd ps (spD K F) ∧ mg x = some (.ref f) ∧ PySem.W.keepIn K (.ref f) = true ∧ Binds K fd ps []
theorem ev_call {k : Nat} {F : List PyData → PyData → Prop} (D : DFn X.prog X.w X.K X.mg X.base k x F) (hr : Room k X.A) (hg : Gl X x) (ha : AV X G (e :: es) ds) (hF : F ds d) (hdb : (x == ("__debug__" : Str)) = false := by decide)
    (he : starEach (e :: es) X.env = (false, eval e X.env) :: starEach es X.env := by rfl) (hpl : (backTo pos (starEach es X.env)).any (·.1) = false := by rfl) : EV X G (.Call (.Name x p) (e :: es) [] pos) d := by
  obtain ⟨f, fd, ps, ok, hm, hk, hb⟩ := D
  refine (pe_call ok hr hg hm hk hb .nil pass0 ha hdb he hpl).imp fun σ H Q ⟨h, q⟩ => ⟨h, fun vs H1 s1 d1 => ?_⟩
  show spD X.K F (vs ++ []) H1 Q E0
  rw [List.append_nil]
  exact ⟨ds, d, d1, hF, fun v H2 s2 d2 => q v H2 (s1.trans s2) d2⟩
theorem svs_nil : SVs X G [] (.next G) := pss_nil.imp fun D σ H ⟨h, q⟩ => q σ H (Same.refl H) h
theorem svs_cons {st : Stmt} {sts : List Stmt} {G1 : Gam} {o : Out} (h1 : SV X G st (.next G1)) (h2 : SVs X G1 sts o) : SVs X G (st :: sts) o :=
  (pss_cons h1 h2).imp fun D σ H ⟨h, q⟩ => ⟨h, fun σ' H' s' h' => ⟨h', by
    cases o with
    | next G2 => exact fun σ2 H2 s2 h2 => q σ2 H2 (s'.trans s2) h2
    | ret d => exact fun v H2 s2 h2 => q v H2 (s'.trans s2) h2⟩⟩
theorem svs_ret {st : Stmt} {sts : List Stmt} (h1 : SV X G st (.ret d)) : SVs X G (st :: sts) (.ret d) := by
  intro pins s σ H D I ⟨h, q⟩
  have z : PSs X (st :: sts) (fun D σ H => tDS X.K G (.ret d) D σ H) := by
    refine (pss_cons (t := fun D σ H => tDS X.K G (.ret d) D σ H) (u := tNever) h1 pss_never).imp fun D σ H ⟨h, q⟩ => ⟨h, q⟩
  exact z pins s σ H D I ⟨h, q⟩
theorem sv_ret (h : EV X G e d) : SV X G (.Return (some e) pos) (.ret d) := (ps_ret h).imp fun D σ H ⟨h, q⟩ => ⟨h, q⟩
theorem sv_set {i : Nat} (hN : X.N.Nodup) (hi : X.N[i]? = some x) (hx : Loc X.env.scope x) (h : EV X G e d) (hs : swapsWith e (some (.Name x p)) pos.line X.env = pure false := by rfl)
    (hf : X.fn x = true ∨ X.env.scope.names.lookup x = some .local := by first | exact .inl rfl | exact .inr rfl | assumption) : SV X G (.Assign [.Name x p] e pos) (.next (G.set i (some d))) :=
  (ps_set hN hi hx h hs hf).imp fun D σ H ⟨h, q⟩ => ⟨h, fun v H1 s1 d1 => q _ H1 s1 ((h.mono s1).set d1)⟩
theorem sv_if {k : Bool} {A B : List Stmt} {o : Out} (hc : TV X G c k) (h1 : k = true → SVs X G A o) (h2 : k = false → SVs X G B o) : SV X G (.If c A B pos) o := by
  have hA : PSs X A (fun D σ H => k = true ∧ tDS X.K G o D σ H) := fun pins s σ H D I ⟨e, q⟩ => h1 e pins s σ H D I q
  have hB : PSs X B (fun D σ H => k = false ∧ tDS X.K G o D σ H) := fun pins s σ H D I ⟨e, q⟩ => h2 e pins s σ H D I q
  refine (ps_if hc hA hB).imp fun D σ H ⟨h, q⟩ => ⟨h, fun H1 s1 => ?_⟩
  have fin : tDS X.K G o D σ H1 := ⟨h.mono s1, by
    cases o with
    | next G2 => exact fun σ2 H2 s2 h2 => q σ2 H2 (s1.trans s2) h2
    | ret d => exact fun v H2 s2 h2 => q v H2 (s1.trans s2) h2⟩
  cases k with
  | true => exact iteT ⟨rfl, fin⟩
  | false => exact iteF ⟨rfl, fin⟩
structure ItD (K : PySem.W.Frag) (J : It) (ds : List PyData) (H0 : Hp) : Prop where
  go : ∀ i H, Same H0 H → i < ds.length → J.go i H
  yld : ∀ i H v H', Same H0 H → i < ds.length → J.yld i H v H' → Same H H' ∧ ∃ d, ds[i]? = some d ∧ DV K H' v d
  stop : ∀ i H, Same H0 H → ds.length ≤ i → J.stop i H
def tDI (K : PySem.W.Frag) (G : Gam) (ds : List PyData) : TI := fun σ H R => SD K H σ G ∧ ∀ J H', Same H H' → ItD K J ds H' → R J H'
abbrev IV (X : Cx) (G : Gam) (tg iter : Expr) (ds : List PyData) : Prop := PI X tg iter (tDI X.K G ds)
theorem PI.imp {tg : Expr} {t t' : TI} (h : PI X tg e t) (m : ∀ σ H R, t' σ H R → t σ H R) : PI X tg e t' := fun pins s σ H R I q => h pins s σ H R I (m σ H R q)
theorem iv_list {tg : Expr} (h : EV X G e (.list ds)) : IV X G tg e ds := (pi_list h).imp fun σ H R ⟨h, q⟩ => ⟨h, fun v H1 s1 d1 => by
  obtain ⟨l, us, rfl, hl, d2⟩ := d1.of_lst
  refine ⟨l, rfl, ⟨us, hl⟩, q _ H1 s1 ⟨fun i H2 s2 hi => ?_, fun i H2 v H3 s2 _ ⟨e, y⟩ => ?_, fun i H2 s2 hi => ⟨us, s2.seq hl, by rw [d2.length]; exact hi⟩⟩⟩
  · obtain ⟨v, e, _⟩ := d2.get (i := i) (d := ds[i]) (by simp [hi])
    exact ⟨us, v, s2.seq hl, e⟩
  · subst e
    obtain ⟨d, e1, e2⟩ := d2.get' (y us (s2.seq hl))
    exact ⟨Same.refl _, d, e1, e2.mono s2⟩⟩
theorem iv_tup {tg : Expr} (h : EV X G e (.tuple ds)) : IV X G tg e ds := (pi_tup h).imp fun σ H R ⟨h, q⟩ => ⟨h, fun v H1 s1 d1 => by
  obtain ⟨l, us, rfl, hl, d2⟩ := d1.of_tup
  refine ⟨l, rfl, ⟨us, hl⟩, q _ H1 s1 ⟨fun i H2 s2 hi => ?_, fun i H2 v H3 s2 _ ⟨e, y⟩ => ?_, fun i H2 s2 hi => ⟨us, s2.seqT hl, by rw [d2.length]; exact hi⟩⟩⟩
  · obtain ⟨v, e, _⟩ := d2.get (i := i) (d := ds[i]) (by simp [hi])
    exact ⟨us, v, s2.seqT hl, e⟩
  · subst e
    obtain ⟨d, e1, e2⟩ := d2.get' (y us (s2.seqT hl))
    exact ⟨Same.refl _, d, e1, e2.mono s2⟩⟩
abbrev rangeD (lo : Int) (n : Nat) : List PyData := (List.range n).map fun (i : Nat) => PyData.int (lo + (i : Int))
theorem rangeD_len {lo : Int} {n : Nat} : (rangeD lo n).length = n := by simp [rangeD]
theorem rangeD_get {lo : Int} {n i : Nat} (h : i < n) : (rangeD lo n)[i]? = some (.int (lo + (i : Int))) := by simp [rangeD, h]
theorem itd_range {K : PySem.W.Frag} {lo : Int} {n : Nat} {H : Hp} : ItD K (Itr lo n) (rangeD lo n) H where
  go := fun i H s h => by rw [rangeD_len] at h; exact h
  yld := fun i H v H' s h ⟨e, y⟩ => by
    rw [rangeD_len] at h
    subst e y
    exact ⟨Same.refl _, _, rangeD_get h, .int _⟩
  stop := fun i H s h => by rw [rangeD_len] at h; exact h
theorem iv_range1 {tg : Expr} {n : Int} (ha : EV X G a (.int n)) (h1 : -(2 ^ 62) ≤ n) (h2 : n < 2 ^ 62) (hg : Gl X "range") (hm : X.mg "range" = none) (hs : starEach [a] X.env = [(false, eval a X.env)] := by rfl) :
    IV X G tg (.Call (.Name "range" p) [a] [] pos) (rangeD 0 n.toNat) :=
  (pi_range1 hg hm (av_cons ha av_nil hs) hs).imp fun σ H R ⟨h, q⟩ => ⟨h, fun vs H1 s1 d1 => by
    obtain ⟨v, rfl, dv⟩ := d1.one
    exact ⟨n, by rw [dv.of_int], h1, h2, q _ H1 s1 itd_range⟩⟩
end
end L2
set_option maxRecDepth 100000
set_option maxHeartbeats 4000000
namespace L2
open PySem PySem.Spec PyProof.Rows
def outG (ix : List Nat) (G : Gam) : Gam := ix.map fun i => (G[i]?).getD none
theorem SD.comp {K : PySem.W.Frag} {H : Hp} {σ : St} {G : Gam} (h : SD K H σ G) (k : Nat) (ix : List Nat) : SD K H (List.replicate k none ++ outS ix σ) (List.replicate k none ++ outG ix G) := by
  refine ⟨by simp [outS, outG], fun i d e => ?_⟩
  rcases Nat.lt_or_ge i k with hi | hi
  · rw [List.getElem?_append_left (by simpa using hi), List.getElem?_replicate, if_pos hi] at e
    cases e
  · rw [List.getElem?_append_right (by simpa using hi), List.length_replicate] at e ⊢
    unfold outG at e
    unfold outS
    rw [List.getElem?_map] at e ⊢
    cases q : ix[i - k]? with
    | none => rw [q] at e; cases e
    | some j =>
      rw [q] at e
      have e : (G[j]?).getD none = some d := Option.some.inj e
      have e' : G[j]? = some (some d) := by
        cases z : G[j]? with
        | none => rw [z] at e; cases e
        | some w => rw [z] at e; have e : w = some d := e; rw [e]
      obtain ⟨v, a, b⟩ := h.2 j d e'
      exact ⟨v, by rw [Option.map_some, a]; rfl, b⟩
section
variable {X : Cx} {G : Gam} {elt target iter : Expr} {ifs : List Expr} {scope : Scope} {pos : Pos} {N : List Str} {ix : List Nat} {ds : List PyData}
theorem PE.ex {ι : Type} {e : Expr} {t : ι → TE} {p : ι → Prop} (h : ∀ i, p i → PE X e (t i)) : PE X e (fun σ H Q => ∃ i, p i ∧ t i σ H Q) := fun pins s σ H Q I ⟨i, hi, q⟩ => h i hi pins s σ H Q I q
theorem PF.ex {ι : Type} {es : List Expr} {t : ι → TT} {p : ι → Prop} (h : ∀ i, p i → PF X es (t i)) : PF X es (fun σ H Q => ∃ i, p i ∧ t i σ H Q) := fun pins s σ H Q I ⟨i, hi, q⟩ => h i hi pins s σ H Q I q
theorem pf_D0 : PF X [] (tDT X.K G true) := fun pins s σ H Q I ⟨h, q⟩ => pf_nil pins s σ H Q I (q H (Same.refl H))
theorem pf_D1 {c : Expr} {k : Bool} (h : TV X G c k) : PF X [c] (tDT X.K G k) := pf_one h
structure BindD (K : PySem.W.Frag) (k : Nat) (g : TG) (B : PyData → Gam → Gam) (d : PyData) : Prop where
  to : ∀ (v : V) σ H G (Q : St → Hp → Prop), SD K H σ G → DV K H v d → (∀ σ2, SD K H σ2 (B d G) → Q σ2 H) → g v σ H Q
def bind1 (d : PyData) (G : Gam) : Gam := G.set 0 (some d)
def bind2 (d : PyData) (G : Gam) : Gam := match d with
  | .tuple [a, b] => (G.set 0 (some a)).set 1 (some b)
  | _ => G
theorem bindD1 {K : PySem.W.Frag} (d : PyData) : BindD K 1 (gName 0) bind1 d := ⟨fun v σ H G Q h dv q => q _ (h.set dv)⟩
theorem bindD2 {K : PySem.W.Frag} (a b : PyData) : BindD K 2 (gTup K 2 (gCons (gName 0) (gCons (gName 1) gNil))) bind2 (.tuple [a, b]) := ⟨fun v σ H G Q h dv q => by
  obtain ⟨l, us, rfl, hl, d1⟩ := dv.of_tup
  obtain ⟨x, y, rfl, dx, dy⟩ := d1.two
  exact ⟨l, [x, y], rfl, hl, rfl, x, [y], rfl, y, [], rfl, rfl, q _ ((h.set dx).set dy)⟩⟩
theorem compW_D {α : Type} {as : List α} {D : α → PyData} {k : Nat} {g : TG} {B : PyData → Gam → Gam} {σ : St} {J : It} {H1 : Hp} {Q : List V → Hp → Prop} (K : PySem.W.Frag) (Pd : α → Bool) (F : α → PyData) (hz : as.length ≤ sizeLine) (og : OwnG k g)
    (hb : ∀ a ∈ as, BindD K k g B (D a)) (hσ : SD K H1 σ G) (hJ : ItD K J (as.map D) H1) (q : ∀ ys H', Same H1 H' → DVs K H' ys ((as.filter Pd).map F) → Q ys H') :
    CompW k ix g (fun σ H Q => ∃ a, a ∈ as ∧ tDT K (B (D a) (List.replicate k none ++ outG ix G)) (Pd a) σ H Q) (fun σ H Q => ∃ a, (a ∈ as ∧ Pd a = true) ∧ tD K (B (D a) (List.replicate k none ++ outG ix G)) (F a) σ H Q) σ J H1 Q := by
  refine ⟨fun i m ys H => i ≤ as.length ∧ m = as.length - i ∧ Same H1 H ∧ DVs K H ys (((as.take i).filter Pd).map F), ⟨_, Nat.zero_le _, rfl, Same.refl _, .nil⟩, ?_⟩
  rintro i m ys H ⟨hi, rfl, sm, dy⟩
  have hyl : ys.length ≤ as.length := by
    rw [dy.length, List.length_map]
    refine Nat.le_trans (List.length_filter_le _ _) ?_
    rw [List.length_take]
    omega
  refine ⟨Nat.le_trans hyl hz, ?_⟩
  by_cases hlt : i < as.length
  · refine .inr ⟨hJ.go i H sm (by rw [List.length_map]; exact hlt), fun v H' y => ?_⟩
    obtain ⟨s2, d, ed, dv⟩ := hJ.yld i H v H' sm (by rw [List.length_map]; exact hlt) y
    have ea : as[i]? = some as[i] := List.getElem?_eq_getElem hlt
    have ed' : d = D as[i] := by
      rw [List.getElem?_map, ea] at ed
      exact (Option.some.inj ed).symm
    subst ed'
    have hd : as[i] ∈ as := List.getElem_mem hlt
    have tk : (as.take (i + 1)).filter Pd = (as.take i).filter Pd ++ (if Pd as[i] then [as[i]] else []) := take_succ_filter Pd as i as[i] ea
    refine (hb _ hd).to v _ H' _ _ (((hσ.mono sm).mono s2).comp k ix) dv fun σ2 h2 => ⟨as[i], hd, h2, fun H3 s3 => ?_⟩
    cases hp : Pd as[i] with
    | true =>
      refine iteT ⟨as[i], ⟨hd, hp⟩, h2.mono s3, fun w H4 s4 dw => ⟨as.length - (i + 1), by omega, hlt, rfl, ((sm.trans s2).trans s3).trans s4, ?_⟩⟩
      rw [tk, hp, if_pos rfl, List.map_append]
      exact (((dy.mono s2).mono s3).mono s4).append (.cons dw .nil)
    | false =>
      refine iteF ⟨as.length - (i + 1), by omega, hlt, rfl, (sm.trans s2).trans s3, ?_⟩
      rw [tk, hp, if_neg Bool.false_ne_true, List.append_nil]
      exact (dy.mono s2).mono s3
  · have e : i = as.length := by omega
    subst e
    rw [List.take_length] at dy
    exact .inl ⟨hJ.stop _ H sm (by rw [List.length_map]; exact Nat.le_refl _), q ys H sm dy⟩
theorem ev_comp {α : Type} {as : List α} {D : α → PyData} {k : Nat} {g : TG} {B : PyData → Gam → Gam} (Pd : α → Bool) (F : α → PyData) (hcalm : X.calm = true) (hc : CompOk X.env.scope X.N k ix N scope) (og : OwnG k g) (hi : IV X G target iter (as.map D)) (hz : as.length ≤ sizeLine)
    (hb : ∀ a ∈ as, BindD X.K k g B (D a)) (hg : ∀ cl C s H fp, PG (cxComp X scope cl C N s H fp) target g)
    (ht : ∀ a ∈ as, ∀ cl C s H fp, PF (cxComp X scope cl C N s H fp) ifs (tDT X.K (B (D a) (List.replicate k none ++ outG ix G)) (Pd a)))
    (he : ∀ a ∈ as, Pd a = true → ∀ cl C s H fp, EV (cxComp X scope cl C N s H fp) (B (D a) (List.replicate k none ++ outG ix G)) elt (F a))
    (hs : ∀ x, foldedSetIterable iter X.env x = pure x := by intro _; rfl) : EV X G (.ListComp elt [⟨target, iter, ifs, 0⟩] scope pos) (.list ((as.filter Pd).map F)) := by
  refine (pe_comp hcalm hc og hi (fun cl C s H fp => ⟨hg cl C s H fp, PF.ex (t := fun a => tDT X.K (B (D a) (List.replicate k none ++ outG ix G)) (Pd a)) (p := fun a => a ∈ as) fun d hd => ht d hd cl C s H fp, PE.ex (t := fun a => tD X.K (B (D a) (List.replicate k none ++ outG ix G)) (F a)) (p := fun a => a ∈ as ∧ Pd a = true) fun d hd => he d hd.1 hd.2 cl C s H fp⟩) hs).imp fun σ H Q ⟨h, q⟩ => ⟨h, fun J H1 s1 hJ => ?_⟩
  refine compW_D X.K Pd F hz og hb (h.mono s1) hJ fun ys H2 s2 dy D hD => ?_
  exact q _ _ ((s1.trans s2).trans (Same.new hD)) (.lst (SqL.of upd_same) (dy.mono (Same.new hD)))
theorem sv_setComp {α : Type} {as : List α} {D : α → PyData} {k i : Nat} {x : Str} {pos' spos : Pos} {g : TG} {B : PyData → Gam → Gam} (Pd : α → Bool) (F : α → PyData) (hcalm : X.calm = true) (hN : X.N.Nodup) (hx0 : X.N[i]? = some x) (hx : X.env.scope.names.lookup x = some .local)
    (hc : CompOk X.env.scope X.N k ix N scope) (og : OwnG k g) (hi : IV X G target iter (as.map D)) (hz : as.length ≤ sizeLine)
    (hb : ∀ a ∈ as, BindD X.K k g B (D a)) (hg : ∀ cl C s H fp, PG (cxComp X scope cl C N s H fp) target g)
    (ht : ∀ a ∈ as, ∀ cl C s H fp, PF (cxComp X scope cl C N s H fp) ifs (tDT X.K (B (D a) (List.replicate k none ++ outG ix G)) (Pd a)))
    (he : ∀ a ∈ as, Pd a = true → ∀ cl C s H fp, EV (cxComp X scope cl C N s H fp) (B (D a) (List.replicate k none ++ outG ix G)) elt (F a))
    (hsw : swapsWith (.ListComp elt [⟨target, iter, ifs, 0⟩] scope pos) (some (.Name x pos')) spos.line X.env = pure true := by rfl)
    (hs : ∀ x, foldedSetIterable iter X.env x = pure x := by intro _; rfl) : SV X G (.Assign [.Name x pos'] (.ListComp elt [⟨target, iter, ifs, 0⟩] scope pos) spos) (.next (G.set i (some (.list ((as.filter Pd).map F))))) := by
  refine (ps_setComp hcalm hN hx0 hx hc og hi (fun cl C s H fp => ⟨hg cl C s H fp, PF.ex (t := fun a => tDT X.K (B (D a) (List.replicate k none ++ outG ix G)) (Pd a)) (p := fun a => a ∈ as) fun d hd => ht d hd cl C s H fp, PE.ex (t := fun a => tD X.K (B (D a) (List.replicate k none ++ outG ix G)) (F a)) (p := fun a => a ∈ as ∧ Pd a = true) fun d hd => he d hd.1 hd.2 cl C s H fp⟩) hsw hs).imp fun Dn σ H ⟨h, q⟩ => ⟨h, fun J H1 s1 hJ => ?_⟩
  refine compW_D X.K Pd F hz og hb (h.mono s1) hJ fun ys H2 s2 dy D hD => ?_
  have s3 := (s1.trans s2).trans (Same.new (o := .lst ys) hD)
  exact q _ _ s3 ((h.mono s3).set (.lst (SqL.of upd_same) (dy.mono (Same.new hD))))
end
def startG (N : List Str) (ds : List PyData) : Gam := ds.map some ++ List.replicate (N.length - ds.length) none
theorem SD.start {K : PySem.W.Frag} {H : Hp} {N : List Str} {vs : List V} {ds : List PyData} (h : DVs K H vs ds) : SD K H (start N vs) (startG N ds) := by
  refine ⟨by simp [L2.start, startG, h.length], fun i d e => ?_⟩
  unfold startG at e
  unfold L2.start
  rcases Nat.lt_or_ge i ds.length with hi | hi
  · rw [List.getElem?_append_left (by simpa using hi), List.getElem?_map] at e
    rw [List.getElem?_append_left (by simpa [h.length] using hi), List.getElem?_map]
    cases q : ds[i]? with
    | none => rw [q] at e; cases e
    | some d' =>
      rw [q] at e
      have e : d' = d := by
        have := Option.some.inj e
        exact Option.some.inj this
      subst e
      obtain ⟨v, a, b⟩ := h.get q
      exact ⟨v, by rw [a]; rfl, b⟩
  · rw [List.getElem?_append_right (by simpa using hi), List.getElem?_replicate] at e
    split at e <;> cases e
section
variable {P : Program} {w : World} {K : PySem.W.Frag} {mg : Str → Option Value} {base : Heap}
theorem Fun.data {x qual : Str} {st : Stmt} {f : Addr} {fd : FuncData} {N ps : List Str} {k : Nat} {F : List PyData → PyData → Prop} (F0 : Fun K x qual st f fd) (hm : mg x = some (.ref f)) (hb : Binds K fd ps []) (S : FnScope N ps (defScope st)) (len : ∀ ds d, F ds d → ds.length = ps.length)
    (hbody : ∀ (cdv : Value) (A : Around) (outer : List Env) (s : Shared) (H : Hp) (E : XK) (ds : List PyData) (d : PyData), Room k (A.deeper (envOfC qual (defScope st) s.heap.objs.size f cdv)) → F ds d →
      SVs (cxOf CX0 P w K mg base N qual (defScope st) f cdv A outer s H E).nox (startG N ds) (defBody st) (.ret d)) : DFn P w K mg base (k + 1) x F := by
  refine ⟨f, fd, ps, F0.ok S (fun vs H Q E ⟨ds, d, h1, h2, _⟩ => h1.length.trans (len ds d h2)) (fun cdv A outer s H vs Q E hr ⟨ds, d, h1, h2, q⟩ => ⟨_, hbody cdv A outer s H E ds d hr h2, SD.start h1, q⟩), hm, F0.kp, hb⟩
end
theorem DFn.mono {P : Program} {w : World} {K : PySem.W.Frag} {mg : Str → Option Value} {base : Heap} {j k : Nat} {x : Str} {F : List PyData → PyData → Prop} (D : DFn P w K mg base j x F) (h : j ≤ k) : DFn P w K mg base k x F := by
  obtain ⟨f, fd, ps, ok, r⟩ := D
  exact ⟨f, fd, ps, ok.mono h, r⟩
end L2
set_option maxRecDepth 100000
set_option maxHeartbeats 4000000
namespace L2
open PySem PySem.Spec PyProof.Rows
mutual
def noL : PyData → Bool
  | .none => true
  | .bool _ => true
  | .int _ => true
  | .str _ => true
  | .tuple xs => noLs xs
  | .list _ => false
  | .dict _ => false
def noLs : List PyData → Bool
  | [] => true
  | x :: r => noL x && noLs r
end
def dele (H : Hp) (p : Addr) : Hp := fun b => if b = p then none else H b
theorem dele_same {H : Hp} {p : Addr} : dele H p p = none := by unfold dele; rw [if_pos rfl]
theorem dele_ne {H : Hp} {p b : Addr} (h : b ≠ p) : dele H p b = H b := by unfold dele; rw [if_neg h]
theorem upd_dele {H : Hp} {p : Addr} {o : HO} (h : H p = some o) : upd (dele H p) p o = H := by
  funext b
  by_cases hb : b = p
  · subst hb; rw [upd_same, h]
  · rw [upd_ne hb, dele_ne hb]
mutual
theorem DV.dele {K : PySem.W.Frag} {H : Hp} {p : Addr} {ws : List V} (hp : H p = some (.lst ws)) : ∀ {v : V} {d : PyData}, DV K H v d → noL d = true → DV K (L2.dele H p) v d
  | _, _, .non, _ => .non
  | _, _, .bl b, _ => .bl b
  | _, _, .int i, _ => .int i
  | _, _, .str x, _ => .str x
  | _, _, .tup (a := a) h t, f => by
    refine .tup ?_ (DVs.dele hp t (by unfold noL at f; exact f))
    rcases h with (h | ⟨o, h⟩) | h
    · have : a ≠ p := fun z => by subst z; rw [hp] at h; cases h
      exact .inl (.inl (by rw [dele_ne this]; exact h))
    · have : a ≠ p := fun z => by subst z; rw [hp] at h; cases h
      exact .inl (.inr ⟨o, by rw [dele_ne this]; exact h⟩)
    · exact .inr h
  | _, _, .lst h t, f => by unfold noL at f; cases f
  | _, _, .dct h t, f => by unfold noL at f; cases f
  | _, _, .exc h, f => by unfold noL at f; cases f
  | _, _, .exr h h', f => by unfold noL at f; cases f
  | _, _, .obj h n t, f => by unfold noL at f; cases f
  | _, _, .dtt h, f => by unfold noL at f; cases f
theorem DVs.dele {K : PySem.W.Frag} {H : Hp} {p : Addr} {ws : List V} (hp : H p = some (.lst ws)) : ∀ {vs : List V} {ds : List PyData}, DVs K H vs ds → noLs ds = true → DVs K (L2.dele H p) vs ds
  | _, _, .nil, _ => .nil
  | _, _, .cons h t, f => by
    unfold noLs at f
    rw [Bool.and_eq_true] at f
    exact .cons (DV.dele hp h f.1) (DVs.dele hp t f.2)
end
def OSt (K : PySem.W.Frag) (H0 : Hp) (p : Addr) (i : Nat) (G : Gam) (ds : List PyData) (σ : St) (H : Hp) : Prop :=
  ∃ Hb vs, H = upd Hb p (.lst vs) ∧ Hb p = none ∧ Same H0 Hb ∧ SD K Hb σ G ∧ σ[i]? = some (some (.ref p)) ∧ DVs K Hb vs ds
abbrev plusL (G : Gam) (i : Nat) (ds : List PyData) : Gam := G.set i (some (.list ds))
theorem OSt.sd {K : PySem.W.Frag} {H0 : Hp} {p : Addr} {i : Nat} {G : Gam} {ds : List PyData} {σ : St} {H : Hp} (h : OSt K H0 p i G ds σ H) : SD K H σ (plusL G i ds) := by
  obtain ⟨Hb, vs, rfl, hn, _, hσ, hi, dv⟩ := h
  have h1 := hσ.mono (Same.new (o := .lst vs) hn)
  have h2 := h1.set (i := i) (v := .ref p) (d := .list ds) (.lst (SqL.of upd_same) (dv.mono (Same.new hn)))
  have e : σ.set i (some (V.ref p)) = σ := by
    refine List.ext_getElem? fun j => ?_
    by_cases hj : i = j
    · subst hj
      rw [List.getElem?_set_self (List.getElem?_eq_some_iff.mp hi).1, hi]
    · rw [List.getElem?_set_ne hj]
  rw [e] at h2
  exact h2
theorem OSt.step {K : PySem.W.Frag} {H0 : Hp} {p : Addr} {i : Nat} {G : Gam} {ds : List PyData} {σ : St} {H H' : Hp} (h : OSt K H0 p i G ds σ H) (s : Same H H') :
    OSt K H0 p i G ds σ H' ∧ ∀ v d, DV K H' v d → noL d = true → ∃ Hb vs, H' = upd Hb p (.lst vs) ∧ Hb p = none ∧ Same H0 Hb ∧ SD K Hb σ G ∧ σ[i]? = some (some (.ref p)) ∧ DVs K Hb vs ds ∧ DV K Hb v d := by
  obtain ⟨Hb, vs, rfl, hn, s0, hσ, hi, dv⟩ := h
  have hp : H' p = some (.lst vs) := s p _ upd_same
  have sb : Same Hb (dele H' p) := fun b o e => by
    have hb : b ≠ p := ne_of_none e hn
    rw [dele_ne hb]
    exact s b o (by rw [upd_ne hb]; exact e)
  refine ⟨⟨dele H' p, vs, (upd_dele hp).symm, dele_same, s0.trans sb, hσ.mono sb, hi, dv.mono sb⟩, fun v d q f => ⟨dele H' p, vs, (upd_dele hp).symm, dele_same, s0.trans sb, hσ.mono sb, hi, dv.mono sb, DV.dele hp q f⟩⟩
def tH (K : PySem.W.Frag) (H0 : Hp) (p : Addr) (i : Nat) (Pre Post : Gam → List PyData → Prop) : TS := fun D σ H => (∃ G ds, Pre G ds ∧ OSt K H0 p i G ds σ H) ∧ ∀ σ' H' G ds, Post G ds → OSt K H0 p i G ds σ' H' → D.nx σ' H'
abbrev HT1 (X : Cx) (H0 : Hp) (p : Addr) (i : Nat) (Pre : Gam → List PyData → Prop) (st : Stmt) (Post : Gam → List PyData → Prop) : Prop := PS X st (tH X.K H0 p i Pre Post)
abbrev HTs (X : Cx) (H0 : Hp) (p : Addr) (i : Nat) (Pre : Gam → List PyData → Prop) (sts : List Stmt) (Post : Gam → List PyData → Prop) : Prop := PSs X sts (tH X.K H0 p i Pre Post)
section
variable {X : Cx} {H0 : Hp} {p : Addr} {i j : Nat} {Pre Mid Post PreA PreB : Gam → List PyData → Prop} {e c : Expr} {pos pos' pos2 : Pos} {x : Str}
theorem hts_nil (h : ∀ G ds, Pre G ds → Post G ds) : HTs X H0 p i Pre [] Post := pss_nil.imp fun D σ H ⟨⟨G, ds, a, b⟩, q⟩ => q σ H G ds (h G ds a) b
theorem hts_cons {st : Stmt} {sts : List Stmt} (h1 : HT1 X H0 p i Pre st Mid) (h2 : HTs X H0 p i Mid sts Post) : HTs X H0 p i Pre (st :: sts) Post :=
  (pss_cons h1 h2).imp fun D σ H ⟨a, q⟩ => ⟨a, fun σ' H' G ds m o => ⟨⟨G, ds, m, o⟩, q⟩⟩
theorem ht_append (h : ∀ G ds, Pre G ds → ∃ d, EV X (plusL G i ds) e d ∧ noL d = true ∧ ds.length < sizeLine ∧ Post G (ds ++ [d])) (hv : PE X (.Name x pos2) (tVar i))
    (hs0 : starEach [e] X.env = (false, eval e X.env) :: starEach [] X.env := by rfl)
    (hb : attributeBase (.Name x pos2) "append" X.env (eval (.Name x pos2) X.env) = eval (.Name x pos2) X.env := by rfl)
    (hfew : ((backTo pos' (starEach [e] X.env)).all (fun x => !x.1) && (backToKw pos' (keywordEach [] X.env)).all (fun x => x.1.isSome)
      && decide ([e].length + ([] : List Keyword).length + (if ([] : List Keyword).isEmpty then 0 else 1) < 30)) = true := by rfl)
    {apos : Pos} (hline : (apos.endLine == pos'.line) = true := by rfl) (hpl : (backTo pos' (starEach [] X.env)).any (·.1) = false := by rfl)
    (hsw : swapsWith (.Call (.Attribute (.Name x pos2) "append" apos) [e] [] pos') none pos.line X.env = pure false := by rfl) :
    HT1 X H0 p i Pre (.Expr (.Call (.Attribute (.Name x pos2) "append" apos) [e] [] pos') pos) Post := by
  intro pins s σ H D I ⟨⟨G, ds, a, o⟩, q⟩
  obtain ⟨d, ev, nl, hz, po⟩ := h G ds a
  refine ps_expr (pe_bm PySem.F.plainAttrs_list PySem.F.slot_list_append PySem.F.type_list_append mt_append hv (av_cons ev av_nil hs0) hb hfew hline hs0 hpl) hsw pins s σ H D I ?_
  obtain ⟨Hb, vs, rfl, hn, s0, hσ, hi, dv⟩ := id o
  refine ⟨_, hi, .inl ⟨rfl, vs, SqL.of upd_same⟩, o.sd, fun ws H1 s1 d1 => ?_⟩
  obtain ⟨v, rfl, d2⟩ := d1.one
  obtain ⟨_, k⟩ := o.step s1
  obtain ⟨Hb', vs', e1, e2, e3, e4, e5, e6, e7⟩ := k v d d2 nl
  subst e1
  have hup : upd (upd Hb' p (.lst vs')) p (.lst (vs' ++ [v])) = upd Hb' p (.lst (vs' ++ [v])) := upd_upd
  refine ⟨p, vs', v, rfl, rfl, upd_same, by rw [e6.length]; exact hz, ?_⟩
  rw [hup]
  exact q _ _ G _ po ⟨Hb', vs' ++ [v], rfl, e2, e3, e4, e5, e6.append (.cons e7 .nil)⟩
theorem pi_r1 {a : Expr} {G : Gam} {tg : Expr} {n : Int} (ha : EV X G a (.int n)) (h1 : -(2 ^ 62) ≤ n) (h2 : n < 2 ^ 62) (hg : Gl X "range") (hm : X.mg "range" = none) (hs : starEach [a] X.env = [(false, eval a X.env)] := by rfl) :
    PI X tg (.Call (.Name "range" pos') [a] [] pos) (fun σ H R => SD X.K H σ G ∧ ∀ H', Same H H' → R (Itr 0 n.toNat) H') :=
  (pi_range1 hg hm (av_cons ha av_nil hs) hs).imp fun σ H R ⟨h, q⟩ => ⟨h, fun vs H1 s1 d1 => by
    obtain ⟨v, rfl, dv⟩ := d1.one
    exact ⟨n, by rw [dv.of_int], h1, h2, q H1 s1⟩⟩
def tR (K : PySem.W.Frag) (G : Gam) (R : PyData → Prop) : TS := fun D σ H => SD K H σ G ∧ ∀ d v H', R d → Same H H' → DV K H' v d → D.rt v H'
abbrev RVs (X : Cx) (G : Gam) (sts : List Stmt) (R : PyData → Prop) : Prop := PSs X sts (tR X.K G R)
def tHR (K : PySem.W.Frag) (H0 : Hp) (p : Addr) (i : Nat) (Pre : Gam → List PyData → Prop) (R : PyData → Prop) : TS := fun D σ H => (∃ G ds, Pre G ds ∧ OSt K H0 p i G ds σ H) ∧ ∀ d v H', R d → Same H0 H' → DV K H' v d → D.rt v H'
abbrev HRs (X : Cx) (H0 : Hp) (p : Addr) (i : Nat) (Pre : Gam → List PyData → Prop) (sts : List Stmt) (R : PyData → Prop) : Prop := PSs X sts (tHR X.K H0 p i Pre R)
variable {R : PyData → Prop} {G : Gam} {d : PyData}
theorem hrs_cons {st : Stmt} {sts : List Stmt} (h1 : HT1 X H0 p i Pre st Mid) (h2 : HRs X H0 p i Mid sts R) : HRs X H0 p i Pre (st :: sts) R :=
  (pss_cons h1 h2).imp fun D σ H ⟨a, q⟩ => ⟨a, fun σ' H' G ds m o => ⟨⟨G, ds, m, o⟩, q⟩⟩
theorem rvs_own {sts : List Stmt} (hN : X.N.Nodup) (hi : X.N[i]? = some x) (hx : Loc X.env.scope x) (hG : i < G.length) (h : ∀ H0 p, HRs X H0 p i (fun G' ds => G' = G.set i none ∧ ds = []) sts R)
    (hs : swapsWith (.List [] pos2) (some (.Name x pos')) pos.line X.env = pure false := by rfl) (hf : X.fn x = true ∨ X.env.scope.names.lookup x = some .local := by first | exact .inl rfl | exact .inr rfl | assumption) :
    RVs X G (.Assign [.Name x pos'] (.List [] pos2) pos :: sts) R := by
  intro pins s σ H D I ⟨hσ, q⟩
  have h2 : PSs X sts (fun D σ H => ∃ hp : Hp × Addr, tHR X.K hp.1 hp.2 i (fun G' ds => G' = G.set i none ∧ ds = []) R D σ H) := fun pins s σ H D I ⟨hp, q⟩ => h hp.1 hp.2 pins s σ H D I q
  refine pss_cons (ps_set hN hi hx (pe_lst pa_nil) hs hf) h2 pins s σ H D I ⟨Nat.zero_le _, fun p hp => ⟨(H, p), ⟨_, [], ⟨rfl, rfl⟩, H, [], rfl, hp, Same.refl _, ⟨by rw [List.length_set, List.length_set, hσ.1], fun j d e => ?_⟩, List.getElem?_set_self (by rw [hσ.1]; exact hG), .nil⟩, fun d v H' r s' dv => q d v H' r s' dv⟩⟩
  by_cases hj : i = j
  · subst hj
    rw [List.getElem?_set_self hG] at e
    cases e
  · rw [List.getElem?_set_ne hj] at e ⊢
    exact hσ.2 j d e
end
section
variable {P : Program} {w : World} {K : PySem.W.Frag} {mg : Str → Option Value} {base : Heap}
end
end L2
set_option maxRecDepth 100000
set_option maxHeartbeats 4000000
namespace L2
open PySem PySem.Spec PyProof.Rows
section
variable {X : Cx} {G : Gam} {a b c e : Expr} {es rest : List Expr} {pos p p2 p3 : Pos} {d d' da db dc : PyData} {ds : List PyData} {x : Str}
theorem ev_eq (h : EV X G e d) (q : d = d') : EV X G e d' := q ▸ h
theorem tv_eq {k k' : Bool} (h : TV X G e k) (q : k = k') : TV X G e k' := q ▸ h
end
mutual
theorem eqv_self : ∀ (d : PyData), d.canLay0 = true → PyData.eqv d d = true
  | .none, _ => rfl
  | .bool b, _ => by simp [PyData.eqv]
  | .int i, _ => by simp [PyData.eqv]
  | .str x, _ => by simp [PyData.eqv]
  | .list xs, h => by unfold PyData.eqv; exact eqvAll_self xs (by simpa [PyData.canLay0] using h)
  | .tuple xs, h => by unfold PyData.eqv; exact eqvAll_self xs (by simpa [PyData.canLay0] using h)
  | .dict _, h => by simp [PyData.canLay0] at h
theorem eqvAll_self : ∀ (ds : List PyData), PyData.canLayAll0 ds = true → PyData.eqvAll ds ds = true
  | [], _ => rfl
  | d :: r, h => by
    have h' : d.canLay0 = true ∧ PyData.canLayAll0 r = true := by simpa [PyData.canLayAll0] using h
    unfold PyData.eqvAll
    rw [eqv_self d h'.1, eqvAll_self r h'.2]
    rfl
end
theorem atI_of {xs : List PyData} {i : Int} {d : PyData} (h0 : 0 ≤ i) (h : xs[i.toNat]? = some d) : atI xs i = some d := by
  have := atI_nat h
  rwa [Int.toNat_of_nonneg h0] at this
section
variable {X : Cx} {G : Gam} {a b c e : Expr} {es : List Expr} {pos p : Pos} {d da db dc : PyData} {ds : List PyData} {x : Str}
theorem ev_callB2 (id : String) (ha : AV X G (e :: es) ds) (hc : CD X (.builtin id) ds d) (hg : Gl X x) (hm : X.mg x = none) (hv : bootBuiltins x = some (.builtin id)) (hn : x ≠ "__name__" := by decide) (hdb : (x == ("__debug__" : Str)) = false := by decide)
    (he : starEach (e :: es) X.env = (false, eval e X.env) :: starEach es X.env := by rfl) (hpl : (backTo pos (starEach es X.env)).any (·.1) = false := by rfl) : EV X G (.Call (.Name x p) (e :: es) [] pos) d := ev_callB hc hg hm hv ha hn hdb he hpl
theorem ev_callTy2 (T : String) (ha : AV X G (e :: es) ds) (hc : CD X (.type T) ds d) (hg : Gl X x) (hm : X.mg x = none) (hv : bootBuiltins x = some (.type T)) (hn : x ≠ "__name__" := by decide) (hdb : (x == ("__debug__" : Str)) = false := by decide)
    (he : starEach (e :: es) X.env = (false, eval e X.env) :: starEach es X.env := by rfl) (hpl : (backTo pos (starEach es X.env)).any (·.1) = false := by rfl) : EV X G (.Call (.Name x p) (e :: es) [] pos) d := ev_callTy hc hg hm hv ha hn hdb he hpl
end
theorem at_ints {zs : List Int} {i : Int} (h0 : 0 ≤ i) (h : i < zs.length) : atI (zs.map PyData.int) i = some (.int (zs.getD i.toNat 0)) := by
  have hi : i.toNat < zs.length := by omega
  exact atI_of h0 (by simp [hi])
structure FnIn (K : PySem.W.Frag) (x : Str) (st : Stmt) (f : Addr) (fd : FuncData) : Prop where
  ns : PySem.W.nsIn K mainGlobals x = some (some (.ref f))
  fn : Fun K x x st f fd
theorem fnIn_mk {K : PySem.W.Frag} {x : Str} {st : Stmt} {f : Addr} {oc : Value} {od an : Option Addr} {osl : Array (Option Value)} {kV doc pm cdv ct : Value} (a : PySem.W.nsIn K mainGlobals x = some (some (.ref f)))
    (l : K.lookup f = some ⟨oc, od, .func (PySem.W.fnOf x x (defArgs st) (defBody st) (defScope st) .none kV doc pm an cdv ct), osl⟩) (c : PySem.W.codeIn K cdv x = true) (k : PySem.W.keepIn K (.ref f) = true) : ∃ f fd, FnIn K x st f fd :=
  ⟨f, _, a, fun_mk l c k⟩
section
variable {P : Program} {w : World} {K : PySem.W.Frag} {mg : Str → Option Value} {base : Heap}
theorem Fun.dataOk {x qual : Str} {st : Stmt} {f : Addr} {fd : FuncData} {N ps : List Str} {k : Nat} {F : List PyData → PyData → Prop} (F0 : Fun K x qual st f fd) (S : FnScope N ps (defScope st)) (len : ∀ ds d, F ds d → ds.length = ps.length)
    (hbody : ∀ (cdv : Value) (A : Around) (outer : List Env) (s : Shared) (H : Hp) (E : XK) (ds : List PyData) (d : PyData), Room k (A.deeper (envOfC qual (defScope st) s.heap.objs.size f cdv)) → F ds d →
      SVs (cxOf CX0 P w K mg base N qual (defScope st) f cdv A outer s H E).nox (startG N ds) (defBody st) (.ret d)) : FnOk P w K mg base CX0 (k + 1) f fd ps (spD K F) :=
  F0.ok S (fun vs H Q E ⟨ds, d, h1, h2, _⟩ => h1.length.trans (len ds d h2)) (fun cdv A outer s H vs Q E hr ⟨ds, d, h1, h2, q⟩ => ⟨_, hbody cdv A outer s H E ds d hr h2, SD.start h1, q⟩)
end
def F_law (ds : List PyData) (d : PyData) : Prop := ∃ ns : List Int, ds = [.list (ns.map PyData.int)] ∧ ns.length ≤ 63 ∧ d = .bool true
theorem walk_D {l : PySem.W.OpenLaw} {q : Program} {loose : List Str} {XP : (Str → Option Value) → Heap → Prop} {YP : World → Heap → Prop} {d : DefRec} {K : Params → PySem.W.Frag} (hn : l.most = some 63) (hdf : d.params.defaults = [])
    (hY : ∀ (w : World) (h : Heap), YP w h → (K w.params).In h)
    (F : ∀ (w : World) (mg : Str → Option Value) (fa : Addr) (h : Heap), (K w.params).In h → h.Ns mainGlobals mg → mg d.name = some (.ref fa) →
      ∃ fd : FuncData, (∀ (s : Shared) (u : Value), BindsTo s fd ⟨[u], []⟩ [("script", u)]) ∧ ∀ base : Heap, (K w.params).In base → base.Ns mainGlobals mg → FnOk l.prog w (K w.params) mg base CX0 20 fa fd ["script"] (spD (K w.params) F_law)) :
    PySem.W.WalkO q loose XP YP l.row.toRowW d [] (fun f vs => PySem.call f vs) :=
  L2.walk_of (n := 63) (k := 20) (x := "script") (CX := fun _ => CX0) (sp := fun w => spD (K w.params) F_law) hn (by decide) hdf ⟨rfl, by decide, by decide⟩ hY F
    (fun _ _ a ns hl _ hS => ⟨_, _, .cons (.lst hS (DVs.ints ns)) .nil, ⟨ns, rfl, hl, rfl⟩, fun v H' _ dv => dv.of_bl⟩) fun _ _ _ _ _ z => z
end L2
set_option maxRecDepth 100000
set_option maxHeartbeats 4000000
namespace L2
open PySem PySem.Spec PyProof.Rows
open Builtin.SmallTypes (nextOf)
section
variable {prog : Program} {w : World} {A : Around} {E : Value → Shared → Prop} {s : Shared}
structure ZAp (z a b i j t : Addr) : Prop where
  az : a ≠ z
  bz : b ≠ z
  iz : i ≠ z
  jz : j ≠ z
  ab : a ≠ b
  ai : a ≠ i
  aj : a ≠ j
  bi : b ≠ i
  bj : b ≠ j
  ij : i ≠ j
  tz : t ≠ z
  tb : t ≠ b
  ti : t ≠ i
  tj : t ≠ j
end
end L2
set_option maxRecDepth 100000
set_option maxHeartbeats 4000000
namespace L2
open PySem PySem.Spec PyProof.Rows
structure ZAp0 (z a b i j : Addr) : Prop where
  az : a ≠ z
  bz : b ≠ z
  iz : i ≠ z
  jz : j ≠ z
  ab : a ≠ b
  ai : a ≠ i
  aj : a ≠ j
  bi : b ≠ i
  bj : b ≠ j
  ij : i ≠ j
end L2
set_option maxRecDepth 100000
set_option maxHeartbeats 4000000
namespace L2
open PySem PySem.Spec PyProof.Rows
section
variable {X : Cx} {G : Gam} {a b : Expr} {pos p : Pos}
end
end L2
namespace PySem.SeqAt
open AutoSeq1 (wpAny_loadPart')
open MeetsSeq MeetsSeq2 MeetsSeq3 SeqRoads2
end PySem.SeqAt
set_option maxRecDepth 100000
set_option maxHeartbeats 4000000
namespace L2
open PySem PySem.Spec PyProof.Rows
theorem DVs.strs {K : PySem.W.Frag} {H : Hp} : ∀ (ss : List Str), DVs K H (ss.map V.str) (ss.map PyData.str)
  | [] => .nil
  | x :: r => .cons (.str x) (DVs.strs r)
section
variable {X : Cx} {G : Gam} {a b e : Expr} {pos p p2 : Pos} {d : PyData} {x : Str}
end
end L2
set_option maxRecDepth 100000
set_option maxHeartbeats 4000000
namespace L2
open PySem PySem.Spec PyProof.Rows
def spFL (K : PySem.W.Frag) (F : List PyData → List PyData → Prop) : Sp := fun vs H Q _ => ∃ ds ws, DVs K H vs ds ∧ F ds ws ∧ ∀ p us H', H p = none → Same H H' → H' p = some (.lst us) → DVs K H' us ws → Q (.ref p) H'
def FFn (P : Program) (w : World) (K : PySem.W.Frag) (mg : Str → Option Value) (base : Heap) (k : Nat) (x : Str) (F : List PyData → List PyData → Prop) : Prop :=
  ∃ f fd ps, FnOk P w K mg base CX0 k f fd ps (spFL K F) ∧ mg x = some (.ref f) ∧ PySem.W.keepIn K (.ref f) = true ∧ Binds K fd ps []
theorem FFn.data {P : Program} {w : World} {K : PySem.W.Frag} {mg : Str → Option Value} {base : Heap} {k : Nat} {x : Str} {F : List PyData → List PyData → Prop} (h : FFn P w K mg base k x F) : DFn P w K mg base k x (fun ds d => ∃ ws, F ds ws ∧ d = .list ws) := by
  obtain ⟨f, fd, ps, ok, r⟩ := h
  exact ⟨f, fd, ps, ok.imp fun vs H Q E ⟨ds, d, h1, ⟨ws, h2, e⟩, q⟩ => ⟨ds, ws, h1, h2, fun p us H' hp s' hl dv => q _ H' s' (by rw [e]; exact .lst (SqL.of hl) dv)⟩, r⟩
section
variable {X : Cx} {G : Gam} {c e : Expr} {es : List Expr} {pos pos' pos2 : Pos} {ws : List PyData} {sts A B : List Stmt}
end
section
variable {P : Program} {w : World} {K : PySem.W.Frag} {mg : Str → Option Value} {base : Heap}
end
section
variable {X : Cx} {G G2 : Gam} {e : Expr} {es : List Expr} {pos pos' pos2 : Pos} {ws ds : List PyData} {sts : List Stmt} {i : Nat} {x y : Str}
def tDF (K : PySem.W.Frag) (G : Gam) (ws : List PyData) : TE := fun σ H Q => SD K H σ G ∧ ∀ p us H', H p = none → Same H H' → H' p = some (.lst us) → DVs K H' us ws → Q (.ref p) H'
abbrev EVF (X : Cx) (G : Gam) (e : Expr) (ws : List PyData) : Prop := PE X e (tDF X.K G ws)
end
section
variable {X : Cx} {G : Gam} {a : Expr} {pos : Pos} {da : PyData}
end
end L2
set_option maxRecDepth 100000
set_option maxHeartbeats 4000000
namespace L2
open PySem PySem.Spec PyProof.Rows
end L2
set_option maxRecDepth 100000
set_option maxHeartbeats 4000000
namespace L2
open PySem PySem.Spec PyProof.Rows
def TabV (K : PySem.W.Frag) (H : Hp) : List (Key × V) → List (Str × PyData) → Prop
  | [], [] => True
  | kv :: r, q :: t => kv.1 = .inr q.1 ∧ DV K H kv.2 q.2 ∧ TabV K H r t
  | _, _ => False
mutual
def noK : PyData → Bool
  | .none => true
  | .bool _ => true
  | .int _ => true
  | .str _ => true
  | .tuple xs => noKs xs
  | .list xs => noKs xs
  | .dict _ => false
def noKs : List PyData → Bool
  | [] => true
  | x :: r => noK x && noKs r
end
theorem dict_ne {H : Hp} {p a : Addr} {kvs : List (Key × V)} {o : HO} (hp : H p = some (.dK kvs)) (e : H a = some o) (n : ∀ k, o ≠ .dK k) : a ≠ p := fun c => by subst c; rw [hp] at e; cases e; exact n _ rfl
mutual
theorem DV.noDict {K : PySem.W.Frag} {H H' : Hp} {p : Addr} {kvs : List (Key × V)} (hp : H p = some (.dK kvs)) (hH : ∀ a, a ≠ p → H' a = H a) : ∀ {v : V} {d : PyData}, DV K H v d → noK d = true → DV K H' v d
  | _, _, .non, _ => .non
  | _, _, .bl b, _ => .bl b
  | _, _, .int i, _ => .int i
  | _, _, .str x, _ => .str x
  | _, _, .tup (a := a) h t, f => by
    refine .tup ?_ (DVs.noDict hp hH t (by unfold noK at f; exact f))
    rcases h with (h | ⟨o, h⟩) | h
    · exact .inl (.inl (by rw [hH a (dict_ne hp h fun _ c => by cases c)]; exact h))
    · exact .inl (.inr ⟨o, by rw [hH a (dict_ne hp h fun _ c => by cases c)]; exact h⟩)
    · exact .inr h
  | _, _, .lst (a := a) h t, f => by
    refine .lst ?_ (DVs.noDict hp hH t (by unfold noK at f; exact f))
    rcases h with (h | ⟨o, h⟩) | h
    · exact .inl (.inl (by rw [hH a (dict_ne hp h fun _ c => by cases c)]; exact h))
    · exact .inl (.inr ⟨o, by rw [hH a (dict_ne hp h fun _ c => by cases c)]; exact h⟩)
    · exact .inr h
  | _, _, .dct h t, f => by unfold noK at f; cases f
  | _, _, .exc h, f => by unfold noK at f; cases f
  | _, _, .exr h h', f => by unfold noK at f; cases f
  | _, _, .obj h n t, f => by unfold noK at f; cases f
  | _, _, .dtt h, f => by unfold noK at f; cases f
theorem DVs.noDict {K : PySem.W.Frag} {H H' : Hp} {p : Addr} {kvs : List (Key × V)} (hp : H p = some (.dK kvs)) (hH : ∀ a, a ≠ p → H' a = H a) : ∀ {v : List V} {d : List PyData}, DVs K H v d → noKs d = true → DVs K H' v d
  | _, _, .nil, _ => .nil
  | _, _, .cons h t, f => by
    unfold noKs at f
    rw [Bool.and_eq_true] at f
    exact .cons (DV.noDict hp hH h f.1) (DVs.noDict hp hH t f.2)
end
theorem TabV.noDict {K : PySem.W.Frag} {H H' : Hp} {p : Addr} {kvs : List (Key × V)} (hp : H p = some (.dK kvs)) (hH : ∀ a, a ≠ p → H' a = H a) : ∀ {r : List (Key × V)} {t : List (Str × PyData)}, TabV K H r t → (t.all fun q => noK q.2) = true → TabV K H' r t
  | [], [], _, _ => True.intro
  | _ :: _, q :: t, ⟨a, b, c⟩, f => by
    rw [List.all_cons, Bool.and_eq_true] at f
    exact ⟨a, b.noDict hp hH f.1, TabV.noDict hp hH c f.2⟩
  | [], _ :: _, h, _ => h
  | _ :: _, [], h, _ => h
theorem TabV.mono {K : PySem.W.Frag} {H H' : Hp} (e : Same H H') : ∀ {r : List (Key × V)} {t : List (Str × PyData)}, TabV K H r t → TabV K H' r t
  | [], [], _ => True.intro
  | _ :: _, _ :: _, ⟨a, b, c⟩ => ⟨a, b.mono e, TabV.mono e c⟩
  | [], _ :: _, h => h
  | _ :: _, [], h => h
theorem TabV.length {K : PySem.W.Frag} {H : Hp} : ∀ {r : List (Key × V)} {t : List (Str × PyData)}, TabV K H r t → r.length = t.length
  | [], [], _ => rfl
  | _ :: _, _ :: _, ⟨_, _, c⟩ => by rw [List.length_cons, List.length_cons, TabV.length c]
  | [], _ :: _, h => h.elim
  | _ :: _, [], h => h.elim
theorem TabV.keys {K : PySem.W.Frag} {H : Hp} : ∀ {r : List (Key × V)} {t : List (Str × PyData)}, TabV K H r t → r.map (·.1) = t.map fun q => .inr q.1
  | [], [], _ => rfl
  | _ :: _, _ :: _, ⟨a, _, c⟩ => by rw [List.map_cons, List.map_cons, TabV.keys c, a]
  | [], _ :: _, h => h.elim
  | _ :: _, [], h => h.elim
def tabGet (t : List (Str × PyData)) (s : Str) : Option PyData := (t.find? fun q => q.1 == s).map (·.2)
theorem TabV.val {K : PySem.W.Frag} {H : Hp} {s : Str} : ∀ {r : List (Key × V)} {t : List (Str × PyData)}, TabV K H r t → (∃ v d, valV r (.inr s) = some v ∧ tabGet t s = some d ∧ DV K H v d) ∨ (valV r (.inr s) = none ∧ tabGet t s = none)
  | [], [], _ => .inr ⟨rfl, rfl⟩
  | kv :: r, q :: t, ⟨a, b, c⟩ => by
    by_cases h : q.1 = s
    · refine .inl ⟨kv.2, q.2, valV_pos (by rw [a, h]), ?_, b⟩
      unfold tabGet
      rw [List.find?_cons, beq_iff_eq.mpr h]
      rfl
    · rw [valV_neg (by rw [a]; exact fun c => h (by cases c; rfl))]
      have : tabGet (q :: t) s = tabGet t s := by
        unfold tabGet
        rw [List.find?_cons, beq_eq_false_iff_ne.mpr h]
      rw [this]
      exact TabV.val c
  | [], _ :: _, h => h.elim
  | _ :: _, [], h => h.elim
section
variable {X : Cx} {G : Gam} {e f : Expr} {pos p p2 apos : Pos} {d d0 : PyData} {x : Str} {keys : List (Option Expr)} {values : List Expr} {tab : List (Str × PyData)}
end
end L2
set_option maxRecDepth 100000
set_option maxHeartbeats 4000000
namespace L2
open PySem PySem.Spec PyProof.Rows
section
variable {X : Cx} {G : Gam} {o e : Expr} {pos p p2 : Pos} {d : PyData} {x : Str}
end
end L2
set_option maxRecDepth 100000
set_option maxHeartbeats 1000000
namespace L2
open PySem PySem.Spec PyProof.Rows
section
variable {X : Cx} {G : Gam} {H0 : Hp} {p : Addr} {i j : Nat} {Pre Mid Post : Gam → List PyData → Prop} {a b e c : Expr} {es : List Expr} {pos pos' pos2 : Pos} {x : Str} {ws xs ys : List PyData} {d : PyData}
theorem evf_lst (h : AV X G es ws) (hz : ws.length ≤ sizeLine) : EVF X G (.List es pos) ws :=
  (pe_lst h).imp fun σ H Q ⟨h, q⟩ => ⟨h, fun vs H1 s1 d1 => ⟨by rw [d1.length]; exact hz, fun p hp => q p vs _ (s1.free hp) (s1.trans (Same.new hp)) upd_same (d1.mono (Same.new hp))⟩⟩
theorem hrs_out {sts : List Stmt} (h : ∀ G ds, Pre G ds → SVs X (plusL G i ds) sts (.ret d)) : HRs X H0 p i Pre sts (fun z => z = d) := by
  intro pins s σ H D I ⟨⟨G, ds, a, o⟩, q⟩
  refine h G ds a pins s σ H D I ⟨o.sd, fun v H' s' dv => q d v H' rfl ?_ dv⟩
  obtain ⟨Hb, vs, rfl, hn, s0, _⟩ := o
  exact (s0.trans (Same.new hn)).trans s'
theorem svs_own {sts : List Stmt} (hN : X.N.Nodup) (hi : X.N[i]? = some x) (hx : Loc X.env.scope x) (hG : i < G.length) (h : ∀ H0 p, HRs X H0 p i (fun G' ds => G' = G.set i none ∧ ds = []) sts (fun z => z = d))
    (hs : swapsWith (.List [] pos2) (some (.Name x pos')) pos.line X.env = pure false := by rfl) (hf : X.fn x = true ∨ X.env.scope.names.lookup x = some .local := by first | exact .inl rfl | exact .inr rfl | assumption) :
    SVs X G (.Assign [.Name x pos'] (.List [] pos2) pos :: sts) (.ret d) :=
  (rvs_own hN hi hx hG h hs hf).imp fun D σ H ⟨h, q⟩ => ⟨h, fun d' v H' e s dv => by subst e; exact q v H' s dv⟩
def rCatF (K : PySem.W.Frag) (xs ys : List PyData) : R2 := fun x y H Q => DV K H x (.list xs) ∧ DV K H y (.list ys) ∧ ∀ p us H', H p = none → Same H H' → H' p = some (.lst us) → DVs K H' us (xs ++ ys) → Q (.ref p) H'
theorem op_catF (hz : xs.length + ys.length ≤ sizeLine) : OpR X (binaryOp .Add) (rCatF X.K xs ys) := by
  intro pins s σ H x y v u Q I rx ry ⟨h1, h2, q⟩
  obtain ⟨l, us, rfl, hl, d1⟩ := h1.of_lst
  obtain ⟨m, ws, rfl, hm, d2⟩ := h2.of_lst
  cases rx
  cases ry
  obtain ⟨its, r, pl, _⟩ := I.list hl
  obtain ⟨its2, r2, pl2, _⟩ := I.list hm
  obtain ⟨⟨cls, dd, data, sl⟩, ho, hc, n, hd⟩ := pl.isList
  obtain ⟨⟨cls2, dd2, data2, sl2⟩, ho2, hc2, n2, hd2⟩ := pl2.isList
  simp only at hc hd hc2 hd2
  subst hc hd hc2 hd2
  have hn : its.toArray.size + its2.toArray.size ≤ sizeLine := by rw [List.size_toArray, List.size_toArray, ← r.length, ← r2.length, d1.length, d2.length]; exact hz
  refine concat_meets ⟨_, ho, rfl⟩ ⟨_, ho2, rfl⟩ noFill_list_add seq_list_add PySem.F.slot_list_add PySem.F.entry_list_add (PySem.F.args_list_add_2 _ _) (list_addW l m its.toArray its2.toArray n n2 dd dd2 sl sl2 hn) ⟨ho, ho2, ?_⟩
  have ea : its.toArray ++ its2.toArray = (its ++ its2).toArray := by simp
  rw [ea]
  have hf := I.hok.fresh (Nat.le_refl _)
  refine ⟨.ref s.heap.objs.size, _, I.laid (t' := s.toks) (o := .lst (us ++ ws)) (fun b o e => Heap.get?_push_of_some _ e) (Nat.le_refl _) ⟨by rw [List.length_append, d1.length, d2.length]; exact hz, its ++ its2, 0, r.append r2, Heap.get?_push_size _ rfl⟩, rfl, q _ (us ++ ws) _ hf (Same.new hf) upd_same ((d1.append d2).mono (Same.new hf))⟩
theorem evf_cat (ha : EV X G a (.list xs)) (hb : EV X G b (.list ys)) (hz : xs.length + ys.length ≤ sizeLine) : EVF X G (.BinOp a .Add b pos) (xs ++ ys) :=
  (pe_op (op_catF hz) ha hb).imp fun σ H Q ⟨h, k⟩ => tOp_D h fun x y H' s' d1 d2 => ⟨d1, d2, fun p us H2 hp s2 hl dv => k p us H2 (s'.free hp) (s'.trans s2) hl dv⟩
end
end L2
set_option maxRecDepth 100000
set_option maxHeartbeats 1000000
namespace L2
open PySem PySem.Spec PyProof.Rows
def hasK (es : List (PyData × PyData)) (k : Key) : Bool := es.any fun q => PyData.eqv q.1 (keyD k)
theorem keyD_eqv (a b : Key) : PyData.eqv (keyD a) (keyD b) = decide (a = b) := by
  cases a <;> cases b <;> simp [keyD, PyData.eqv] <;> (rw [Bool.eq_iff_iff]; simp)
theorem DVk.has {K : PySem.W.Frag} {H : Hp} {k : Key} : ∀ {kvs : List (Key × V)} {es : List (PyData × PyData)}, DVk K H kvs es → (valV kvs k).isSome = hasK es k
  | _, _, .nil => rfl
  | _, _, .cons (k := a) (x := x) (xs := xs) (ds := ds) h t => by
    have ih := DVk.has (k := k) t
    rw [← valV_any] at ih ⊢
    unfold hasK at ih ⊢
    rw [List.any_cons, List.any_cons, ih, keyD_eqv]
theorem DVk.length {K : PySem.W.Frag} {H : Hp} : ∀ {kvs : List (Key × V)} {es : List (PyData × PyData)}, DVk K H kvs es → kvs.length = es.length
  | _, _, .nil => rfl
  | _, _, .cons _ t => by rw [List.length_cons, List.length_cons, DVk.length t]
def putD (es : List (PyData × PyData)) (k : Key) (d : PyData) : List (PyData × PyData) := if hasK es k = true then es.map (fun q => if PyData.eqv q.1 (keyD k) = true then (q.1, d) else q) else es ++ [(keyD k, d)]
theorem DVk.app {K : PySem.W.Frag} {H : Hp} {k : Key} {x : V} {d : PyData} (hx : DV K H x d) : ∀ {kvs : List (Key × V)} {es : List (PyData × PyData)}, DVk K H kvs es → DVk K H (kvs ++ [(k, x)]) (es ++ [(keyD k, d)])
  | _, _, .nil => .cons hx .nil
  | _, _, .cons h t => .cons h (DVk.app hx t)
theorem DVk.repl {K : PySem.W.Frag} {H : Hp} {k : Key} {x : V} {d : PyData} (hx : DV K H x d) : ∀ {kvs : List (Key × V)} {es : List (PyData × PyData)}, DVk K H kvs es → DVk K H (kvs.map fun kv => if kv.1 = k then (kv.1, x) else kv) (es.map fun q => if PyData.eqv q.1 (keyD k) = true then (q.1, d) else q)
  | _, _, .nil => .nil
  | _, _, .cons (k := a) h t => by
    rw [List.map_cons, List.map_cons]
    by_cases e : a = k
    · rw [if_pos e, if_pos (by rw [keyD_eqv]; exact decide_eq_true e)]
      exact .cons hx (DVk.repl hx t)
    · rw [if_neg e, if_neg (by rw [keyD_eqv, decide_eq_false e]; simp)]
      exact .cons h (DVk.repl hx t)
theorem DVk.put {K : PySem.W.Frag} {H : Hp} {k : Key} {x : V} {d : PyData} {kvs : List (Key × V)} {es : List (PyData × PyData)} (h : DVk K H kvs es) (hx : DV K H x d) : DVk K H (putK kvs k x) (putD es k d) := by
  unfold putK putD
  rw [valV_any, h.has]
  split
  · exact h.repl hx
  · exact h.app hx
section
variable {X : Cx} {G : Gam} {H0 : Hp} {p : Addr} {i j : Nat} {a b e c : Expr} {pos pos' pos2 : Pos} {x : Str} {d : PyData} {es : List (PyData × PyData)}
theorem key_of_D {K : PySem.W.Frag} {H : Hp} {v : V} {k : Key} (h : DV K H v (keyD k)) : v = kV k := by
  cases k with
  | inl i => exact DV.of_int h
  | inr s => exact DV.of_str h
end
mutual
theorem DVk.noDict {K : PySem.W.Frag} {H H' : Hp} {p : Addr} {kvs : List (Key × V)} (hp : H p = some (.dK kvs)) (hH : ∀ a, a ≠ p → H' a = H a) : ∀ {v : List (Key × V)} {d : List (PyData × PyData)}, DVk K H v d → (d.all fun q => noK q.2) = true → DVk K H' v d
  | _, _, .nil, _ => .nil
  | _, _, .cons h t, f => by
    rw [List.all_cons, Bool.and_eq_true] at f
    exact .cons (DV.noDict hp hH h f.1) (DVk.noDict hp hH t f.2)
end
abbrev plusD (G : Gam) (i : Nat) (es : List (PyData × PyData)) : Gam := G.set i (some (.dict es))
def ODt (K : PySem.W.Frag) (H0 : Hp) (p : Addr) (i : Nat) (G : Gam) (es : List (PyData × PyData)) (σ : St) (H : Hp) : Prop :=
  ∃ Hb kvs, H = upd Hb p (.dK kvs) ∧ Hb p = none ∧ Same H0 Hb ∧ SD K Hb σ G ∧ σ[i]? = some (some (.ref p)) ∧ DVk K Hb kvs es
theorem ODt.sd {K : PySem.W.Frag} {H0 : Hp} {p : Addr} {i : Nat} {G : Gam} {es : List (PyData × PyData)} {σ : St} {H : Hp} (h : ODt K H0 p i G es σ H) : SD K H σ (plusD G i es) := by
  obtain ⟨Hb, kvs, rfl, hn, s0, hσ, hi, dv⟩ := h
  have h1 := hσ.mono (Same.new (o := .dK kvs) hn)
  have h2 := h1.set (i := i) (v := .ref p) (d := .dict es) (.dct upd_same (dv.mono (Same.new hn)))
  have e : σ.set i (some (V.ref p)) = σ := by
    refine List.ext_getElem? fun j => ?_
    by_cases hj : i = j
    · subst hj
      rw [List.getElem?_set_self (List.getElem?_eq_some_iff.mp hi).1, hi]
    · rw [List.getElem?_set_ne hj]
  rw [e] at h2
  exact h2
theorem upd_deleO {H : Hp} {p : Addr} {o : HO} (h : H p = some o) : upd (dele H p) p o = H := by
  funext b
  by_cases hb : b = p
  · subst hb; rw [upd_same, h]
  · rw [upd_ne hb, dele_ne hb]
theorem ODt.step {K : PySem.W.Frag} {H0 : Hp} {p : Addr} {i : Nat} {G : Gam} {es : List (PyData × PyData)} {σ : St} {H H' : Hp} (h : ODt K H0 p i G es σ H) (s : Same H H') :
    ODt K H0 p i G es σ H' ∧ ∀ v d, DV K H' v d → noK d = true → ∃ Hb kvs, H' = upd Hb p (.dK kvs) ∧ Hb p = none ∧ Same H0 Hb ∧ SD K Hb σ G ∧ σ[i]? = some (some (.ref p)) ∧ DVk K Hb kvs es ∧ DV K Hb v d := by
  obtain ⟨Hb, kvs, rfl, hn, s0, hσ, hi, dv⟩ := h
  have hp : H' p = some (.dK kvs) := s p _ upd_same
  have sb : Same Hb (dele H' p) := fun b o e => by
    have hb : b ≠ p := ne_of_none e hn
    rw [dele_ne hb]
    exact s b o (by rw [upd_ne hb]; exact e)
  refine ⟨⟨dele H' p, kvs, (upd_deleO hp).symm, dele_same, s0.trans sb, hσ.mono sb, hi, dv.mono sb⟩, fun v d q f => ⟨dele H' p, kvs, (upd_deleO hp).symm, dele_same, s0.trans sb, hσ.mono sb, hi, dv.mono sb, DV.noDict hp (fun a ha => dele_ne ha) q f⟩⟩
def tK (K : PySem.W.Frag) (H0 : Hp) (p : Addr) (i : Nat) (Pre Post : Gam → List (PyData × PyData) → Prop) : TS := fun D σ H => (∃ G es, Pre G es ∧ ODt K H0 p i G es σ H) ∧ ∀ σ' H' G es, Post G es → ODt K H0 p i G es σ' H' → D.nx σ' H'
abbrev KT1 (X : Cx) (H0 : Hp) (p : Addr) (i : Nat) (Pre : Gam → List (PyData × PyData) → Prop) (st : Stmt) (Post : Gam → List (PyData × PyData) → Prop) : Prop := PS X st (tK X.K H0 p i Pre Post)
abbrev KTs (X : Cx) (H0 : Hp) (p : Addr) (i : Nat) (Pre : Gam → List (PyData × PyData) → Prop) (sts : List Stmt) (Post : Gam → List (PyData × PyData) → Prop) : Prop := PSs X sts (tK X.K H0 p i Pre Post)
section
variable {X : Cx} {H0 : Hp} {p : Addr} {i j : Nat} {Pre Mid Post PreA PreB : Gam → List (PyData × PyData) → Prop} {e c : Expr} {pos pos' pos2 : Pos} {x : Str}
theorem kts_nil (h : ∀ G ds, Pre G ds → Post G ds) : KTs X H0 p i Pre [] Post := pss_nil.imp fun D σ H ⟨⟨G, ds, a, b⟩, q⟩ => q σ H G ds (h G ds a) b
theorem kts_cons {st : Stmt} {sts : List Stmt} (h1 : KT1 X H0 p i Pre st Mid) (h2 : KTs X H0 p i Mid sts Post) : KTs X H0 p i Pre (st :: sts) Post :=
  (pss_cons h1 h2).imp fun D σ H ⟨a, q⟩ => ⟨a, fun σ' H' G ds m o => ⟨⟨G, ds, m, o⟩, q⟩⟩
theorem kt_put {f : Expr} (hu : X.A.units + 1 < cLine) (h : ∀ G es, Pre G es → ∃ k d, EV X (plusD G i es) e (keyD k) ∧ EV X (plusD G i es) f d ∧ noK d = true ∧ es.length < sizeLine ∧ Post G (putD es k d)) (hv : PE X (.Name x pos2) (tVar i))
    (hs : swapsWith f (some (.Subscript (.Name x pos2) e pos')) pos.line X.env = pure false := by rfl) : KT1 X H0 p i Pre (.Assign [.Subscript (.Name x pos2) e pos'] f pos) Post := by
  intro pins s σ H D I ⟨⟨G, es, a, o⟩, q⟩
  obtain ⟨k, d, ek, ef, nd, hz, po⟩ := h G es a
  refine ps_dput hu hv ek ef hs pins s σ H D I ⟨o.sd, fun v H1 s1 d1 => ?_⟩
  have o1 := (o.step s1).1
  refine ⟨.ref p, (by obtain ⟨_, _, _, _, _, _, hi, _⟩ := o1; exact hi), o1.sd, fun y H2 s2 d2 => ?_⟩
  obtain ⟨Hb, kvs, e1, e2, e3, e4, e5, e6, e7⟩ := (o1.step s2).2 v d (d1.mono s2) nd
  subst e1
  refine ⟨p, _, rfl, by rw [key_of_D d2]; exact DPut.k upd_same (by rw [e6.length]; exact hz), ?_⟩
  have hup : upd (upd Hb p (.dK kvs)) p (.dK (putK kvs k v)) = upd Hb p (.dK (putK kvs k v)) := upd_upd
  rw [hup]
  exact q _ _ G _ po ⟨Hb, putK kvs k v, rfl, e2, e3, e4, e5, e6.put e7⟩
def tKR (K : PySem.W.Frag) (H0 : Hp) (p : Addr) (i : Nat) (Pre : Gam → List (PyData × PyData) → Prop) (d : PyData) : TS := fun D σ H => (∃ G es, Pre G es ∧ ODt K H0 p i G es σ H) ∧ ∀ v H', Same H0 H' → DV K H' v d → D.rt v H'
abbrev KRs (X : Cx) (H0 : Hp) (p : Addr) (i : Nat) (Pre : Gam → List (PyData × PyData) → Prop) (sts : List Stmt) (d : PyData) : Prop := PSs X sts (tKR X.K H0 p i Pre d)
variable {G : Gam} {d : PyData}
theorem krs_cons {st : Stmt} {sts : List Stmt} (h1 : KT1 X H0 p i Pre st Mid) (h2 : KRs X H0 p i Mid sts d) : KRs X H0 p i Pre (st :: sts) d :=
  (pss_cons h1 h2).imp fun D σ H ⟨a, q⟩ => ⟨a, fun σ' H' G ds m o => ⟨⟨G, ds, m, o⟩, q⟩⟩
theorem krs_out {sts : List Stmt} (h : ∀ G es, Pre G es → SVs X (plusD G i es) sts (.ret d)) : KRs X H0 p i Pre sts d := by
  intro pins s σ H D I ⟨⟨G, es, a, o⟩, q⟩
  refine h G es a pins s σ H D I ⟨o.sd, fun v H' s' dv => q v H' ?_ dv⟩
  obtain ⟨Hb, vs, rfl, hn, s0, _⟩ := o
  exact (s0.trans (Same.new hn)).trans s'
end
end L2
set_option maxRecDepth 100000
set_option maxHeartbeats 1000000
namespace L2
open PySem PySem.Spec PyProof.Rows
section
variable {X : Cx} {G : Gam} {H0 : Hp} {p : Addr} {i j : Nat} {Pre Mid Post : Gam → List PyData → Prop} {a b e c tg : Expr} {es : List Expr} {pos pos' pos2 : Pos} {x : Str} {ws xs ys : List PyData} {d : PyData} {R : PyData → Prop}
def bindN : List Nat → List PyData → Gam → Gam
  | i :: is, d :: ds, G => bindN is ds (G.set i (some d))
  | _, _, G => G
def gNames : List Nat → TGs
  | [] => gNil
  | i :: is => gCons (gName i) (gNames is)
theorem cd_min {i j : Int} (hc : X.calm = true) : CD X (.builtin "min") [.int i, .int j] (.int (if j < i then j else i)) := (call_min2 hc).imp fun xs H Q ⟨h, q⟩ => by
  obtain ⟨v, w, rfl, dv, dw⟩ := h.two
  exact ⟨i, j, by rw [dv.of_int, dw.of_int], q _ H (Same.refl H) (.int _)⟩
end
end L2
set_option maxRecDepth 100000
set_option maxHeartbeats 1000000
namespace L2
open PySem PySem.Spec PyProof.Rows
def TrAll {α : Type} (N : Nat) (R : α → Prop) : PySem.W.KasT α → Prop
  | .ret a => R a
  | .ask i j k => i < N ∧ j < N ∧ ∀ b, TrAll N R (k b)
theorem TrAll.imp {α : Type} {N : Nat} {R T : α → Prop} (m : ∀ a, R a → T a) : ∀ {t : PySem.W.KasT α}, TrAll N R t → TrAll N T t
  | .ret a, h => m a h
  | .ask i j k, ⟨a, b, h⟩ => ⟨a, b, fun c => TrAll.imp m (h c)⟩
theorem TrAll.bind {α β : Type} {N : Nat} {R : α → Prop} {T : β → Prop} {f : α → PySem.W.KasT β} (hf : ∀ a, R a → TrAll N T (f a)) : ∀ {t : PySem.W.KasT α}, TrAll N R t → TrAll N T (t.bind f)
  | .ret a, h => hf a h
  | .ask i j k, ⟨a, b, h⟩ => ⟨a, b, fun c => TrAll.bind hf (h c)⟩
def PmN (N : Nat) (p : Array Nat) : Prop := p.Perm (List.toArray (List.range N))
theorem PmN.lt {N : Nat} {p : Array Nat} (h : PmN N p) (hN : 0 < N) (i : Nat) : p.getD i 0 < N := by
  by_cases hi : i < p.size
  · have e : p.getD i 0 = p[i] := by simp [Array.getD, hi]
    rw [e]
    have : p[i] ∈ List.range N := by
      have := (Array.perm_iff_toList_perm.mp h).mem_iff (a := p[i])
      simpa using this.mp (by simp)
    exact List.mem_range.mp this
  · have e : p.getD i 0 = 0 := by simp [Array.getD, hi]
    rw [e]
    exact hN
theorem PmN.rev {N : Nat} {p : Array Nat} (h : PmN N p) (i j : Nat) : PmN N (PySem.W.kas_rev p i j) := (mirror_perm _ _ _ _).trans h
section
variable {N : Nat} (hN : 0 < N)
include hN
end
section
variable {prog : Program} {w : World} {A : Around} {E : Value → Shared → Prop} {s : Shared}
end
end L2
set_option maxRecDepth 100000
set_option maxHeartbeats 1000000
namespace L2
open PySem PySem.Spec PyProof.Rows
theorem DVk.ints {K : PySem.W.Frag} {H : Hp} : ∀ {kvs : List (Key × V)} {es : List (PyData × PyData)}, DVk K H kvs es → (∀ q ∈ es, ∃ i j : Int, q = (.int i, .int j)) → ∀ {j : Nat} {q : Key × V}, kvs[j]? = some q → ∃ i v : Int, q = (.inl i, .int v) ∧ ((PyData.int i, PyData.int v) ∈ es)
  | _, _, .nil, _, _, _, h => by simp at h
  | _, _, .cons (k := k) (x := x) (d := d) (ds := ds) dv t, he, 0, q, h => by
    simp at h
    subst h
    obtain ⟨i, v, e⟩ := he _ (List.mem_cons_self ..)
    have e1 := (Prod.mk.inj e).1
    have e2 := (Prod.mk.inj e).2
    cases k with
    | inr s => cases e1
    | inl z =>
      cases e1
      subst e2
      exact ⟨i, v, by rw [dv.of_int], List.mem_cons_self ..⟩
  | _, _, .cons dv t, he, j + 1, q, h => by
    obtain ⟨i, v, h1, h2⟩ := DVk.ints t (fun q hq => he q (List.mem_cons_of_mem _ hq)) (j := j) (q := q) (by simpa using h)
    exact ⟨i, v, h1, List.mem_cons_of_mem _ h2⟩
section
variable {X : Cx} {G : Gam} {o : Expr} {pos p apos cpos : Pos} {es : List (PyData × PyData)}
end
end L2
set_option maxRecDepth 100000
set_option maxHeartbeats 1000000
namespace L2
open PySem PySem.Spec PyProof.Rows
section
variable {X : Cx} {H0 : Hp} {p : Addr} {i j : Nat} {Pre Mid Post PreA PreB : Gam → List (PyData × PyData) → Prop} {e c : Expr} {es : List Expr} {pos pos' pos2 p1 : Pos} {x : Str} {G : Gam} {d : PyData} {R : PyData → Prop} {Rs : List PyData → Prop} {ds : List PyData}
end
end L2
set_option maxRecDepth 100000
set_option maxHeartbeats 1000000
namespace L2
open PySem PySem.Spec PyProof.Rows
section
variable {X : Cx} {G : Gam} {a b e : Expr} {pos p p2 : Pos} {d : PyData} {x : Str}
end
end L2
set_option maxRecDepth 100000
set_option maxHeartbeats 1000000
namespace L2
open PySem PySem.Spec PyProof.Rows
end L2
set_option maxRecDepth 100000
set_option maxHeartbeats 1000000
namespace L2
open PySem PySem.Spec PyProof.Rows
section
variable {X : Cx} {G : Gam} {a : Expr} {pos p : Pos}
end
end L2
set_option maxRecDepth 100000
set_option maxHeartbeats 1000000
namespace L2
open PySem PySem.Spec PyProof.Rows
section
variable {P : Program} {w : World} {K : PySem.W.Frag} {mg : Str → Option Value} {base : Heap}
end
section
variable {X : Cx} {G : Gam} {e : Expr} {pos pos' pos2 : Pos} {x f : Str} {d : PyData}
def Flds (K : PySem.W.Frag) (H : Hp) (fs : List (Str × V)) (fd : List (Str × PyData)) : Prop := ∀ q ∈ fd, ∃ v, fs.lookup q.1 = some v ∧ DV K H v q.2
structure OI (K : PySem.W.Frag) (a C dx : Addr) (H0 : Hp) (n : Nat) (fd : List (Str × PyData)) (σ : St) (G : Gam) (fs : List (Str × V)) (H : Hp) : Prop where
  slot : σ[0]? = some (some (.ref a))
  obj : H a = some (.ins C dx fs)
  sd : SD K H σ G
  keep : ∀ b, b ≠ a → ∀ o, H0 b = some o → H b = some o
  flds : Flds K H fs fd
  few : fs.length ≤ n
theorem OI.step {K : PySem.W.Frag} {a C dx : Addr} {H0 : Hp} {n : Nat} {fd : List (Str × PyData)} {σ : St} {fs : List (Str × V)} {H H' : Hp} (o : OI K a C dx H0 n fd σ G fs H) (s : Same H H') : OI K a C dx H0 n fd σ G fs H' :=
  ⟨o.slot, s _ _ o.obj, o.sd.mono s, fun b hb u e => s _ _ (o.keep b hb u e), fun q hq => let ⟨v, h1, h2⟩ := o.flds q hq; ⟨v, h1, h2.mono s⟩, o.few⟩
end
end L2
set_option maxRecDepth 100000
set_option maxHeartbeats 1000000
namespace L2
open PySem PySem.Spec PyProof.Rows
section
variable {X : Cx}
end
end L2
namespace L2
open PySem PySem.Spec PyProof.Rows
section
variable {X : Cx} {G : Gam} {i : Nat} {x : Str} {es : List Expr} {pos pos' pos2 : Pos} {sts : List Stmt} {o : Out} {ds : List PyData}
end
end L2
set_option maxRecDepth 100000
set_option maxHeartbeats 1000000
namespace L2
open PySem PySem.Spec PyProof.Rows
section
variable {X : Cx} {G G2 : Gam} {H0 : Hp} {p : Addr} {i j : Nat} {Pre Mid Post : Gam → List PyData → Prop} {a b e c iter : Expr} {es : List Expr} {pos pos' pos2 pos3 : Pos} {x : Str} {ws xs ys ds : List PyData} {d : PyData} {sts A B : List Stmt}
end
end L2
set_option maxRecDepth 100000
set_option maxHeartbeats 1000000
namespace L2
open PySem PySem.Spec PyProof.Rows
section
variable {X : Cx} {G : Gam} {elt target iter : Expr} {ifs : List Expr} {scope : Scope} {pos : Pos} {N : List Str} {ix : List Nat} {ds : List PyData}
end
theorem SqT.dele {K : PySem.W.Frag} {H : Hp} {p a : Addr} {ws xs : List V} (hp : H p = some (.lst ws)) (h : SqT K H a xs) : SqT K (L2.dele H p) a xs := by
  rcases h with (h | ⟨o, h⟩) | h
  · have : a ≠ p := fun z => by subst z; rw [hp] at h; cases h
    exact .inl (.inl (by rw [dele_ne this]; exact h))
  · have : a ≠ p := fun z => by subst z; rw [hp] at h; cases h
    exact .inl (.inr ⟨o, by rw [dele_ne this]; exact h⟩)
  · exact .inr h
theorem bindN_to2 {K : PySem.W.Frag} {Hb H : Hp} : ∀ (is : List Nat) (ds : List PyData) (vs : List V) (σ : St) (G : Gam) (Q : St → Hp → Prop), is.length = ds.length → SD K Hb σ G → DVs K Hb vs ds → (∀ σ2, SD K Hb σ2 (bindN is ds G) → (∀ m, m ∉ is → σ2[m]? = σ[m]?) → Q σ2 H) → gNames is vs σ H Q
  | [], [], _, σ, G, Q, _, h, .nil, q => ⟨rfl, q σ h fun _ _ => rfl⟩
  | i :: is, d :: ds, _, σ, G, Q, hl, h, .cons (x := v) (xs := vs) dv t, q => ⟨v, vs, rfl, bindN_to2 is ds vs _ _ Q (Nat.succ.inj hl) (h.set dv) t fun σ2 h2 hm => q σ2 h2 fun m hm2 => by
      rw [hm m fun z => hm2 (List.mem_cons_of_mem _ z), List.getElem?_set_ne fun z => hm2 (by rw [z]; exact List.mem_cons_self ..)]⟩
section
variable {X : Cx} {H0 : Hp} {p : Addr} {i : Nat} {Pre Post : Gam → List PyData → Prop} {e : Expr} {pos pos' pos2 : Pos} {x : Str}
end
end L2
set_option maxRecDepth 100000
set_option maxHeartbeats 1000000
namespace L2
open PySem PySem.Spec PyProof.Rows
section
variable {X : Cx} {G : Gam} {a : Expr} {pos p : Pos}
end
section
variable {K : PySem.W.Frag} {H : Hp} {t : Addr} {ys : List V} {ds : List PyData}
end
end L2
set_option maxRecDepth 100000
set_option maxHeartbeats 1000000
namespace L2
open PySem PySem.Spec PyProof.Rows
abbrev base2 (H : Hp) (p q : Addr) : Hp := dele (dele H p) q
theorem base2_ne {H : Hp} {p q b : Addr} (h1 : b ≠ p) (h2 : b ≠ q) : base2 H p q b = H b := by show dele (dele H p) q b = _; rw [dele_ne h2, dele_ne h1]
theorem base2_some {H : Hp} {p q b : Addr} {o : HO} (h : base2 H p q b = some o) : b ≠ p ∧ b ≠ q ∧ H b = some o := by
  have hq : b ≠ q := fun c => by subst c; rw [show base2 H p b b = none from dele_same] at h; cases h
  have hp : b ≠ p := fun c => by
    subst c
    rw [show base2 H b q b = dele H b b from dele_ne hq, dele_same] at h
    cases h
  exact ⟨hp, hq, by rw [base2_ne hp hq] at h; exact h⟩
theorem base2_sub {H : Hp} {p q : Addr} : Same (base2 H p q) H := fun b o e => (base2_some e).2.2
theorem base2_mono {H H' : Hp} {p q : Addr} (s : Same H H') : Same (base2 H p q) (base2 H' p q) := fun b o e => by
  obtain ⟨h1, h2, h3⟩ := base2_some e
  rw [base2_ne h1 h2]
  exact s b o h3
section
variable {K : PySem.W.Frag} {H : Hp} {p q : Addr} {ws us : List V}
theorem DV.base2 {v : V} {d : PyData} (hp : H p = some (.lst ws)) (hq : H q = some (.lst us)) (ne : p ≠ q) (h : DV K H v d) (n : noL d = true) : DV K (L2.base2 H p q) v d := DV.dele (ws := us) (by rw [dele_ne (Ne.symm ne)]; exact hq) (DV.dele hp h n) n
theorem DVs.base2 {v : List V} {d : List PyData} (hp : H p = some (.lst ws)) (hq : H q = some (.lst us)) (ne : p ≠ q) (h : DVs K H v d) (n : noLs d = true) : DVs K (L2.base2 H p q) v d := DVs.dele (ws := us) (by rw [dele_ne (Ne.symm ne)]; exact hq) (DVs.dele hp h n) n
theorem SqT.base2 {t : Addr} {ys : List V} (hp : H p = some (.lst ws)) (hq : H q = some (.lst us)) (ne : p ≠ q) (h : SqT K H t ys) : SqT K (L2.base2 H p q) t ys := SqT.dele (ws := us) (by rw [dele_ne (Ne.symm ne)]; exact hq) (SqT.dele hp h)
end
structure OS2 (K : PySem.W.Frag) (H0 : Hp) (p : Addr) (i : Nat) (q : Addr) (j : Nat) (G : Gam) (ds es : List PyData) (σ : St) (H : Hp) : Prop where
  ne : p ≠ q
  ex : ∃ vs us, H p = some (.lst vs) ∧ H q = some (.lst us) ∧ DVs K (base2 H p q) vs ds ∧ DVs K (base2 H p q) us es
  old : Same H0 (base2 H p q)
  sdb : SD K (base2 H p q) σ G
  hi : σ[i]? = some (some (.ref p))
  hj : σ[j]? = some (some (.ref q))
abbrev plus2 (G : Gam) (i : Nat) (ds : List PyData) (j : Nat) (es : List PyData) : Gam := (G.set i (some (.list ds))).set j (some (.list es))
theorem set_self {α : Type} {l : List α} {i : Nat} {a : α} (h : l[i]? = some a) : l.set i a = l := by
  refine List.ext_getElem? fun j => ?_
  by_cases hj : i = j
  · subst hj
    rw [List.getElem?_set_self (List.getElem?_eq_some_iff.mp h).1, h]
  · rw [List.getElem?_set_ne hj]
section
variable {K : PySem.W.Frag} {H0 H H' : Hp} {p q : Addr} {i j : Nat} {G : Gam} {ds es : List PyData} {σ : St}
theorem OS2.sd (o : OS2 K H0 p i q j G ds es σ H) : SD K H σ (plus2 G i ds j es) := by
  obtain ⟨ne, ⟨vs, us, h1, h2, d1, d2⟩, old, sd, hi, hj⟩ := o
  have a := ((sd.mono base2_sub).set (i := i) (v := .ref p) (d := .list ds) (.lst (SqL.of h1) (d1.mono base2_sub))).set (i := j) (v := .ref q) (d := .list es) (.lst (SqL.of h2) (d2.mono base2_sub))
  rw [set_self hi, set_self hj] at a
  exact a
theorem OS2.step (o : OS2 K H0 p i q j G ds es σ H) (s : Same H H') : OS2 K H0 p i q j G ds es σ H' := by
  obtain ⟨ne, ⟨vs, us, h1, h2, d1, d2⟩, old, sd, hi, hj⟩ := o
  exact ⟨ne, ⟨vs, us, s _ _ h1, s _ _ h2, d1.mono (base2_mono s), d2.mono (base2_mono s)⟩, old.trans (base2_mono s), sd.mono (base2_mono s), hi, hj⟩
theorem OS2.new {v : V} {d : PyData} (o : OS2 K H0 p i q j G ds es σ H) (h : DV K H v d) (n : noL d = true) : DV K (base2 H p q) v d := by
  obtain ⟨ne, ⟨vs, us, h1, h2, _⟩, _⟩ := o
  exact DV.base2 h1 h2 ne h n
end
abbrev P2 := Gam → List PyData → List PyData → Prop
section
variable {X : Cx} {H0 : Hp} {p q : Addr} {i j m : Nat} {Pre Mid Post PreA PreB : P2} {a e b c : Expr} {pos pos' pos2 pos3 : Pos} {x y : Str} {G : Gam} {d : PyData} {R : PyData → Prop}
structure BindB (K : PySem.W.Frag) (is : List Nat) (g : TG) (B : PyData → Gam → Gam) (d : PyData) : Prop where
  to : ∀ (v : V) (σ : St) (Hb H : Hp) (G : Gam) (Q : St → Hp → Prop), Same Hb H → SD K Hb σ G → DV K Hb v d → (∀ σ2, SD K Hb σ2 (B d G) → (∀ m, m ∉ is → σ2[m]? = σ[m]?) → Q σ2 H) → g v σ H Q
end
end L2
set_option maxRecDepth 100000
set_option maxHeartbeats 1000000
namespace L2
open PySem PySem.Spec PyProof.Rows
section
variable {X : Cx} {G : Gam} {H0 : Hp} {p : Addr} {i : Nat} {Pre Mid : Gam → List PyData → Prop} {a b e f k1 k2 v1 v2 : Expr} {pos pos' pos2 apos cpos : Pos} {x : Str} {ws ws0 ws1 ws2 xs : List PyData} {sts : List Stmt}
end
end L2
set_option maxRecDepth 100000
set_option maxHeartbeats 1000000
namespace L2
open PySem PySem.Spec PyProof.Rows
section
variable {X : Cx} {H0 : Hp} {p : Addr} {i j : Nat} {Pre Post : Gam → List PyData → Prop} {pos : Pos}
end
end L2
set_option maxRecDepth 100000
set_option maxHeartbeats 3200000
namespace L2
open PySem
def Rise (xs : Array Nat) : Prop := xs.toList.Pairwise (· < ·)
theorem Rise.lt {xs : Array Nat} (R : Rise xs) {a b : Nat} (ha : a < b) (hb : b < xs.size) : xs[a]'(Nat.lt_trans ha hb) < xs[b] := by
  have := List.pairwise_iff_getElem.mp R a b (by simpa using Nat.lt_trans ha hb) (by simpa using hb) ha
  simpa using this
def TblOk (b : Bool) (t : SetTable) : Prop := t.led = b ∧ Rise t.place
end L2
namespace L2
open PySem
structure SetG (prog : Program) (w : World) (h : Heap) (a : Addr) (S : Int → Bool) (n : Nat) (o : Obj) (es : Array (Int × Value)) (ep : Nat) (t : SetTable) : Prop where
  at_ : h.get? a = some o
  ex : o.ExactSet
  dat : o.data = .set es ep t
  els : ElemsOf (intKind prog w) es.toList
  mem : ∀ k, S k = true ↔ ∃ e ∈ es.toList, (intKind prog w).is k e.2 = true
  few : es.size < scanBound
  fit : t.fits es.size = true
  len : es.size = n
  tbl : TblOk (!w.params.followText "set-order") t
section
variable {prog : Program} {w : World} {A : Around} {E : Value → Shared → Prop} {s : Shared} {a : Addr} {S : Int → Bool} {n : Nat}
end
end L2
namespace L2
open PySem PyProof.Rows
section
variable {prog : Program} {w : World} {A : Around} {E : Value → Shared → Prop}
end
end L2
namespace L2
open PySem PyProof.Rows
section
variable {prog : Program} {w : World} {A : Around} {E : Value → Shared → Prop} {s : Shared}
end
end L2
namespace L2
open PySem PyProof.Rows
def SetIt (h : Heap) (I a : Addr) (fst : Value) (i n ep : Nat) : Prop := ∃ o, h.get? I = some o ∧ o.cls = .type "set_iterator" ∧ o.data = .fields #[fst, .int i 0, .ref a, .int n 0, .int ep 0]
section
variable {prog : Program} {w : World} {A : Around} {E : Value → Shared → Prop} {s : Shared} {I a : Addr} {i n ep : Nat} {o : Obj} {es : Array (Int × Value)} {t : SetTable} {S : Int → Bool} {fst : Value}
theorem SetIt.ty (it : SetIt s.heap I a fst i n ep) : s.TypeIs (.ref I) "set_iterator" := let ⟨o, e, c, _⟩ := it; ⟨o, e, c⟩
def Nxt (prog : Program) (w : World) (o : Obj) (a : Addr) (slot i ep : Nat) (r : Option (Value × Nat)) : Prop := ∀ (A : Around) (E : Value → Shared → Prop) (s : Shared) (Q : Option (Value × Nat) → Shared → Prop), s.heap.get? a = some o → Q r s → wpAny (model prog w) A (setNext a slot i ep) Q E s
end
end L2
namespace L2
open PySem PyProof.Rows
section
variable {prog : Program} {w : World} {A : Around} {E : Value → Shared → Prop} {s : Shared} {I a : Addr} {i n ep : Nat} {o : Obj} {es : Array (Int × Value)} {t : SetTable} {S : Int → Bool}
end
end L2
namespace L2
open PySem PyProof.Rows
section
variable {prog : Program} {w : World} {A : Around} {E : Value → Shared → Prop} {s : Shared} {I a : Addr} {i n ep : Nat} {o : Obj} {es : Array (Int × Value)} {t : SetTable} {S : Int → Bool}
theorem SetIt.at {h h' : Heap} {fst : Value} (it : SetIt h I a fst i n ep) (e : ∀ o, h.get? I = some o → h'.get? I = some o) : SetIt h' I a fst i n ep := let ⟨o, g, r⟩ := it; ⟨o, e o g, r⟩
end
end L2
namespace L2
open PySem PyProof.Rows
section
variable {prog : Program} {w : World} {A : Around} {E : Value → Shared → Prop} {s : Shared} {a : Addr} {i n ep : Nat} {o : Obj} {es : Array (Int × Value)} {t : SetTable} {S : Int → Bool}
end
end L2
set_option maxRecDepth 100000
set_option maxHeartbeats 1000000
namespace L2
open PySem PySem.Spec PyProof.Rows
def insI (x : Int) : List Int → List Int
  | [] => [x]
  | a :: r => if x < a then x :: a :: r else if x = a then a :: r else a :: insI x r
def srtI (l : List Int) : List Int := l.foldr insI []
theorem insI_mem (x y : Int) : ∀ l : List Int, y ∈ insI x l ↔ y = x ∨ y ∈ l
  | [] => by simp [insI]
  | a :: r => by
    unfold insI
    split
    · simp
    · split
      · rename_i h
        subst h
        simp
      · rw [List.mem_cons, insI_mem x y r, List.mem_cons]
        constructor
        · rintro (h | h | h) <;> simp [h]
        · rintro (h | h | h) <;> simp [h]
theorem insI_rise (x : Int) : ∀ l : List Int, l.Pairwise (· < ·) → (insI x l).Pairwise (· < ·)
  | [], _ => by simp [insI]
  | a :: r, h => by
    obtain ⟨h1, h2⟩ := List.pairwise_cons.mp h
    unfold insI
    split
    · rename_i hx
      exact List.pairwise_cons.mpr ⟨fun b hb => by
        rcases List.mem_cons.mp hb with rfl | hb
        · exact hx
        · exact Int.lt_trans hx (h1 b hb), h⟩
    · split
      · exact h
      · rename_i h3 h4
        refine List.pairwise_cons.mpr ⟨fun b hb => ?_, insI_rise x r h2⟩
        rcases (insI_mem x b r).mp hb with rfl | hb
        · omega
        · exact h1 b hb
theorem srtI_mem (y : Int) : ∀ l : List Int, y ∈ srtI l ↔ y ∈ l
  | [] => by simp [srtI]
  | a :: r => by
    show y ∈ insI a (srtI r) ↔ _
    rw [insI_mem, srtI_mem y r, List.mem_cons]
theorem srtI_rise : ∀ l : List Int, (srtI l).Pairwise (· < ·)
  | [] => by simp [srtI]
  | a :: r => insI_rise a _ (srtI_rise r)
theorem rise_unique : ∀ {l m : List Int}, l.Pairwise (· < ·) → m.Pairwise (· < ·) → (∀ x, x ∈ l ↔ x ∈ m) → l = m
  | [], [], _, _, _ => rfl
  | [], b :: m, _, _, h => absurd ((h b).mpr (List.mem_cons_self ..)) (by simp)
  | a :: l, [], _, _, h => absurd ((h a).mp (List.mem_cons_self ..)) (by simp)
  | a :: l, b :: m, h1, h2, h => by
    obtain ⟨p1, p2⟩ := List.pairwise_cons.mp h1
    obtain ⟨q1, q2⟩ := List.pairwise_cons.mp h2
    have e : a = b := by
      rcases List.mem_cons.mp ((h a).mp (List.mem_cons_self ..)) with e | ha
      · exact e
      · rcases List.mem_cons.mp ((h b).mpr (List.mem_cons_self ..)) with e | hb
        · exact e.symm
        · have := q1 a ha
          have := p1 b hb
          omega
    subst e
    congr 1
    refine rise_unique p2 q2 fun x => ⟨fun hx => ?_, fun hx => ?_⟩
    · rcases List.mem_cons.mp ((h x).mp (List.mem_cons_of_mem _ hx)) with e | z
      · have := p1 x hx; omega
      · exact z
    · rcases List.mem_cons.mp ((h x).mpr (List.mem_cons_of_mem _ hx)) with e | z
      · have := q1 x hx; omega
      · exact z
theorem nodup_perm : ∀ {l m : List Int}, l.Nodup → (∀ x ∈ l, x ∈ m) → m.length ≤ l.length → l.Perm m
  | [], m, _, _, h => by
    have : m = [] := List.eq_nil_of_length_eq_zero (by simpa using h)
    rw [this]
  | a :: l, m, hn, hs, hl => by
    obtain ⟨h1, h2⟩ := List.nodup_cons.mp hn
    have ha := hs a (List.mem_cons_self ..)
    have pe := List.perm_cons_erase ha
    refine (List.Perm.cons a (nodup_perm h2 (fun x hx => ?_) ?_)).trans pe.symm
    · have := pe.mem_iff.mp (hs x (List.mem_cons_of_mem _ hx))
      rcases List.mem_cons.mp this with e | z
      · subst e; exact absurd hx h1
      · exact z
    · have := pe.length_eq
      simp only [List.length_cons] at this hl
      omega
end L2
set_option maxRecDepth 100000
set_option maxHeartbeats 1000000
namespace L2
open PySem PySem.Spec PyProof.Rows
theorem sorted_at {h : Heap} {a : Addr} {vs : List Value} {out : Array Value} (e : h.get? a = some (seqObj "list" vs.toArray 0)) : (∃ c, (sortedHeap h a vs out).get? a = some (seqObj "list" out.toList.toArray c)) ∧ ∀ b, b ≠ a → ∀ o, h.get? b = some o → (sortedHeap h a vs out).get? b = some o := by
  obtain ⟨c1, e1⟩ : ∃ c, (h.update a (Obj.mapSeq fun _ => #[])).get? a = some (seqObj "list" #[] c) := ⟨_, get?_update_seq e fun _ => #[]⟩
  have e2 := Heap.get?_push_of_some (seqObj "list" #[] 0) (Heap.get?_push_of_some (seqObj "tuple" vs.toArray 0) e1)
  refine ⟨⟨_, by rw [Array.toArray_toList]; exact get?_update_seq e2 fun _ => out⟩, fun b hb o q => ?_⟩
  unfold sortedHeap
  rw [Heap.get?_update_other _ _ (Ne.symm hb)]
  exact Heap.get?_push_of_some _ (Heap.get?_push_of_some _ (by rw [Heap.get?_update_other _ _ (Ne.symm hb)]; exact q))
theorem ints_of {K : PySem.W.Frag} {H : Hp} : ∀ {vs : List V} {us : List Value} {l : List Int}, DVs K H vs (l.map PyData.int) → Vals vs us → IntsAre us l
  | _, _, [], .nil, .nil => .nil
  | _, _, a :: l, .cons d t, .cons r rs => by
    have e := d.of_int
    subst e
    obtain ⟨tk, rfl⟩ := r
    exact .cons a tk (ints_of t rs)
theorem ints_back {K : PySem.W.Frag} {H : Hp} : ∀ {us : List Value} {l : List Int}, IntsAre us l → Vals (l.map V.int) us ∧ DVs K H (l.map V.int) (l.map PyData.int)
  | _, _, .nil => ⟨.nil, .nil⟩
  | _, _, .cons n t hr => by
    obtain ⟨h1, h2⟩ := ints_back (K := K) (H := H) hr
    exact ⟨.cons ⟨t, rfl⟩ h1, .cons (.int n) h2⟩
theorem perm_rise {l : List Int} (h : l.Pairwise (· ≤ ·)) (n : l.Nodup) : l.Pairwise (· < ·) := by
  induction l with
  | nil => exact .nil
  | cons a r ih =>
    obtain ⟨h1, h2⟩ := List.pairwise_cons.mp h
    obtain ⟨n1, n2⟩ := List.nodup_cons.mp n
    exact List.pairwise_cons.mpr ⟨fun b hb => by
      have := h1 b hb
      have : a ≠ b := fun z => n1 (z ▸ hb)
      omega, ih h2 n2⟩
section
variable {X : Cx} {G : Gam} {e : Expr} {pos p pos2 p2 : Pos} {l : List Int}
end
end L2
set_option maxRecDepth 100000
set_option maxHeartbeats 1000000
namespace L2
open PySem PySem.Spec PyProof.Rows
theorem evf_ev {X : Cx} {G : Gam} {e : Expr} {ws : List PyData} (h : EVF X G e ws) : EV X G e (.list ws) := h.imp fun σ H Q ⟨h, q⟩ => ⟨h, fun p us H' _ s' hl dv => q _ _ s' (.lst (SqL.of hl) dv)⟩
theorem evf_listL {X : Cx} {G : Gam} {a : Expr} {ds : List PyData} {pos pos2 : Pos} (ha : EV X G a (.list ds)) (hg : Gl X "list") (hm : X.mg "list" = none) (he : starEach [a] X.env = (false, eval a X.env) :: starEach [] X.env := by rfl) (hpl : (backTo pos (starEach [] X.env)).any (·.1) = false := by rfl) : EVF X G (.Call (.Name "list" pos2) [a] [] pos) ds :=
  (pe_callTy call_list_of hg hm (by decide +kernel) (av_cons ha av_nil he) (by decide) (by decide) he hpl).imp fun σ H Q ⟨h, q⟩ => ⟨h, fun vs H1 s1 d1 => by
    obtain ⟨v, rfl, dv⟩ := d1.one
    obtain ⟨l, us, rfl, hl, d1⟩ := dv.of_lst
    exact ⟨l, us, rfl, .inl hl, fun p hp => q p us _ (s1.free hp) (s1.trans (Same.new hp)) upd_same (d1.mono (Same.new hp))⟩⟩
structure OSh (K : PySem.W.Frag) (H0 : Hp) (p t : Addr) (i : Nat) (G : Gam) (ds es : List PyData) (σ : St) (H : Hp) : Prop where
  ne : p ≠ t
  ex : ∃ vs u, H p = some (.lst vs) ∧ H t = some (.lst [.ref p, u]) ∧ DVs K (base2 H p t) vs ds ∧ DV K (base2 H p t) u (.list es)
  old : Same H0 (base2 H p t)
  sdb : SD K (base2 H p t) σ G
  hi : σ[i]? = some (some (.ref t))
abbrev plusN (G : Gam) (i : Nat) (ds es : List PyData) : Gam := G.set i (some (.list [.list ds, .list es]))
section
variable {K : PySem.W.Frag} {H0 H H' : Hp} {p t : Addr} {i : Nat} {G : Gam} {ds es : List PyData} {σ : St}
theorem OSh.sd (o : OSh K H0 p t i G ds es σ H) : SD K H σ (plusN G i ds es) := by
  obtain ⟨ne, ⟨vs, u, h1, h2, d1, d2⟩, old, sd, hi⟩ := o
  have a := (sd.mono base2_sub).set (i := i) (v := .ref t) (d := .list [.list ds, .list es]) (.lst (SqL.of h2) (.cons (.lst (SqL.of h1) (d1.mono base2_sub)) (.cons (d2.mono base2_sub) .nil)))
  rw [set_self hi] at a
  exact a
theorem OSh.step (o : OSh K H0 p t i G ds es σ H) (s : Same H H') : OSh K H0 p t i G ds es σ H' := by
  obtain ⟨ne, ⟨vs, u, h1, h2, d1, d2⟩, old, sd, hi⟩ := o
  exact ⟨ne, ⟨vs, u, s _ _ h1, s _ _ h2, d1.mono (base2_mono s), d2.mono (base2_mono s)⟩, old.trans (base2_mono s), sd.mono (base2_mono s), hi⟩
theorem OSh.new {v : V} {d : PyData} (o : OSh K H0 p t i G ds es σ H) (h : DV K H v d) (n : noL d = true) : DV K (base2 H p t) v d := by
  obtain ⟨ne, ⟨vs, u, h1, h2, _⟩, _⟩ := o
  exact DV.base2 h1 h2 ne h n
end
section
variable {X : Cx} {H0 : Hp} {p t : Addr} {i j m : Nat} {Pre Mid Post : P2} {a e b c : Expr} {pos pos' pos2 pos3 : Pos} {x y : Str} {G : Gam} {d : PyData}
end
end L2
set_option maxRecDepth 100000
set_option maxHeartbeats 4000000
namespace L2
open PySem PyProof.Rows
section
variable {prog : Program} {w : World} {A : Around} {E : Value → Shared → Prop} {s : Shared} {a : Addr} {its : Array Value} {n : Nat} {sl : Array (Option Value)}
theorem lk_tuple_keys : typeLookup (.type "tuple") "keys" = pure none := by rw [typeLookup_type, builtinLookup_eq_fast]; kernel_rfl
theorem lk_list_keys : typeLookup (.type "list") "keys" = pure none := by rw [typeLookup_type, builtinLookup_eq_fast]; kernel_rfl
theorem nokeys_tuple {Q : Option Value → Shared → Prop} (hx : s.heap.get? a = some { cls := .type "tuple", dict := none, data := .seq its n, slots := sl }) (hA : A.handled = none) (h : ∀ h' tk, (∀ b u, s.heap.get? b = some u → h'.get? b = some u) → Q none { s with heap := h', toks := tk }) :
    wpAny (model prog w) A (getAttr? (.ref a) "keys") Q E s := by
  obtain ⟨hp, g, d, tk, os⟩ := s
  have hT : ∀ tk', (⟨hp, g, d, tk', os⟩ : Shared).TypeIs (.ref a) "tuple" := fun _ => ⟨_, hx, rfl⟩
  have f1 := sub_AttributeError
  have f3 := PySem.F.slot_tuple_getattribute.lookup
  have f4 := PySem.F.slot_tuple_getattribute.bind (.ref a)
  have f5 := am_tuple_getattr_none
  unfold getAttr? getAttrBy? getAttrBy
  repeat any_goals (first | assumption | exact hT _ | wp_step)
  refine codeAny_call_builtin PySem.F.slot_tuple_getattribute.plain am_entry_tuple_getattribute (PySem.F.slot_tuple_getattribute.check _ _ _ _ _ _ _ _ (hT _) (PySem.F.args_tuple_getattribute_2 _ _) ?_)
  have f6 := lk_tuple_keys
  repeat any_goals (first | assumption | exact hT _ | wp_step)
  refine wpAny_raiseAttrError (by simp [hA]) (fun h' tk' e nx => ?_) (attrMsg_fits (by decide +kernel) (by rw [PySem.ofString_length, sizeLine_eq]; decide))
  obtain ⟨t', u', he⟩ := nx.there
  dsimp only
  unfold getattributeRaised
  repeat any_goals (first | assumption | wp_step)
  exact h _ _ nx.keeps
theorem nokeys_list {Q : Option Value → Shared → Prop} (hx : s.heap.get? a = some { cls := .type "list", dict := none, data := .seq its n, slots := sl }) (hA : A.handled = none) (h : ∀ h' tk, (∀ b u, s.heap.get? b = some u → h'.get? b = some u) → Q none { s with heap := h', toks := tk }) :
    wpAny (model prog w) A (getAttr? (.ref a) "keys") Q E s := by
  obtain ⟨hp, g, d, tk, os⟩ := s
  have hT : ∀ tk', (⟨hp, g, d, tk', os⟩ : Shared).TypeIs (.ref a) "list" := fun _ => ⟨_, hx, rfl⟩
  have f1 := sub_AttributeError
  have f3 := PySem.F.slot_list_getattribute.lookup
  have f4 := PySem.F.slot_list_getattribute.bind (.ref a)
  have f5 := am_list_getattr_none
  unfold getAttr? getAttrBy? getAttrBy
  repeat any_goals (first | assumption | exact hT _ | wp_step)
  refine codeAny_call_builtin PySem.F.slot_list_getattribute.plain am_entry_list_getattribute (PySem.F.slot_list_getattribute.check _ _ _ _ _ _ _ _ (hT _) (PySem.F.args_list_getattribute_2 _ _) ?_)
  have f6 := lk_list_keys
  repeat any_goals (first | assumption | exact hT _ | wp_step)
  refine wpAny_raiseAttrError (by simp [hA]) (fun h' tk' e nx => ?_) (attrMsg_fits (by decide +kernel) (by rw [PySem.ofString_length, sizeLine_eq]; decide))
  obtain ⟨t', u', he⟩ := nx.there
  dsimp only
  unfold getattributeRaised
  repeat any_goals (first | assumption | wp_step)
  exact h _ _ nx.keeps
end
end L2
namespace L2
open PySem PyProof.Rows
namespace F9
theorem entry_dloop : entryFor table "dict.update.loop" = some Builtin.«dict.update.loop» := entryFor_of_tree (by kernel_rfl)
theorem plain_dloop : plainId "dict.update.loop" = true := by decide +kernel
end F9
section
variable {prog : Program} {w : World} {A : Around} {K : Type} [DecidableEq K] {knd : KeyKind prog w K} {I D : Addr} {fp wr : List Addr} {n : Nat} {P : Nat → Value → Prop} {St : Nat → Shared → Prop} {R : Result → Shared → Prop}
theorem stored_le {K : Type} [DecidableEq K] (k : K) (v : Value) : ∀ l : List (K × Value), (stored l k v).length ≤ l.length + 1 := by
  intro l
  unfold stored
  split
  · simp
  · simp
def PairAt (knd : KeyKind prog w K) (h : Heap) (p : Addr) (q : K × Value) : Prop := ∃ key m sl, knd.is q.1 key = true ∧ h.get? p = some { cls := .type "tuple", dict := none, data := .seq #[key, q.2] m, slots := sl }
theorem loop_D (W : WalksS prog w A.in1 I fp wr (fun x y => y = x) n P St) (hD : D ∉ fp) (ps : Nat → Addr) (kv : List (K × Value)) (hkv : kv.length = n) (hn : n ≤ sizeLine) (hP : ∀ i v, P i v → v = .ref (ps i)) (hps : ∀ j, j < n → ps j ∉ D :: wr) :
    ∀ (k i : Nat) (s : Shared), n - i = k → i ≤ n → St i s → (∀ j (h : j < n), PairAt knd s.heap (ps j) (kv[j]'(by omega))) → s.heap.DictOf knd D (merged [] (kv.take i)) → (merged [] (kv.take i)).length ≤ i →
      (∀ s', Moved (D :: wr) (fun x y => y = x) s s' → s'.heap.DictOf knd D (merged [] kv) → R (.ok (.ret .none)) s') →
      codeAny (model prog w) A (.builtin "dict.update.loop" ⟨[.ref D, .ref I, .int (i : Int) 0, .none], []⟩) R s := by
  have hDw : D ∉ wr := fun z => hD (W.sub _ z)
  have hsub : ∀ b ∈ wr, b ∈ D :: wr := fun b hb => List.mem_cons_of_mem _ hb
  intro k
  induction k with
  | zero =>
    intro i s hk hi st hp hd _ hR
    have e : i = n := by omega
    subst e
    refine codeAny_builtin F9.entry_dloop ?_
    rw [Around.under_plainId F9.plain_dloop _]
    show wpAny _ A.in1 (pyNext (.ref I) >>= _) _ _ s
    refine wpAny_bind (W.done s _ _ st fun s' mv => ?_)
    show wpAny _ A.in1 (Builtin.Dict.addKeywords D [] >>= _) _ _ s'
    refine wpAny_bind (wpAny_pure (wpAny_pure (hR s' (mv.mono hsub) ?_)))
    rw [List.take_of_length_le (by omega)] at hd
    obtain ⟨o, es, ep, ho, r⟩ := hd
    exact ⟨o, es, ep, mv.heap D _ hDw ho, r⟩
  | succ k ih =>
    intro i s hk hi st hp hd hl hR
    have hlt : i < n := by omega
    refine codeAny_builtin F9.entry_dloop ?_
    rw [Around.under_plainId F9.plain_dloop _]
    show wpAny _ A.in1 (pyNext (.ref I) >>= _) _ _ s
    refine wpAny_bind (W.item i s _ _ hlt st fun v s' hv st' mv => ?_)
    have ev := hP i v hv
    subst ev
    obtain ⟨key, m, sl, hkey, hpa⟩ := hp i hlt
    have hpa' : s'.heap.get? (ps i) = some { cls := .type "tuple", dict := none, data := .seq #[key, (kv[i]'(by omega)).2] m, slots := sl } := mv.heap _ _ (fun z => hps i hlt (hsub _ z)) hpa
    have hd' : s'.heap.DictOf knd D (merged [] (kv.take i)) := by
      obtain ⟨o, es, ep, ho, r⟩ := hd
      exact ⟨o, es, ep, mv.heap D _ hDw ho, r⟩
    dsimp only
    refine wpAny_bind (wpAny_holding ?_)
    refine wpAny_bind (wpAny_tryCatch ?_)
    unfold Builtin.Dict.pairItems
    refine wpAny_bind (wpAny_typeOf (T := "tuple") ⟨_, hpa', rfl⟩ ?_)
    rw [if_pos (by decide)]
    refine wpAny_bind (wpAny_seqItems hpa' rfl (wpAny_pure ?_))
    show wpAny _ A.in1 (holding [key, (kv[i]'(by omega)).2] (dictSet D key (kv[i]'(by omega)).2)) _ _ _
    refine wpAny_holding (wpAny_dictSet_pairs hkey hd' (fun h2 hd2 sb => ?_) (by omega))
    have ekv : kv[i]? = some (kv[i]'(by omega)) := List.getElem?_eq_getElem (by omega)
    have e2 : stored (merged [] (kv.take i)) (kv[i]'(by omega)).1 (kv[i]'(by omega)).2 = merged [] (kv.take (i + 1)) := (merged_take_succ [] kv i _ ekv).symm
    rw [e2] at hd2
    have keep : ∀ b o, b ≠ D → s'.heap.get? b = some o → h2.get? b = some o := fun b o hb e => by rw [sb.2 b hb]; exact e
    refine wpAny_pure ⟨plainId_quiet F9.plain_dloop _, ih (i + 1) { s' with heap := h2, toks := s'.toks + 1 } (by omega) hlt (W.frame _ s' _ _ st' (Nat.le_succ _) fun b hb o e => keep b o (fun z => hD (z ▸ hb)) e) (fun j hj => ?_) hd2 ?_ fun s3 mv3 hd3 => hR s3 (Moved.trans (fun _ _ _ h1 h2 => h2.trans h1) ((mv.mono hsub).then_heap (Nat.le_succ _) fun b o hb e => ?_) mv3) hd3⟩
    · obtain ⟨key', m', sl', hk', hp'⟩ := hp j hj
      exact ⟨key', m', sl', hk', keep _ _ (fun z => hps j hj (z ▸ List.mem_cons_self ..)) (mv.heap _ _ (fun z => hps j hj (hsub _ z)) hp')⟩
    · rw [← e2]
      exact Nat.le_trans (stored_le _ _ _) (Nat.succ_le_succ hl)
    · exact keep b o (fun z => hb (z ▸ List.mem_cons_self ..)) e
end
end L2
namespace L2
open PySem PyProof.Rows
section
variable {prog : Program} {w : World} {A : Around} {E : Value → Shared → Prop} {s : Shared} {K : Type} [DecidableEq K] {knd : KeyKind prog w K} {l : Addr} {its : Array Value}
theorem dict_pairs {ty : String} {n0 : Nat} {sl : Array (Option Value)} (hty : ty = "tuple" ∨ ty = "list") {Q : Value → Shared → Prop} (hh : A.handled = none) (hx : s.heap.get? l = some { cls := .type ty, dict := none, data := .seq its n0, slots := sl }) (ps : Nat → Addr) (kv : List (K × Value)) (hkv : kv.length = its.size) (hn : its.size ≤ sizeLine) (hP : ∀ i v, its[i]? = some v → v = Value.ref (ps i)) (hpr : ∀ j (h : j < its.size), PairAt knd s.heap (ps j) (kv[j]'(by omega)))
    (h : ∀ h' tk, h'.DictOf knd s.heap.objs.size (merged [] kv) → (∀ b o, s.heap.get? b = some o → h'.get? b = some o) → Q (.ref s.heap.objs.size) { s with heap := h', toks := tk }) :
    wpAny (model prog w) A (call (.type "dict") [.ref l]) Q E s := by
  have ll : l < s.heap.objs.size := Heap.lt_size hx
  refine callType_codes (Q₁ := fun ob s₁ => ob = .ref s.heap.objs.size ∧ s₁ = { s with heap := s.heap.push { cls := .type "dict", data := .dict #[] } }) PySem.F.kt_called_dict (PySem.F.kt_typeCall_dict_1 _) PySem.F.entry_dict_init (kt_code_dict_new _ ⟨rfl, rfl⟩) ?_
  rintro ob s₁ ⟨rfl, rfl⟩
  have nd : (s.heap.push { cls := .type "dict", data := .dict #[] }).DictOf knd s.heap.objs.size [] := Heap.DictOf.new s.heap
  have hx1 : (s.heap.push { cls := .type "dict", data := .dict #[] }).get? l = some { cls := .type ty, dict := none, data := .seq its n0, slots := sl } := Heap.get?_push_of_some _ hx
  have zs : (s.heap.push { cls := .type "dict", data := .dict #[] }).objs.size = s.heap.objs.size + 1 := Heap.size_push ..
  refine ⟨nd.typeIs, PySem.F.args_dict_init_2 _ _, ?_⟩
  unfold Builtin.«dict.__init__»
  refine wpAny_bind ?_
  unfold Builtin.Dict.selfAndRest
  refine wpAny_bind (wpAny_notOrdered_dict nd.typeIs ?_)
  show wpAny _ _ (pure (s.heap.objs.size, [Value.ref l])) _ _ _
  refine wpAny_pure ?_
  show wpAny _ _ (Builtin.Dict.updateFrom "dict.__init__" s.heap.objs.size (.ref l) [] .none) _ _ _
  unfold Builtin.Dict.updateFrom
  refine wpAny_bind (wpAny_typeOf (T := ty) ⟨_, hx1, rfl⟩ ?_)
  rw [if_pos (by rcases hty with rfl | rfl <;> decide)]
  have hh2 : A.in1.in1.handled = none := by simp [hh]
  have lps : ∀ j, j < its.size → ps j < s.heap.objs.size := fun j hj => by
    obtain ⟨_, _, _, _, e⟩ := hpr j hj
    exact Heap.lt_size e
  have go : ∀ (h1 : Heap) (tk1 : Nat) (I : Addr) (St : Nat → Shared → Prop), (∀ b u, (s.heap.push { cls := .type "dict", data := .dict #[] }).get? b = some u → h1.get? b = some u) → s.heap.objs.size < I → WalksS prog w A.in1.in1 I [I, l] [I] (fun x y => y = x) its.size (fun i v => its[i]? = some v) St → St 0 { s with heap := h1, toks := tk1 } →
      codeAny (model prog w) A.in1 (.builtin "dict.update.loop" ⟨[.ref s.heap.objs.size, .ref I, rawInt 0, .none], []⟩) (wants (fun r s₂ => r = .none ∧ Q (.ref s.heap.objs.size) s₂) E) { s with heap := h1, toks := tk1 } := by
    intro h1 tk1 I St kp hI W st
    have hD : s.heap.objs.size ∉ [I, l] := by
      simp only [List.mem_cons, List.not_mem_nil, or_false, not_or]
      exact ⟨Nat.ne_of_lt hI, Nat.ne_of_gt ll⟩
    refine loop_D (knd := knd) W hD ps kv hkv hn hP (fun j hj => ?_) its.size 0 _ rfl (Nat.zero_le _) st (fun j hj => ?_) ?_ (Nat.zero_le _) fun s3 mv hd3 => ?_
    · have := lps j hj
      simp only [List.mem_cons, List.not_mem_nil, or_false, not_or]
      exact ⟨Nat.ne_of_lt this, Nat.ne_of_lt (Nat.lt_trans this hI)⟩
    · obtain ⟨key, m, sl', hk, e⟩ := hpr j hj
      exact ⟨key, m, sl', hk, kp _ _ (Heap.get?_push_of_some _ e)⟩
    · obtain ⟨o, es, ep, ho, r⟩ := nd
      exact ⟨o, es, ep, kp _ _ ho, r⟩
    · refine ⟨rfl, ?_⟩
      have e3 : s3 = { s with heap := s3.heap, toks := s3.toks } := by
        have e1 := mv.gens
        have e2 := mv.drawn
        have e4 := mv.os
        obtain ⟨h3, g3, d3, t3, o3⟩ := s3
        simp only at e1 e2 e4
        subst e1 e2 e4
        rfl
      rw [e3]
      refine h s3.heap s3.toks hd3 fun b o e => mv.heap b o ?_ (kp b o (Heap.get?_push_of_some _ e))
      have hb := Heap.lt_size e
      simp only [List.mem_cons, List.not_mem_nil, or_false, not_or]
      exact ⟨Nat.ne_of_lt hb, Nat.ne_of_lt (Nat.lt_trans hb hI)⟩
  rcases hty with rfl | rfl
  · refine wpAny_bind (nokeys_tuple hx1 hh2 fun h1 tk1 kp => ?_)
    have hx2 := kp _ _ hx1
    have hi2 : h1.IsTuple l its := ⟨_, hx2, rfl, n0, rfl⟩
    have z1 : s.heap.objs.size < h1.objs.size := by
      obtain ⟨o, es, ep, ho, _⟩ := nd
      exact Heap.lt_size (kp _ _ ho)
    simp only [Option.isNone_none, ↓reduceIte]
    refine wpAny_bind (wpAny_rule (wpAny_bind (wpAny_pyIter_tuple hi2 ?_)))
    have hli : l ≠ h1.objs.size := Nat.ne_of_lt (Nat.lt_trans ll z1)
    refine wpAny_pure ⟨plainId_quiet F9.plain_dloop _, go _ _ h1.objs.size _ (fun b u e => Heap.get?_push_of_some _ (kp b u e)) z1 (Walks.tuple hh2 h1.objs.size l hli its).toS ⟨⟨_, Heap.get?_push_size _ rfl, rfl, rfl⟩, hi2.push _⟩⟩
  · refine wpAny_bind (nokeys_list hx1 hh2 fun h1 tk1 kp => ?_)
    have hx2 := kp _ _ hx1
    have hi2 : h1.IsList l its := ⟨_, hx2, rfl, n0, rfl⟩
    have z1 : s.heap.objs.size < h1.objs.size := by
      obtain ⟨o, es, ep, ho, _⟩ := nd
      exact Heap.lt_size (kp _ _ ho)
    simp only [Option.isNone_none, ↓reduceIte]
    refine wpAny_bind (wpAny_rule (wpAny_bind (wpAny_pyIter_list hi2 ?_)))
    have hli : l ≠ h1.objs.size := Nat.ne_of_lt (Nat.lt_trans ll z1)
    refine wpAny_pure ⟨plainId_quiet F9.plain_dloop _, go _ _ h1.objs.size _ (fun b u e => Heap.get?_push_of_some _ (kp b u e)) z1 (Walks.list hh2 h1.objs.size l hli its).toS ⟨⟨_, Heap.get?_push_size _ rfl, rfl, rfl⟩, hi2.push _⟩⟩
end
end L2
set_option maxRecDepth 100000
set_option maxHeartbeats 1000000
namespace L2
open PySem PySem.Spec PyProof.Rows
theorem sort_ints {X : Cx} {pins : List (Addr × Obj)} {σ : St} {H : Hp} {s2 : Shared} {us : List Value} {ks : List Int} {A : Around} {Q : VK} {E : Value → Shared → Prop} (I2 : Inv X pins σ H s2) (iz : IntsAre us ks) (nd : ks.Nodup) (h64 : us.length < 64)
    (q : ∀ p ws H', H p = none → Same H H' → H' p = some (.lst ws) → DVs X.K H' ws ((srtI ks).map PyData.int) → Q (.ref p) H') :
    wpAny (model X.prog X.w) A (do
      let l ← newList us
      let _ ← holding [l] (call (.builtin "list.sort") [l] [])
      ret l) (fun fin s' => ∃ r, fin = .done (.ret r) ∧ EP X pins σ Q r s') E s2 := by
  refine wpAny_bind (wpAny_newList ?_ (by rw [sizeLine_eq]; omega))
  have hoL : (s2.heap.push { cls := .type "list", data := .seq us.toArray }).get? s2.heap.objs.size = some (seqObj "list" us.toArray 0) := Heap.get?_push_size _ rfl
  refine wpAny_bind (wpAny_holding (wpAny_call_entry slot_list_sort ⟨_, hoL, rfl⟩ entry_list_sort (list_sort_tree hoL iz h64 fun out ns' a1 a2 a3 => ⟨_, rfl, ?_⟩) (args_list_sort _)))
  refine wpAny_pure ⟨_, rfl, ?_⟩
  have en : ns' = srtI ks := rise_unique (perm_rise a3 (a2.nodup_iff.mpr nd)) (srtI_rise ks) fun x => by rw [a2.mem_iff, srtI_mem]
  subst en
  obtain ⟨vb, db⟩ := ints_back (K := X.K) (H := upd H s2.heap.objs.size (.lst ((srtI ks).map V.int))) a1
  obtain ⟨⟨c1, f1⟩, f2⟩ := sorted_at (out := out) hoL
  have hB : H s2.heap.objs.size = none := I2.hok.fresh (Nat.le_refl _)
  have hl : (srtI ks).length < 64 := by rw [a2.length_eq, ← IntsAre.length iz]; exact h64
  have I3 := I2.laid (a := s2.heap.objs.size) (o := .lst ((srtI ks).map V.int)) (t' := s2.toks) (fun b u e => f2 b (Nat.ne_of_lt (Heap.lt_size e)) u (Heap.get?_push_of_some _ e)) (Nat.le_refl _) ⟨by rw [List.length_map, sizeLine_eq]; omega, out.toList, c1, vb, f1⟩
  exact ⟨.ref s2.heap.objs.size, _, I3, rfl, q _ _ _ hB (Same.new hB) upd_same db⟩
def intOf : PyData → Int
  | .int i => i
  | _ => 0
theorem keys_at {K : PySem.W.Frag} {H : Hp} : ∀ {kvs : List (Key × V)} {es : List (PyData × PyData)} {vs : List (Key × Value)}, DVk K H kvs es → (∀ q ∈ es, ∃ i, q.1 = .int i) → KV kvs vs → vs.map (·.1) = es.map fun q => .inl (intOf q.1)
  | _, _, _, .nil, _, .nil => rfl
  | _, _, _, .cons (k := k) h t, he, .cons r rs => by
    obtain ⟨i, e⟩ := he _ (List.mem_cons_self ..)
    rw [List.map_cons, List.map_cons, keys_at t (fun q hq => he q (List.mem_cons_of_mem _ hq)) rs]
    congr 1
    have e' : keyD k = .int i := e
    cases k with
    | inl z => exact r.1.symm
    | inr z => cases e'
theorem nodup_inl : ∀ {l : List Int}, (l.map fun i => (Sum.inl i : Key)).Nodup → l.Nodup
  | [], _ => List.nodup_nil
  | a :: l, h => by
    obtain ⟨h1, h2⟩ := List.nodup_cons.mp h
    exact List.nodup_cons.mpr ⟨fun z => h1 (List.mem_map_of_mem z), nodup_inl h2⟩
theorem ints_at {P : Program} {w : World} : ∀ {us : List Value} {ks : List Int}, us.length = ks.length → (∀ (j : Nat) (v : Value), us[j]? = some v → ∃ k, ks[j]? = some k ∧ (mixKind P w).is (.inl k) v = true) → IntsAre us ks
  | [], [], _, _ => .nil
  | [], _ :: _, h, _ => by cases h
  | _ :: _, [], h, _ => by cases h
  | u :: us, k :: ks, h, hk => by
    obtain ⟨k', e, hi⟩ := hk 0 u rfl
    have e : k = k' := Option.some.inj e
    subst e
    obtain ⟨t, rfl⟩ := Value.isInt_shape (k := k) (v := u) hi
    exact .cons k t (ints_at (by simpa using h) fun j v hv => hk (j + 1) v (by simpa using hv))
section
variable {X : Cx} {G : Gam} {e : Expr} {pos p : Pos} {es : List (PyData × PyData)}
theorem evf_sortedD (hcalm : X.calm = true) (ha : EV X G e (.dict es)) (hes : ∀ q ∈ es, ∃ i, q.1 = .int i) (hx : excC es = none) (h64 : es.length < 64) (hg : Gl X "sorted") (hm : X.mg "sorted" = none)
    (he : starEach [e] X.env = (false, eval e X.env) :: starEach [] X.env := by rfl) (hpl : (backTo pos (starEach [] X.env)).any (·.1) = false := by rfl) :
    EVF X G (.Call (.Name "sorted" p) [e] [] pos) ((srtI (es.map fun q => intOf q.1)).map PyData.int) := by
  intro pins s σ H Q I ⟨hσ, q⟩
  refine wpAny_Call_Name_kw (ld_blt I hg hm PyProof.Rows.boot_sorted (PyProof.Rows.callWith_builtin1 (thn (av_cons ha av_nil he pos pins s σ H _ I ⟨hσ, fun vs H' s' dv => (⟨s', dv⟩ : Same H H' ∧ DVs X.K H' vs [.dict es])⟩) fun us s1 ⟨vs, H1, I1, r1, sm, dv⟩ => ?_) he hpl))
  obtain ⟨v1, rfl, d1⟩ := dv.one
  obtain ⟨d, kvs, rfl, hd, dk⟩ := d1.of_dct hx
  obtain ⟨u1, rfl, ru⟩ := vals1 r1
  cases ru
  obtain ⟨hn, hsys, vs, kv, hD⟩ := dk_of I1.hok hd
  have ek := keys_at dk hes kv
  have hlv : vs.length = es.length := by
    have := congrArg List.length ek
    simpa using this
  obtain ⟨od, eds, ep, ho1, ho2, ho3, ho4, ho5, ho6⟩ := id hD
  refine Calls.call_function_entry kind_sorted plain_sorted entry_sorted (args_sorted1 _) ?_
  unfold Builtin.«sorted»
  refine wpAny_bind (m := checkCount "sorted" 1 1 _) (wpAny_pure ?_)
  refine wpAny_bind (PySem.W.kdu_collect (A := X.A.in1) (PySem.W.kdl_dict (knd := mixKind X.prog X.w) (kvs := vs) (ep := ep) (d := d) hsys) (I1.ok.hd hcalm) ⟨od, eds, ho1, ho2, ho3, ho4, ho5, ho6⟩ (by rw [hlv, sizeLine_eq]; omega) fun h' tk acc kp it => ?_)
  have iz : IntsAre acc.toList (es.map fun q => intOf q.1) := by
    refine ints_at (P := X.prog) (w := X.w) (by rw [Array.length_toList, it.1, List.length_map, hlv]) fun j v hv => ?_
    obtain ⟨k, x, e1, e2⟩ := it.2 j v (by simpa using hv)
    have e3 : (vs.map (·.1))[j]? = some k := by rw [List.getElem?_map, e1]; rfl
    rw [ek, List.getElem?_map] at e3
    obtain ⟨q0, f1, f2⟩ := Option.map_eq_some_iff.mp e3
    exact ⟨intOf q0.1, by rw [List.getElem?_map, f1]; rfl, by rw [f2]; exact e2⟩
  have nd : (es.map fun q => intOf q.1).Nodup := by
    have := ho6
    rw [ek] at this
    have h2 : (es.map fun q => (Sum.inl (intOf q.1) : Key)) = (es.map fun q => intOf q.1).map Sum.inl := by rw [List.map_map]; rfl
    rw [h2] at this
    exact nodup_inl this
  exact sort_ints (I1.kept (t' := tk) kp) iz nd (by rw [IntsAre.length iz, List.length_map]; exact h64) fun p ws H' hp s' hl dv' => q p ws H' (sm.free hp) (sm.trans s') hl dv'
end
end L2
set_option maxRecDepth 100000
set_option maxHeartbeats 1000000
namespace L2
open PySem PySem.Spec PyProof.Rows
def pairD (q : Int × Int) : PyData := .tuple [.int q.1, .int q.2]
def dI (m : List (Int × Int)) : List (PyData × PyData) := m.map fun q => (.int q.1, .int q.2)
def getI (m : List (Int × Int)) (a : Int) : Int := (m.lookup a).getD 0
def hasI (m : List (Int × Int)) (a : Int) : Bool := m.any fun q => decide (q.1 = a)
def putI (m : List (Int × Int)) (a n : Int) : List (Int × Int) := if hasI m a = true then m.map (fun q => if q.1 = a then (q.1, n) else q) else m ++ [(a, n)]
theorem dI_len (m : List (Int × Int)) : (dI m).length = m.length := List.length_map ..
theorem dI_ints (m : List (Int × Int)) : ∀ q ∈ dI m, ∃ i, q.1 = .int i := fun q h => by
  obtain ⟨z, _, rfl⟩ := List.mem_map.mp h
  exact ⟨z.1, rfl⟩
theorem dI_exc (m : List (Int × Int)) : excC (dI m) = none := by
  cases m with
  | nil => rfl
  | cons a r => cases r with
    | nil => rfl
    | cons b r => rfl
theorem dI_keys (m : List (Int × Int)) : ((dI m).map fun q => intOf q.1) = m.map (·.1) := by
  unfold dI
  rw [List.map_map]
  rfl
theorem dI_has (m : List (Int × Int)) (a : Int) : hasK (dI m) (.inl a) = hasI m a := by
  unfold hasK hasI dI
  rw [List.any_map]
  rfl
theorem dI_put (m : List (Int × Int)) (a n : Int) : putD (dI m) (.inl a) (.int n) = dI (putI m a n) := by
  unfold putD putI
  rw [dI_has]
  split
  · unfold dI
    rw [List.map_map, List.map_map]
    congr 1
    funext q
    simp only [Function.comp]
    have : PyData.eqv (.int q.1) (keyD (.inl a)) = decide (q.1 = a) := by
      show PyData.eqv (keyD (.inl q.1)) (keyD (.inl a)) = _
      rw [keyD_eqv]
      by_cases h : q.1 = a
      · subst h; simp
      · rw [decide_eq_false h, decide_eq_false]
        exact fun z => h (Sum.inl.inj z)
    rw [this]
    by_cases h : q.1 = a
    · rw [if_pos (decide_eq_true h), if_pos h]
    · rw [if_neg (by simp [h]), if_neg h]
  · unfold dI
    rw [List.map_append]
    rfl
theorem DVk.valI {K : PySem.W.Frag} {H : Hp} (a : Int) : ∀ {kvs : List (Key × V)} {m : List (Int × Int)}, DVk K H kvs (dI m) → valV kvs (.inl a) = (m.lookup a).map V.int
  | kvs, [], h => by
    cases h
    rfl
  | kvs, (k, n) :: m, h => by
    unfold dI at h
    rw [List.map_cons] at h
    generalize hk : (PyData.int (k, n).1, PyData.int (k, n).2) = kk at h
    cases h with
    | cons hd t =>
      rename_i k' x d xs
      injection hk with hk hn
      subst hn
      have hx := hd.of_int
      subst hx
      cases k' with
      | inr z => cases hk
      | inl z =>
        injection hk with hk
        have hk : k = z := hk
        subst hk
        have ih := DVk.valI a (m := m) t
        unfold valV at ih ⊢
        rw [List.find?_cons, List.lookup_cons]
        by_cases e : k = a
        · subst e
          rw [decide_eq_true rfl, beq_self_eq_true]
          rfl
        · rw [decide_eq_false (fun z => e (Sum.inl.inj z)), beq_eq_false_iff_ne.mpr (Ne.symm e)]
          exact ih
section
variable {X : Cx} {pins : List (Addr × Obj)} {σ : St} {H : Hp} {s : Shared} {a : Addr} {xs : List V}
theorem Inv.tupObj (I : Inv X pins σ H s) (h : SqT X.K H a xs) : ∃ (its : List Value) (n : Nat) (sl : Array (Option Value)), Vals xs its ∧ s.heap.get? a = some { cls := .type "tuple", dict := none, data := .seq its.toArray n, slots := sl } ∧ xs.length ≤ sizeLine := by
  rcases h with h | ⟨o, its, n, hk, hc, hs, hd0, hz, r⟩
  · obtain ⟨z, ⟨its, r, o, e, c, n, d⟩, o', e', d'⟩ := h.ok I.hok
    rw [e] at e'
    cases e'
    obtain ⟨c1, c2, c3, c4⟩ := o
    simp only at c d d'
    subst c d d'
    exact ⟨its, n, _, r, e, z⟩
  · obtain ⟨c1, c2, c3, c4⟩ := o
    simp only at hc hs hd0
    subst hc hs hd0
    refine ⟨its.toList, n, c4, r, by rw [Array.toArray_toList]; exact I.kIn a _ hk, ?_⟩
    have e := r.length
    simp only [Array.length_toList] at e
    omega
theorem Inv.lstObj (I : Inv X pins σ H s) (h : SqL X.K H a xs) : ∃ (its : List Value) (n : Nat) (sl : Array (Option Value)), Vals xs its ∧ s.heap.get? a = some { cls := .type "list", dict := none, data := .seq its.toArray n, slots := sl } ∧ xs.length ≤ sizeLine := by
  obtain ⟨its, r, ⟨o, n, e, c, d, dt⟩, z⟩ := I.list h
  obtain ⟨c1, c2, c3, c4⟩ := o
  simp only at c d dt
  subst c d dt
  exact ⟨its, n, _, r, e, z⟩
end
def tDK (K : PySem.W.Frag) (G : Gam) (m : List (Int × Int)) : TE := fun σ H Q => SD K H σ G ∧ ∀ p kvs H', H p = none → Same H H' → H' p = some (.dK kvs) → (∀ H2, DVk K H2 kvs (dI m)) → Q (.ref p) H'
abbrev EVK (X : Cx) (G : Gam) (e : Expr) (m : List (Int × Int)) : Prop := PE X e (tDK X.K G m)
theorem DVs.pairs_at {X : Cx} {pins : List (Addr × Obj)} {σ : St} {H : Hp} {s : Shared} (I : Inv X pins σ H s) : ∀ {us : List V} {m : List (Int × Int)} {its : List Value}, DVs X.K H us (m.map pairD) → Vals us its →
    ∃ (ps : List Addr) (kv : List (Key × Value)), ps.length = m.length ∧ kv.length = m.length ∧ its = ps.map Value.ref ∧ (∀ (j : Nat) p q, ps[j]? = some p → kv[j]? = some q → PairAt (mixKind X.prog X.w) s.heap p q) ∧ kv.map (·.1) = m.map (fun q => .inl q.1) ∧ KV (m.map fun q => ((.inl q.1 : Key), V.int q.2)) kv
  | _, [], _, .nil, .nil => ⟨[], [], rfl, rfl, rfl, fun j p q h => by simp at h, rfl, .nil⟩
  | _, (k, n) :: m, _, .cons hd t, .cons r rs => by
    obtain ⟨ps, kv, e1, e2, e3, e4, e5, e6⟩ := DVs.pairs_at I t rs
    obtain ⟨p, xs, rfl, hq, dx⟩ := hd.of_tup
    obtain ⟨v1, v2, rfl, d1, d2⟩ := dx.two
    have h1 := d1.of_int
    have h2 := d2.of_int
    subst h1 h2
    obtain ⟨its2, n0, sl, rv, ho, _⟩ := I.tupObj hq
    obtain ⟨u1, u2, rfl, ⟨t1, rfl⟩, ⟨t2, rfl⟩⟩ := vals2 rv
    have r : _ = Value.ref p := r
    subst r
    refine ⟨p :: ps, (.inl k, .int n t2) :: kv, by simp [e1], by simp [e2], by rw [e3]; rfl, fun j p' q' h1 h2 => ?_, by rw [List.map_cons, e5]; rfl, .cons ⟨rfl, ⟨_, rfl⟩⟩ e6⟩
    cases j with
    | zero =>
      simp at h1 h2
      subst h1 h2
      exact ⟨.int k t1, n0, sl, mixKind_int _ _ k t1, ho⟩
    | succ j =>
      simp at h1 h2
      exact e4 j p' q' h1 h2
theorem DVk.intsK {K : PySem.W.Frag} {H : Hp} : ∀ (m : List (Int × Int)), DVk K H (m.map fun q => ((.inl q.1 : Key), V.int q.2)) (dI m)
  | [] => .nil
  | (k, n) :: m => .cons (k := .inl k) (.int n) (DVk.intsK m)
section
variable {X : Cx} {G : Gam} {e : Expr} {pos p : Pos} {m : List (Int × Int)} {d : PyData}
theorem boot_dict9 : bootBuiltins "dict" = some (.type "dict") := by decide +kernel
theorem nodup_toInl : ∀ {l : List Int}, l.Nodup → (l.map fun i => (Sum.inl i : Key)).Nodup
  | [], _ => List.nodup_nil
  | a :: l, h => by
    obtain ⟨h1, h2⟩ := List.nodup_cons.mp h
    refine List.nodup_cons.mpr ⟨fun z => ?_, nodup_toInl h2⟩
    obtain ⟨b, hb, e⟩ := List.mem_map.mp z
    exact h1 (Sum.inl.inj e ▸ hb)
theorem evk_dict (hcalm : X.calm = true) (ha : EV X G e d) (hd : d = .tuple (m.map pairD) ∨ d = .list (m.map pairD)) (nd : (m.map (·.1)).Nodup) (hz : m.length ≤ sizeLine) (hg : Gl X "dict") (hm : X.mg "dict" = none)
    (hs : starEach [e] X.env = [(false, eval e X.env)] := by rfl) : EVK X G (.Call (.Name "dict" p) [e] [] pos) m := by
  intro pins s σ H Q I ⟨hσ, q⟩
  refine Call_ (ld_blt I hg hm boot_dict9 (PyProof.Rows.callWith_type1 (thn (av_cons ha av_nil (by rw [hs]; rfl) pos pins s σ H _ I ⟨hσ, fun vs H' s' dv => (⟨s', dv⟩ : Same H H' ∧ DVs X.K H' vs [d])⟩) fun us s1 ⟨vs, H1, I1, r1, sm, dv⟩ => ?_) (by rw [hs]; rfl) rfl))
  obtain ⟨v1, rfl, d1⟩ := dv.one
  obtain ⟨u1, rfl, ru⟩ := vals1 r1
  have hB : H1 s1.heap.objs.size = none := I1.hok.fresh (Nat.le_refl _)
  have key : ∀ (ty : String) (l : Addr) (us : List V) (its : List Value) (n0 : Nat) (sl : Array (Option Value)), (ty = "tuple" ∨ ty = "list") → DVs X.K H1 us (m.map pairD) → Vals us its → s1.heap.get? l = some { cls := .type ty, dict := none, data := .seq its.toArray n0, slots := sl } →
      wpAny (model X.prog X.w) X.A (call (.type "dict") [.ref l]) (EP X pins σ Q) X.xe s1 := by
    intro ty l us its n0 sl hty du rv ho
    obtain ⟨ps, kv, e1, e2, e3, e4, e5, e6⟩ := DVs.pairs_at I1 du rv
    have hn : its.toArray.size = m.length := by rw [e3]; simp [e1]
    refine dict_pairs (knd := mixKind X.prog X.w) hty (I1.ok.hd hcalm) ho (fun j => ps.getD j 0) kv (by rw [hn, e2]) (by rw [hn]; exact hz) (fun i v hv => ?_) (fun j hj => ?_) fun h' tk hD kp => ?_
    · rw [e3] at hv
      simp at hv
      obtain ⟨b, hb, rfl⟩ := hv
      simp [List.getD, hb]
    · have hj' : j < ps.length := by omega
      have hk' : j < kv.length := by omega
      have : ps.getD j 0 = ps[j] := by simp [List.getD, hj']
      rw [this]
      exact e4 j _ _ (List.getElem?_eq_getElem hj') (List.getElem?_eq_getElem hk')
    · have ekv : merged [] kv = kv := by
        rw [merged_append_of_fresh [] kv (by rw [List.nil_append, e5, show (m.map fun q => (Sum.inl q.1 : Key)) = (m.map (·.1)).map Sum.inl from by rw [List.map_map]; rfl]; exact nodup_toInl nd)]
        rfl
      rw [ekv] at hD
      have hsys : (s1.heap.objs.size == sysModules) = false := by
        have := I1.big
        exact beq_eq_false_iff_ne.mpr (Nat.ne_of_gt this)
      have I3 := I1.laid (a := s1.heap.objs.size) (o := .dK (m.map fun q => ((.inl q.1 : Key), V.int q.2))) (t' := tk) kp (Nat.le_refl _) ⟨by rw [List.length_map]; exact hz, hsys, kv, e6, hD⟩
      exact ⟨.ref s1.heap.objs.size, _, I3, rfl, q _ _ _ (sm.free hB) (sm.trans (Same.new hB)) upd_same fun H2 => DVk.intsK m⟩
  rcases hd with rfl | rfl
  · obtain ⟨l, us, rfl, hq, du⟩ := d1.of_tup
    obtain ⟨its, n0, sl, rv, ho, _⟩ := I1.tupObj hq
    have ru : u1 = Value.ref l := ru
    subst ru
    exact key "tuple" l us its n0 sl (.inl rfl) du rv ho
  · obtain ⟨l, us, rfl, hq, du⟩ := d1.of_lst
    obtain ⟨its, n0, sl, rv, ho, _⟩ := I1.lstObj hq
    have ru : u1 = Value.ref l := ru
    subst ru
    exact key "list" l us its n0 sl (.inr rfl) du rv ho
end
end L2
set_option maxRecDepth 100000
set_option maxHeartbeats 1000000
namespace L2
open PySem PySem.Spec PyProof.Rows
mutual
def kT : PyData → Bool
  | .int _ => true
  | .str x => PyData.canLay0 (.str x)
  | .tuple xs => kTs xs
  | _ => false
def kTs : List PyData → Bool
  | [] => true
  | x :: r => kT x && kTs r
end
mutual
def hashT (w : World) : PyData → Int
  | .int i => hashInt i
  | .str x => hashStr w x
  | .tuple xs => reduceHash (Builtin.Tuple.tupleHashOf (hashTs w xs))
  | _ => 0
def hashTs (w : World) : List PyData → List Int
  | [] => []
  | x :: r => hashT w x :: hashTs w r
end
mutual
def drawT : PyData → Nat
  | .tuple xs => drawTs xs + 1
  | _ => 1
def drawTs : List PyData → Nat
  | [] => 0
  | x :: r => drawT x + drawTs r
end
theorem hashTs_app (w : World) : ∀ (xs ys : List PyData), hashTs w (xs ++ ys) = hashTs w xs ++ hashTs w ys
  | [], _ => by simp [hashTs]
  | x :: xs, ys => by simp [hashTs, hashTs_app w xs ys]
theorem drawTs_app : ∀ (xs ys : List PyData), drawTs (xs ++ ys) = drawTs xs + drawTs ys
  | [], _ => by simp [drawTs]
  | x :: xs, ys => by simp [drawTs, drawTs_app xs ys, Nat.add_assoc]
mutual
theorem kT_lay : ∀ {d : PyData}, kT d = true → d.canLay0 = true
  | .int _, _ => rfl
  | .str _, h => by unfold kT at h; exact h
  | .tuple xs, h => by unfold PyData.canLay0; exact kTs_lay (by unfold kT at h; exact h)
  | .none, h => by simp [kT] at h
  | .bool _, h => by simp [kT] at h
  | .list _, h => by simp [kT] at h
  | .dict _, h => by simp [kT] at h
theorem kTs_lay : ∀ {ds : List PyData}, kTs ds = true → PyData.canLayAll0 ds = true
  | [], _ => rfl
  | x :: r, h => by
    unfold kTs at h
    rw [Bool.and_eq_true] at h
    unfold PyData.canLayAll0
    rw [kT_lay h.1, kTs_lay h.2]
    rfl
end
theorem kTs_of : ∀ {ds : List PyData}, kTs ds = true → ∀ x ∈ ds, kT x = true
  | [], _, x, hx => by cases hx
  | y :: r, h, x, hx => by
    unfold kTs at h
    rw [Bool.and_eq_true] at h
    rcases List.mem_cons.mp hx with rfl | hx
    · exact h.1
    · exact kTs_of h.2 x hx
mutual
theorem eqv_kT : ∀ (a b : PyData), kT a = true → kT b = true → (PyData.eqv a b = true ↔ a = b)
  | .int i, .int j, _, _ => by simp [PyData.eqv]
  | .str i, .str j, _, _ => by simp [PyData.eqv]
  | .int i, .str j, _, _ => by simp [PyData.eqv]
  | .str i, .int j, _, _ => by simp [PyData.eqv]
  | .int i, .tuple j, _, _ => by simp [PyData.eqv]
  | .str i, .tuple j, _, _ => by simp [PyData.eqv]
  | .tuple i, .int j, _, _ => by simp [PyData.eqv]
  | .tuple i, .str j, _, _ => by simp [PyData.eqv]
  | .tuple xs, .tuple ys, ha, hb => by
    have := eqv_kTs xs ys (by unfold kT at ha; exact ha) (by unfold kT at hb; exact hb)
    simp only [PyData.eqv, PyData.tuple.injEq]
    exact this
  | .none, _, h, _ => by simp [kT] at h
  | .bool _, _, h, _ => by simp [kT] at h
  | .list _, _, h, _ => by simp [kT] at h
  | .dict _, _, h, _ => by simp [kT] at h
  | _, .none, _, h => by simp [kT] at h
  | _, .bool _, _, h => by simp [kT] at h
  | _, .list _, _, h => by simp [kT] at h
  | _, .dict _, _, h => by simp [kT] at h
theorem eqv_kTs : ∀ (a b : List PyData), kTs a = true → kTs b = true → (PyData.eqvAll a b = true ↔ a = b)
  | [], [], _, _ => by simp [PyData.eqvAll]
  | [], _ :: _, _, _ => by simp [PyData.eqvAll]
  | _ :: _, [], _, _ => by simp [PyData.eqvAll]
  | x :: xs, y :: ys, ha, hb => by
    unfold kTs at ha hb
    rw [Bool.and_eq_true] at ha hb
    have h1 := eqv_kT x y ha.1 hb.1
    have h2 := eqv_kTs xs ys ha.2 hb.2
    simp only [PyData.eqvAll, Bool.and_eq_true, List.cons.injEq]
    rw [h1, h2]
end
theorem depth_of {xs : List PyData} : ∀ x ∈ xs, x.depth ≤ PyData.depthAll xs := by
  induction xs with
  | nil => intro x hx; cases hx
  | cons y r ih =>
    intro x hx
    unfold PyData.depthAll
    rcases List.mem_cons.mp hx with rfl | hx
    · exact Nat.le_max_left _ _
    · exact Nat.le_trans (ih x hx) (Nat.le_max_right _ _)
section
variable {prog : Program} {w : World}
def HashOk (prog : Program) (w : World) (d : PyData) : Prop := ∀ (A : Around) (E : Value → Shared → Prop) (s : Shared) (v : Value) (as : List Addr) (Q : Int → Shared → Prop), A.units + d.depth < cLine → Reads s.heap v d as → Q (hashT w d) { s with toks := s.toks + drawT d } → wpAny (model prog w) A (pyHash v) Q E s
theorem hash_tup {xs : List PyData} (hP : ∀ x ∈ xs, HashOk prog w x) : HashOk prog w (.tuple xs) := by
  intro A E s v as Q hu hr h
  cases hr with
  | @tuple a o items n _ _ ho hc hd hi =>
  have hT : s.TypeIs (.ref a) "tuple" := ⟨o, ho, hc⟩
  have hd1 : PyData.depth (.tuple xs) = PyData.depthAll xs + 1 := by first | rfl | simp [PyData.depth, Nat.add_comm]
  have hu0 : A.units < cLine := by omega
  unfold pyHash
  first | unfold pyHashByItsType | skip
  first | refine wpAny_bind (wpAny_cRoomFor_or (.inr hu0) ?_) | skip
  refine wpAny_bind (wpAny_specialOf hT F.slot_tuple_hash.lookup ?_)
  show wpAny _ _ (if (some (Value.builtin "tuple.__hash__") == some Value.none) = true then _ else _) Q E s
  rw [if_neg (by rw [beq_builtin_none]; exact Bool.false_ne_true)]
  refine wpAny_bind (wpAny_specialOf hT F.slot_tuple_hash.lookup ?_)
  show wpAny _ _ (callSpecialIfBoundUnlessNone? (.ref a) "__hash__" _ >>= _) Q E s
  refine wpAny_bind (wpAny_callSpecialIfBoundUnlessNone?_slot hT F.slot_tuple_hash (wpAny_call_entry F.slot_tuple_hash hT F.entry_tuple_hash ?_ (F.args_tuple_hash_1 _)))
  show wpAny _ _ (Builtin.Tuple.tupleItemsOf (.ref a) >>= _) _ _ s
  refine wpAny_bind (wpAny_tupleItemsOf ho hd ?_)
  refine wpAny_bind ?_
  rw [← Array.forIn_toList]
  refine wpAny_forIn_list _
    (fun rest (b : Array Int) s' => ∃ done left bs, xs = done ++ left ∧ ReadsAll s.heap rest left bs ∧ b.toList = hashTs w done ∧ s' = { s with toks := s.toks + drawTs done })
    _ ?_ ?_ _ _ ⟨[], xs, _, rfl, hi, rfl, rfl⟩
  · rintro x rest b s' ⟨done, left, bs, rfl, hl, hb, rfl⟩
    cases hl with
    | @cons _ _ k ks' as1 bs1 h1 hl' =>
      have hdk : k.depth ≤ PyData.depthAll (done ++ k :: ks') := depth_of k (by simp)
      refine wpAny_bind (hP k (by simp) _ _ _ _ as1 _ ?_ h1 ?_)
      · first
          | (show A.units + 1 + k.depth < cLine; omega)
          | (simp only [Around.units_in1]; omega)
          | omega
      first
        | exact wpAny_pure ⟨done ++ [k], ks', bs1, by simp, hl', by simp [hb, hashTs_app, hashTs], by simp [drawTs_app, drawTs, Nat.add_assoc]⟩
        | exact wpAny_bind (wpAny_pure (wpAny_pure ⟨done ++ [k], ks', bs1, by simp, hl', by simp [hb, hashTs_app, hashTs], by simp [drawTs_app, drawTs, Nat.add_assoc]⟩))
  · rintro b s' ⟨done, left, bs, rfl, hl, hb, rfl⟩
    cases hl
    rw [List.append_nil] at h
    show wpAny _ _ (retInt (Builtin.Tuple.tupleHashOf b.toList)) _ _ _
    rw [hb]
    refine wpAny_ret_mkInt ?_
    show wpAny _ _ (if (decide (-(2 : Int) ^ 63 ≤ Builtin.Tuple.tupleHashOf (hashTs w done)) && decide (Builtin.Tuple.tupleHashOf (hashTs w done) < 2 ^ 63)) = true then _ else _) Q E _
    unfold hashT reduceHash drawT at h
    by_cases hr : (decide (-(2 : Int) ^ 63 ≤ Builtin.Tuple.tupleHashOf (hashTs w done)) && decide (Builtin.Tuple.tupleHashOf (hashTs w done) < 2 ^ 63)) = true
    · rw [if_pos hr]
      rw [if_pos hr] at h
      exact wpAny_pure (by simpa [Nat.add_assoc] using h)
    · rw [if_neg hr]
      rw [if_neg hr] at h
      exact wpAny_bind (wpAny_rule (wpAny_pure (by simpa [Nat.add_assoc] using h)))
mutual
theorem hash_ok : ∀ (d : PyData), kT d = true → HashOk prog w d
  | .int i, _ => fun A E s v as Q _ hr h => by
    cases hr
    exact wpAny_pyHash_int h
  | .str x, _ => fun A E s v as Q _ hr h => by
    cases hr
    exact wpAny_pyHash_str h
  | .tuple xs, h => hash_tup (hash_oks xs (by unfold kT at h; exact h))
  | .none, h => by simp [kT] at h
  | .bool _, h => by simp [kT] at h
  | .list _, h => by simp [kT] at h
  | .dict _, h => by simp [kT] at h
theorem hash_oks : ∀ (xs : List PyData), kTs xs = true → ∀ x ∈ xs, HashOk prog w x
  | [], _, x, hx => by cases hx
  | y :: r, h, x, hx => by
    have h' : kT y = true ∧ kTs r = true := by unfold kTs at h; rwa [Bool.and_eq_true] at h
    have h1 := hash_ok y h'.1
    have h2 := hash_oks r h'.2
    rcases List.mem_cons.mp hx with e | hx
    · rw [e]; exact h1
    · exact h2 x hx
end
def QuietOk (prog : Program) (w : World) (d : PyData) : Prop := ∀ (n : Nat) (A : Around) (E : Value → Shared → Prop) (s : Shared) (v : Value) (as : List Addr) (Q : Bool → Shared → Prop), d.depth ≤ n → Reads s.heap v d as → Q true s → wpAny (model prog w) A (eqIsQuiet n v) Q E s
theorem quiet_tup {xs : List PyData} (hP : ∀ x ∈ xs, QuietOk prog w x) : QuietOk prog w (.tuple xs) := by
  intro n A E s v as Q hn hr h
  cases hr with
  | @tuple a o items n0 _ _ ho hc hd hi =>
  have hT : s.TypeIs (.ref a) "tuple" := ⟨o, ho, hc⟩
  have hd1 : PyData.depth (.tuple xs) = PyData.depthAll xs + 1 := by first | rfl | simp [PyData.depth, Nat.add_comm]
  cases n with
  | zero => omega
  | succ n =>
  unfold eqIsQuiet
  refine wpAny_bind (wpAny_specialOf hT F.slot_tuple_eq.lookup ?_)
  show wpAny _ _ (isInstance (.ref a) (.type "tuple") >>= _) _ _ s
  refine wpAny_bind (wpAny_isInstance hT isSubtype_tuple_tuple ?_)
  simp only [Bool.not_true, Bool.false_eq_true, if_false]
  refine wpAny_bind (wpAny_seqItems ho hd ?_)
  refine wpAny_bind ?_
  show wpAny _ _ (forIn items _ _) _ _ s
  rw [← Array.forIn_toList]
  refine wpAny_forIn_list _ (fun rest r s' => r.1 = none ∧ s' = s ∧ ∃ left bs, ReadsAll s.heap rest left bs ∧ ∀ x ∈ left, x ∈ xs) _ ?_ ?_ _ _ ⟨rfl, rfl, xs, _, hi, fun x hx => hx⟩
  · rintro v rest r s' ⟨hr, rfl, left, bs, hl, hm⟩
    cases hl with
    | @cons _ _ k ks' as1 bs1 h1 hl' =>
      have hk : k ∈ xs := hm k List.mem_cons_self
      have hdk : k.depth ≤ PyData.depthAll xs := depth_of k hk
      refine wpAny_bind (hP k hk n _ _ _ _ as1 _ (by omega) h1 ?_)
      simp only [Bool.not_true, Bool.false_eq_true, if_false]
      exact wpAny_pure ⟨rfl, rfl, ks', bs1, hl', fun x hx => hm x (List.mem_cons_of_mem _ hx)⟩
  · rintro ⟨r1, r2⟩ s' ⟨hr, rfl, _⟩
    simp only at hr
    subst hr
    exact wpAny_pure h
mutual
theorem quiet_ok : ∀ (d : PyData), kT d = true → QuietOk prog w d
  | .int i, _ => fun n A E s v as Q _ hr h => by
    cases hr
    rw [eqIsQuiet_byValue _ rfl]
    exact wpAny_pure h
  | .str x, _ => fun n A E s v as Q _ hr h => by
    cases hr
    rw [eqIsQuiet_byValue _ rfl]
    exact wpAny_pure h
  | .tuple xs, h => quiet_tup (quiet_oks xs (by unfold kT at h; exact h))
  | .none, h => by simp [kT] at h
  | .bool _, h => by simp [kT] at h
  | .list _, h => by simp [kT] at h
  | .dict _, h => by simp [kT] at h
theorem quiet_oks : ∀ (xs : List PyData), kTs xs = true → ∀ x ∈ xs, QuietOk prog w x
  | [], _, x, hx => by cases hx
  | y :: r, h, x, hx => by
    have h' : kT y = true ∧ kTs r = true := by unfold kTs at h; rwa [Bool.and_eq_true] at h
    have h1 := quiet_ok y h'.1
    have h2 := quiet_oks r h'.2
    rcases List.mem_cons.mp hx with e | hx
    · rw [e]; exact h1
    · exact h2 x hx
end
mutual
theorem reads_but {h h' : Heap} {d : Addr} {o : Obj} {es ep} (ho : h.get? d = some o) (hd : o.data = .dict es ep) (hs : Heap.SameBut d h h') : ∀ (k : PyData) (v : Value) (as : List Addr), kT k = true → Reads h v k as → Reads h' v k as
  | .int i, v, as, _, r => by cases r; exact .int i _
  | .str i, v, as, _, r => by cases r; exact .str i _
  | .tuple xs, v, as, hk, r => by
    cases r with
    | @tuple a ob items n _ _ h1 h2 h3 h4 =>
      have hne : a ≠ d := fun e => by
        subst e
        rw [ho] at h1
        cases h1
        rw [hd] at h3
        cases h3
      exact .tuple ((hs.2 a hne).trans h1) h2 h3 (readsAll_but ho hd hs xs _ _ (by unfold kT at hk; exact hk) h4)
  | .none, _, _, h, _ => by simp [kT] at h
  | .bool _, _, _, h, _ => by simp [kT] at h
  | .list _, _, _, h, _ => by simp [kT] at h
  | .dict _, _, _, h, _ => by simp [kT] at h
theorem readsAll_but {h h' : Heap} {d : Addr} {o : Obj} {es ep} (ho : h.get? d = some o) (hd : o.data = .dict es ep) (hs : Heap.SameBut d h h') : ∀ (k : List PyData) (v : List Value) (as : List Addr), kTs k = true → ReadsAll h v k as → ReadsAll h' v k as
  | [], v, as, _, r => by cases r; exact .nil
  | x :: xs, v, as, hk, r => by
    have hk' : kT x = true ∧ kTs xs = true := by unfold kTs at hk; rwa [Bool.and_eq_true] at hk
    cases r with
    | cons h1 h2 => exact .cons (reads_but ho hd hs x _ _ hk'.1 h1) (readsAll_but ho hd hs xs _ _ hk'.2 h2)
end
noncomputable instance decD : DecidableEq PyData := fun a b => Classical.propDecidable (a = b)
def keyT (d : PyData) : Prop := kT d = true ∧ d.depth ≤ 8
noncomputable def treeKind (prog : Program) (w : World) : HeapKind prog w PyData where
  is := fun h d a => keyT d ∧ ∃ as, Reads h (.ref a) d as
  hash := hashT w
  draws := drawT
  room := fun A => A.units + 16 < cLine
  inj := fun {h a x y} ⟨hx, as, rx⟩ ⟨_, bs, ry⟩ => PySem.SeqAt.Reads.unique x y (.ref a) as bs (kT_lay hx.1) rx ry
  keeps := fun {h h' k a d o es ep} ⟨hk, as, r⟩ ho hd hs => ⟨hk, as, reads_but ho hd hs k _ as hk.1 r⟩
  pyHash := fun {A E s k a Q} hu ⟨hk, as, r⟩ h => hash_ok k hk.1 A E s _ as Q (by have := hk.2; have hu : A.units + 16 < cLine := hu; omega) r h
  eqBool := fun {A E s x y a b Q} hu ⟨hx, as, rx⟩ ⟨hy, bs, ry⟩ h => PySem.SeqAt.eqBoolOverData prog w A E s _ _ x y as bs Q rx ry (kT_lay hx.1) (kT_lay hy.1) (by have := hx.2; have hu : A.units + 16 < cLine := hu; omega) (by
    have e : PyData.eqv x y = decide (x = y) := by
      rw [Bool.eq_iff_iff, eqv_kT x y hx.1 hy.1, decide_eq_true_iff]
    rw [e]
    exact h)
  quiet := fun {A E s k a Q} ⟨hk, as, r⟩ h => quiet_ok k hk.1 8 A E s _ as Q hk.2 r h
end
end L2
set_option maxRecDepth 100000
set_option maxHeartbeats 1000000
namespace L2
open PySem PySem.Spec PyProof.Rows
def lef (L : List Addr) (H : Hp) : Hp := fun b => if b ∈ L then none else H b
theorem lef_in {L : List Addr} {H : Hp} {b : Addr} (h : b ∈ L) : lef L H b = none := by unfold lef; rw [if_pos h]
theorem lef_ne {L : List Addr} {H : Hp} {b : Addr} (h : b ∉ L) : lef L H b = H b := by unfold lef; rw [if_neg h]
theorem lef_same {L : List Addr} {H : Hp} : Same (lef L H) H := fun b o e => by
  by_cases h : b ∈ L
  · rw [lef_in h] at e; cases e
  · rw [lef_ne h] at e; exact e
theorem Same.lef {L : List Addr} {H H' : Hp} (s : Same H H') : Same (L2.lef L H) (L2.lef L H') := fun b o e => by
  by_cases h : b ∈ L
  · rw [lef_in h] at e; cases e
  · rw [lef_ne h] at e ⊢; exact s b o e
theorem lef_sub {L M : List Addr} {H : Hp} (h : ∀ b ∈ L, b ∈ M) : Same (lef M H) (lef L H) := fun b o e => by
  by_cases hb : b ∈ M
  · rw [lef_in hb] at e; cases e
  · rw [lef_ne hb] at e
    rw [lef_ne fun z => hb (h b z)]
    exact e
mutual
theorem DV.lef {K : PySem.W.Frag} {H : Hp} {L : List Addr} (hp : ∀ b ∈ L, ∀ xs, ¬ Rd H b (.tup xs)) : ∀ {v : V} {d : PyData}, DV K H v d → noL d = true → DV K (L2.lef L H) v d
  | _, _, .non, _ => .non
  | _, _, .bl b, _ => .bl b
  | _, _, .int i, _ => .int i
  | _, _, .str x, _ => .str x
  | _, _, .tup (a := a) h t, f => by
    refine .tup ?_ (DVs.lef hp t (by unfold noL at f; exact f))
    rcases h with h | h
    · have hn : a ∉ L := fun z => hp a z _ h
      refine .inl ?_
      rcases h with h | ⟨o, h⟩
      · exact .inl (by rw [lef_ne hn]; exact h)
      · exact .inr ⟨o, by rw [lef_ne hn]; exact h⟩
    · exact .inr h
  | _, _, .lst h t, f => by unfold noL at f; cases f
  | _, _, .dct h t, f => by unfold noL at f; cases f
  | _, _, .exc h, f => by unfold noL at f; cases f
  | _, _, .exr h h', f => by unfold noL at f; cases f
  | _, _, .obj h n t, f => by unfold noL at f; cases f
  | _, _, .dtt h, f => by unfold noL at f; cases f
theorem DVs.lef {K : PySem.W.Frag} {H : Hp} {L : List Addr} (hp : ∀ b ∈ L, ∀ xs, ¬ Rd H b (.tup xs)) : ∀ {vs : List V} {ds : List PyData}, DVs K H vs ds → noLs ds = true → DVs K (L2.lef L H) vs ds
  | _, _, .nil, _ => .nil
  | _, _, .cons h t, f => by
    unfold noLs at f
    rw [Bool.and_eq_true] at f
    exact .cons (DV.lef hp h f.1) (DVs.lef hp t f.2)
end
mutual
theorem kT_noL : ∀ {d : PyData}, kT d = true → noL d = true
  | .int _, _ => rfl
  | .str _, _ => rfl
  | .tuple xs, h => by unfold noL; exact kTs_noL (by unfold kT at h; exact h)
  | .none, h => by simp [kT] at h
  | .bool _, h => by simp [kT] at h
  | .list _, h => by simp [kT] at h
  | .dict _, h => by simp [kT] at h
theorem kTs_noL : ∀ {ds : List PyData}, kTs ds = true → noLs ds = true
  | [], _ => rfl
  | x :: r, h => by
    unfold kTs at h
    rw [Bool.and_eq_true] at h
    unfold noLs
    rw [kT_noL h.1, kTs_noL h.2]
    rfl
end
def NumAt (P : Program) (w : World) (da : Addr) (xs : List (PyData × Addr × Value)) (h : Heap) : Prop :=
  (da == sysModules) = false ∧ xs.length ≤ sizeLine ∧ ∃ o es ep, h.get? da = some o ∧ o.ExactDict ∧ o.data = .dict es ep ∧ es.toList = xs.map (entryOfKey (treeKind P w)) ∧ (xs.map (·.1)).Nodup
theorem numAt_ok {P : Program} {w : World} {H : Hp} {h : Heap} {da : Addr} {xs : List (PyData × Addr × Value)} (n : NumAt P w da xs h) : ObjOk P w H h da (.ext (NumAt P w da xs)) :=
  ⟨n, let ⟨_, _, o, _, _, ho, _⟩ := n; ⟨o, ho⟩, fun h1 h2 ⟨a, z, o, es, ep, ho, r⟩ k => ⟨a, z, o, es, ep, k _ ho, r⟩⟩
section
variable {X : Cx} {pins : List (Addr × Obj)} {σ : St} {H : Hp} {s : Shared} {da b : Addr} {d : PyData} {xs : List (PyData × Addr × Value)} {A : Around} {E : Value → Shared → Prop}
theorem key_tree (I : Inv X pins σ H s) (h : DV X.K H (.ref b) d) (hk : keyT d) : (treeKind X.prog X.w).is s.heap d b := ⟨hk, DV.reads I h rfl (kT_lay hk.1)⟩
theorem tree_dict (I : Inv X pins σ H s) (e : H da = some (.ext (NumAt X.prog X.w da xs))) (hx : ∀ x ∈ xs, DV X.K H (.ref x.2.1) x.1 ∧ keyT x.1) : (da == sysModules) = false ∧ xs.length ≤ sizeLine ∧ s.heap.DictOfH (treeKind X.prog X.w) da xs := by
  obtain ⟨⟨hd, hz, o, es, ep, h1, h2, h3, h4, h5⟩, _⟩ := I.hok da _ e
  exact ⟨hd, hz, o, es, ep, h1, h2, h3, h4, fun x h => key_tree I (hx x h).1 (hx x h).2, h5⟩
theorem t_notIn {Q : Value → Shared → Prop} (hu : A.units + 17 < cLine) (I : Inv X pins σ H s) (e : H da = some (.ext (NumAt X.prog X.w da xs))) (hx : ∀ x ∈ xs, DV X.K H (.ref x.2.1) x.1 ∧ keyT x.1) (hb : DV X.K H (.ref b) d) (hk : keyT d)
    (h : ∀ s', Inv X pins σ H s' → Q (.bool (!(atKey xs d).isSome)) s') : wpAny (model X.prog X.w) A (compareOp .NotIn (.ref b) (.ref da)) Q E s := by
  obtain ⟨hd, _, dd⟩ := tree_dict I e hx
  exact wpAny_notIn_heap (knd := treeKind X.prog X.w) (by show A.units + 1 + 16 < cLine; omega) (key_tree I hb hk) hd dd (h _ (I.tok _))
theorem t_getItem {Q : Value → Shared → Prop} {p : Addr × Value} (hu : A.units + 17 < cLine) (I : Inv X pins σ H s) (e : H da = some (.ext (NumAt X.prog X.w da xs))) (hx : ∀ x ∈ xs, DV X.K H (.ref x.2.1) x.1 ∧ keyT x.1) (hb : DV X.K H (.ref b) d) (hk : keyT d)
    (hp : atKey xs d = some p) (h : ∀ s', Inv X pins σ H s' → Q p.2 s') : s.TypeIs (.ref da) "dict" ∧ wpAny (model X.prog X.w) A (getItem (.ref da) (.ref b)) Q E s := by
  obtain ⟨hd, _, dd⟩ := tree_dict I e hx
  exact ⟨dd.typeIs, wpAny_getItem_heap (knd := treeKind X.prog X.w) (by show A.units + 1 + 16 < cLine; omega) (key_tree I hb hk) dd hp (h _ (I.tok _))⟩
theorem t_setItem {Q : Unit → Shared → Prop} {r : Value} (hu : A.units + 17 < cLine) (I : Inv X pins σ H s) (e : H da = some (.ext (NumAt X.prog X.w da xs))) (hx : ∀ x ∈ xs, DV X.K H (.ref x.2.1) x.1 ∧ keyT x.1) (hb : DV X.K H (.ref b) d) (hk : keyT d)
    (hz : xs.length < sizeLine) (hp : atKey xs d = none) (h : ∀ s', Inv X pins σ (upd H da (.ext (NumAt X.prog X.w da (xs ++ [(d, b, r)])))) s' → Q () s') : wpAny (model X.prog X.w) A (setItem (.ref da) (.ref b) r) Q E s := by
  obtain ⟨hd, _, dd⟩ := tree_dict I e hx
  refine wpAny_setItem_heap (knd := treeKind X.prog X.w) (hsz := Nat.le_of_lt hz) (by show A.units + 1 + 16 < cLine; omega) (key_tree I hb hk) dd fun h' dd' hs => h _ ?_
  rw [storedH_new hp] at dd'
  obtain ⟨q, es, ep, hq, h2, h3, h4, _, h5⟩ := dd'
  exact d_write I (by rw [e]; exact True.intro) hs ⟨q, hq⟩ (numAt_ok ⟨hd, by rw [List.length_append]; exact hz, q, es, ep, hq, h2, h3, h4, h5⟩)
end
theorem atKey_none {xs : List (PyData × Addr × Value)} {d : PyData} (h : d ∉ xs.map (·.1)) : atKey xs d = none := by
  unfold atKey
  have : (xs.find? fun x => decide (x.1 = d)) = none := by
    rw [List.find?_eq_none]
    intro x hx hk
    exact h (List.mem_map.mpr ⟨x, hx, of_decide_eq_true hk⟩)
  rw [this]
  rfl
structure Reg where
  C : Addr
  a : Addr
  dx : Addr
  la : Addr
  da : Addr
abbrev Reg.L (R : Reg) : List Addr := [R.a, R.la, R.da]
def EntsOk (K : PySem.W.Frag) (H : Hp) (T : List PyData) (xs : List (PyData × Addr × Value)) : Prop :=
  xs.map (·.1) = T ∧ (∀ x ∈ xs, DV K H (.ref x.2.1) x.1) ∧ ∀ (j : Nat) x, xs[j]? = some x → ∃ t, x.2.2 = .int (j : Int) t
structure TabS (P : Program) (w : World) (K : PySem.W.Frag) (R : Reg) (T : List PyData) (Hb H : Hp) (fs : List (Str × V)) (vs : List V) (xs : List (PyData × Addr × Value)) : Prop where
  obj : H R.a = some (.ins R.C R.dx fs)
  f1 : fs.lookup ("atoms" : Str) = some (.ref R.la)
  f2 : fs.lookup ("numbers" : Str) = some (.ref R.da)
  fn : ∀ m : Str, m ≠ "atoms" → m ≠ "numbers" → fs.lookup m = none
  lst : H R.la = some (.lst vs)
  num : H R.da = some (.ext (NumAt P w R.da xs))
  atoms : DVs K Hb vs T
  ents : EntsOk K Hb T xs
  keys : ∀ d ∈ T, keyT d
  few : T.length < 1000
theorem TabS.mono {P : Program} {w : World} {K : PySem.W.Frag} {R : Reg} {T : List PyData} {Hb Hb' H H' : Hp} {fs : List (Str × V)} {vs : List V} {xs : List (PyData × Addr × Value)} (t : TabS P w K R T Hb H fs vs xs) (s : Same Hb Hb') (s2 : Same H H') : TabS P w K R T Hb' H' fs vs xs :=
  ⟨s2 _ _ t.obj, t.f1, t.f2, t.fn, s2 _ _ t.lst, s2 _ _ t.num, t.atoms.mono s, ⟨t.ents.1, fun x hx => (t.ents.2.1 x hx).mono s, t.ents.2.2⟩, t.keys, t.few⟩
theorem TabS.notup {P : Program} {w : World} {K : PySem.W.Frag} {R : Reg} {T : List PyData} {Hb H : Hp} {fs : List (Str × V)} {vs : List V} {xs : List (PyData × Addr × Value)} (t : TabS P w K R T Hb H fs vs xs) : ∀ b ∈ R.L, ∀ ys, ¬ Rd H b (.tup ys) := fun b hb ys r => by
  have key : ∀ o, H b = some o → (∀ ys, o ≠ .tup ys) → (∀ q u, o ≠ .frz q u) → False := fun o e h1 h2 => by
    rcases r with r | ⟨q, r⟩
    · rw [e] at r; exact h1 _ (Option.some.inj r)
    · rw [e] at r; exact h2 _ _ (Option.some.inj r)
  simp only [Reg.L, List.mem_cons, List.not_mem_nil, or_false] at hb
  rcases hb with e | e | e
  · exact key _ (by rw [e]; exact t.obj) (fun _ z => by cases z) (fun _ _ z => by cases z)
  · exact key _ (by rw [e]; exact t.lst) (fun _ z => by cases z) (fun _ _ z => by cases z)
  · exact key _ (by rw [e]; exact t.num) (fun _ z => by cases z) (fun _ _ z => by cases z)
def Tb (P : Program) (w : World) (K : PySem.W.Frag) (R : Reg) (T : List PyData) (H : Hp) : Prop := ∃ fs vs xs, TabS P w K R T (lef R.L H) H fs vs xs
theorem Tb.step {P : Program} {w : World} {K : PySem.W.Frag} {R : Reg} {T : List PyData} {H H' : Hp} (t : Tb P w K R T H) (s : Same H H') : Tb P w K R T H' := let ⟨fs, vs, xs, h⟩ := t; ⟨fs, vs, xs, h.mono s.lef s⟩
theorem Tb.data {P : Program} {w : World} {K : PySem.W.Frag} {R : Reg} {T : List PyData} {H : Hp} {v : V} {d : PyData} (t : Tb P w K R T H) (h : DV K H v d) (hn : noL d = true) : DV K (lef R.L H) v d := let ⟨_, _, _, q⟩ := t; DV.lef q.notup h hn
def RS (P : Program) (w : World) (K : PySem.W.Frag) (R : Reg) (G : Gam) (T : List PyData) (σ : St) (H : Hp) : Prop := σ[0]? = some (some (.ref R.a)) ∧ Tb P w K R T H ∧ SD K (lef R.L H) σ G
section
variable {P : Program} {w : World} {K : PySem.W.Frag} {R : Reg} {G : Gam} {T : List PyData} {σ : St} {H H' : Hp}
theorem RS.sd (r : RS P w K R G T σ H) : SD K H σ G := r.2.2.mono lef_same
theorem RS.step (r : RS P w K R G T σ H) (s : Same H H') : RS P w K R G T σ H' := ⟨r.1, r.2.1.step s, r.2.2.mono s.lef⟩
end
def tTE (P : Program) (w : World) (K : PySem.W.Frag) (R : Reg) (G : Gam) (T : List PyData) (d : PyData) (T' : List PyData) : TE := fun σ H Q => RS P w K R G T σ H ∧ ∀ v H', Tb P w K R T' H' → Same (lef R.L H) (lef R.L H') → DV K (lef R.L H') v d → Q v H'
abbrev TEv (X : Cx) (R : Reg) (G : Gam) (T : List PyData) (e : Expr) (d : PyData) (T' : List PyData) : Prop := PE X e (tTE X.prog X.w X.K R G T d T')
def tTT (P : Program) (w : World) (K : PySem.W.Frag) (R : Reg) (G : Gam) (T : List PyData) (k : Bool) : TT := fun σ H Q => RS P w K R G T σ H ∧ ∀ H', RS P w K R G T σ H' → Same (lef R.L H) (lef R.L H') → Q k H'
abbrev TTv (X : Cx) (R : Reg) (G : Gam) (T : List PyData) (e : Expr) (k : Bool) : Prop := PT X e (tTT X.prog X.w X.K R G T k)
def tTN (P : Program) (w : World) (K : PySem.W.Frag) (R : Reg) (G : Gam) (T : List PyData) (G' : Gam) (T' : List PyData) : TS := fun D σ H => RS P w K R G T σ H ∧ ∀ σ' H', RS P w K R G' T' σ' H' → Same (lef R.L H) (lef R.L H') → D.nx σ' H'
def tTR (P : Program) (w : World) (K : PySem.W.Frag) (R : Reg) (G : Gam) (T : List PyData) (d : PyData) (T' : List PyData) : TS := fun D σ H => RS P w K R G T σ H ∧ ∀ v H', Tb P w K R T' H' → Same (lef R.L H) (lef R.L H') → DV K (lef R.L H') v d → D.rt v H'
section
variable {X : Cx} {R : Reg} {G G1 G2 : Gam} {T T1 T2 : List PyData} {e c : Expr} {d : PyData} {k : Bool} {pos pos' pos2 : Pos} {x f : Str}
theorem te_of (h : EV X G e d) (hn : noL d = true) : TEv X R G T e d T := h.imp fun σ H Q ⟨r, q⟩ => ⟨r.sd, fun v H' s' dv => q v H' (r.2.1.step s') s'.lef ((r.2.1.step s').data dv hn)⟩
theorem tt_of (h : TV X G c k) : TTv X R G T c k := h.imp fun σ H Q ⟨r, q⟩ => ⟨r.sd, fun H' s' => q H' (r.step s') s'.lef⟩
theorem tn_if {A B : List Stmt} (h : TTv X R G T c k) (h1 : k = true → PSs X A (tTN X.prog X.w X.K R G T G1 T1)) (h2 : k = false → PSs X B (tTN X.prog X.w X.K R G T G1 T1)) : PS X (.If c A B pos) (tTN X.prog X.w X.K R G T G1 T1) := by
  cases k with
  | true => exact (ps_if h (h1 rfl) (pss_never (sts := B))).imp fun D σ H ⟨r, q⟩ => ⟨r, fun H' r' s' => iteT ⟨r', fun σ2 H2 r2 s2 => q σ2 H2 r2 (s'.trans s2)⟩⟩
  | false => exact (ps_if h (pss_never (sts := A)) (h2 rfl)).imp fun D σ H ⟨r, q⟩ => ⟨r, fun H' r' s' => iteF ⟨r', fun σ2 H2 r2 s2 => q σ2 H2 r2 (s'.trans s2)⟩⟩
theorem tr_if {A sts : List Stmt} (h : TTv X R G T c k) (h1 : k = true → PSs X A (tTR X.prog X.w X.K R G T d T1)) (h2 : k = false → PSs X sts (tTR X.prog X.w X.K R G T d T1)) : PSs X (.If c A [] pos :: sts) (tTR X.prog X.w X.K R G T d T1) := by
  cases k with
  | true => exact (pss_cons (ps_if h (h1 rfl) (pss_never (sts := []))) (pss_never (sts := sts))).imp fun D σ H ⟨r, q⟩ => ⟨r, fun H' r' s' => iteT ⟨r', fun v H2 t2 s2 dv => q v H2 t2 (s'.trans s2) dv⟩⟩
  | false => exact (pss_cons (ps_if h (pss_never (sts := A)) pss_nil) (h2 rfl)).imp fun D σ H ⟨r, q⟩ => ⟨r, fun H' r' s' => iteF ⟨r', fun v H2 t2 s2 dv => q v H2 t2 (s'.trans s2) dv⟩⟩
theorem tr_cons {st : Stmt} {sts : List Stmt} (h1 : PS X st (tTN X.prog X.w X.K R G T G1 T1)) (h2 : PSs X sts (tTR X.prog X.w X.K R G1 T1 d T2)) : PSs X (st :: sts) (tTR X.prog X.w X.K R G T d T2) :=
  (pss_cons h1 h2).imp fun D σ H ⟨r, q⟩ => ⟨r, fun σ' H' r' s' => ⟨r', fun v H2 t2 s2 dv => q v H2 t2 (s'.trans s2) dv⟩⟩
theorem tn_nil : PSs X [] (tTN X.prog X.w X.K R G T G T) := pss_nil.imp fun D σ H ⟨r, q⟩ => q σ H r (Same.refl _)
theorem tr_ret {sts : List Stmt} (h : TEv X R G T e d T1) : PSs X (.Return (some e) pos :: sts) (tTR X.prog X.w X.K R G T d T1) :=
  (pss_cons (ps_ret h) (pss_never (sts := sts))).imp fun D σ H ⟨r, q⟩ => ⟨r, q⟩
end
end L2
set_option maxRecDepth 100000
set_option maxHeartbeats 1000000
namespace L2
open PySem PySem.Spec PyProof.Rows
structure ClsT (K : PySem.W.Frag) (C : Addr) : Prop where
  cl : Cls K C
  n1 : NoAttr K C "atoms"
  n2 : NoAttr K C "numbers"
def tTA (P : Program) (w : World) (K : PySem.W.Frag) (R : Reg) (G : Gam) (T : List PyData) (ds : List PyData) (T' : List PyData) : TA := fun σ H Q => RS P w K R G T σ H ∧ ∀ vs H', Tb P w K R T' H' → Same (lef R.L H) (lef R.L H') → DVs K (lef R.L H') vs ds → Q vs H'
abbrev TAv (X : Cx) (R : Reg) (G : Gam) (T : List PyData) (es : List Expr) (ds : List PyData) (T' : List PyData) : Prop := PA X es (tTA X.prog X.w X.K R G T ds T')
section
variable {X : Cx} {R : Reg} {G G1 G2 : Gam} {T T1 T2 : List PyData} {e c a : Expr} {es : List Expr} {d : PyData} {ds : List PyData} {k : Bool} {pos pos' pos2 pos3 : Pos} {x f m : Str}
theorem RS.next {P : Program} {w : World} {K : PySem.W.Frag} {σ : St} {H H' : Hp} (r : RS P w K R G T σ H) (t : Tb P w K R T1 H') (s : Same (lef R.L H) (lef R.L H')) : RS P w K R G T1 σ H' := ⟨r.1, t, r.2.2.mono s⟩
theorem ta_nil : TAv X R G T [] [] T := pa_nil.imp fun σ H Q ⟨r, q⟩ => q [] H r.2.1 (Same.refl _) .nil
theorem ta_cons (h : TEv X R G T e d T1) (hr : TAv X R G T1 es ds T2) (hs : starEach (e :: es) X.env = (false, eval e X.env) :: starEach es X.env := by rfl) : TAv X R G T (e :: es) (d :: ds) T2 :=
  (pa_cons h hr hs).imp fun σ H Q ⟨r, q⟩ => ⟨r, fun v H1 t1 s1 d1 => ⟨r.next t1 s1, fun vs H2 t2 s2 d2 => q (v :: vs) H2 t2 (s1.trans s2) (.cons (d1.mono s2) d2)⟩⟩
theorem ta_of (h : AV X G es ds) (hn : noLs ds = true) : TAv X R G T es ds T := h.imp fun σ H Q ⟨r, q⟩ => ⟨r.sd, fun vs H' s' dv => q vs H' (r.2.1.step s') s'.lef (let ⟨_, _, _, t⟩ := r.2.1.step s'; DVs.lef t.notup dv hn)⟩
theorem tb_free {P : Program} {w : World} {K : PySem.W.Frag} {H : Hp} {p : Addr} (t : Tb P w K R T H) (hp : H p = none) : p ∉ R.L := fun z => by
  obtain ⟨_, _, _, t⟩ := t
  simp only [Reg.L, List.mem_cons, List.not_mem_nil, or_false] at z
  rcases z with z | z | z
  · have := t.obj; rw [← z, hp] at this; cases this
  · have := t.lst; rw [← z, hp] at this; cases this
  · have := t.num; rw [← z, hp] at this; cases this
theorem te_tup {x1} (h : TAv X R G T es ds T1) (hz : ds.length ≤ sizeLine) : TEv X R G T (.Tuple es x1 pos) (.tuple ds) T1 :=
  (pe_tup h).imp fun σ H Q ⟨r, q⟩ => ⟨r, fun vs H1 t1 s1 d1 => ⟨by rw [d1.length]; exact hz, fun p hp => by
    have sn : Same H1 (upd H1 p (.tup vs)) := Same.new hp
    have hpl : p ∉ R.L := tb_free t1 hp
    refine q _ _ (t1.step sn) (s1.trans sn.lef) (.tup (SqT.of ?_) (d1.mono sn.lef))
    rw [lef_ne hpl]
    exact upd_same⟩⟩
theorem te_eq (h : TEv X R G T e d T1) {d' : PyData} (q : d = d') : TEv X R G T e d' T1 := q ▸ h
theorem pe_atoms (CT : ClsT X.K R.C) (hv : PE X (.Name x pos2) (tVar 0)) (hb : attributeBase (.Name x pos2) "atoms" X.env (eval (.Name x pos2) X.env) = eval (.Name x pos2) X.env := by rfl) : PE X (.Attribute (.Name x pos2) "atoms" pos) (fun σ H Q => RS X.prog X.w X.K R G T σ H ∧ Q (.ref R.la) H) :=
  (pe_fld hv hb).imp fun σ H Q ⟨⟨h0, ⟨fs, vs, xs, t⟩, sd⟩, q⟩ => ⟨.ref R.a, h0, R.a, R.C, R.dx, fs, .ref R.la, rfl, t.obj, CT.cl, CT.n1, t.f1, q⟩
theorem pe_numbers (CT : ClsT X.K R.C) (hv : PE X (.Name x pos2) (tVar 0)) (hb : attributeBase (.Name x pos2) "numbers" X.env (eval (.Name x pos2) X.env) = eval (.Name x pos2) X.env := by rfl) : PE X (.Attribute (.Name x pos2) "numbers" pos) (fun σ H Q => RS X.prog X.w X.K R G T σ H ∧ Q (.ref R.da) H) :=
  (pe_fld hv hb).imp fun σ H Q ⟨⟨h0, ⟨fs, vs, xs, t⟩, sd⟩, q⟩ => ⟨.ref R.a, h0, R.a, R.C, R.dx, fs, .ref R.da, rfl, t.obj, CT.cl, CT.n2, t.f2, q⟩
theorem pe_lenAtoms (CT : ClsT X.K R.C) (hv : PE X (.Name x pos2) (tVar 0)) (hg : Gl X "len") (hm : X.mg "len" = none) (hb : attributeBase (.Name x pos2) "atoms" X.env (eval (.Name x pos2) X.env) = eval (.Name x pos2) X.env := by rfl)
    (hs : starEach [.Attribute (.Name x pos2) "atoms" pos3] X.env = (false, eval (.Attribute (.Name x pos2) "atoms" pos3) X.env) :: starEach [] X.env := by rfl) (hpl : (backTo pos (starEach [] X.env)).any (·.1) = false := by rfl) : PE X (.Call (.Name "len" pos') [.Attribute (.Name x pos2) "atoms" pos3] [] pos) (fun σ H Q => RS X.prog X.w X.K R G T σ H ∧ Q (.int T.length) H) :=
  (pe_callB call_len_seq hg hm (by decide +kernel) (pa_cons (pe_atoms (R := R) (G := G) (T := T) CT hv hb) pa_nil hs) (by decide) (by decide) hs hpl).imp fun σ H Q ⟨r, q⟩ => ⟨r, by
    obtain ⟨fs, vs, xs, t⟩ := r.2.1
    exact ⟨R.la, vs, rfl, .inl (SqL.of t.lst), by rw [t.atoms.length]; exact q⟩⟩
theorem TabS.entD {P : Program} {w : World} {K : PySem.W.Frag} {H : Hp} {fs : List (Str × V)} {vs : List V} {xs : List (PyData × Addr × Value)} {L : List Addr} (t : TabS P w K R T (lef L H) H fs vs xs) : ∀ y ∈ xs, DV K H (.ref y.2.1) y.1 ∧ keyT y.1 := fun y hy =>
  ⟨(t.ents.2.1 y hy).mono lef_same, t.keys y.1 (by rw [← t.ents.1]; exact List.mem_map_of_mem hy)⟩
theorem tt_notIn {ds0 : List PyData} (hu : X.A.units + 17 < cLine) (CT : ClsT X.K R.C) (hv : PE X (.Name x pos2) (tVar 0)) (ha : EV X G a (.tuple ds0)) (hk : keyT (.tuple ds0)) (h1 : k = true → PyData.tuple ds0 ∉ T) (h2 : k = false → PyData.tuple ds0 ∈ T)
    (hb : attributeBase (.Name x pos2) "numbers" X.env (eval (.Name x pos2) X.env) = eval (.Name x pos2) X.env := by rfl) (hm : behindInMarks .NotIn (.Attribute (.Name x pos2) "numbers" pos') = false := by with_unfolding_all rfl) :
    TTv X R G T (.Compare a [.NotIn] [.Attribute (.Name x pos2) "numbers" pos'] pos) k := by
  have pc : PC X .NotIn a (.Attribute (.Name x pos2) "numbers" pos') (fun σ H Q => RS X.prog X.w X.K R G T σ H ∧ ∀ H', RS X.prog X.w X.K R G T σ H' → Same (lef R.L H) (lef R.L H') → Q (.bl k) H') := by
    intro pins s σ H Q I ⟨r, q⟩
    refine thn (ha pins s σ H (fun v H' => Same H H' ∧ DV X.K H' v (.tuple ds0)) I ⟨r.sd, fun v H' s' dv => ⟨s', dv⟩⟩) fun iv s1 ⟨y, H1, I1, ry, sm, dv⟩ => ?_
    have r1 := r.step sm
    refine thn (pe_numbers (R := R) (G := G) (T := T) CT hv hb pins s1 σ H1 (fun v H' => v = .ref R.da ∧ H' = H1) I1 ⟨r1, rfl, rfl⟩) fun u s2 ⟨z, H2, I2, rz, ez, eH⟩ => ?_
    subst ez eH
    obtain rfl : u = Value.ref R.da := rz
    obtain ⟨b, ys, rfl, hq, dys⟩ := dv.of_tup
    obtain rfl : iv = Value.ref b := ry
    obtain ⟨fs, vs, xs, t⟩ := r1.2.1
    refine t_notIn hu I2 t.num t.entD dv hk fun s3 I3 => ⟨.bl k, _, I3, ?_, q _ r1 sm.lef⟩
    show Value.bool _ = Value.bool k
    congr 1
    cases k with
    | true => rw [atKey_none (by rw [t.ents.1]; exact h1 rfl)]; rfl
    | false =>
      have hin := h2 rfl
      rw [← t.ents.1] at hin
      obtain ⟨y, hy, ey⟩ := List.mem_map.mp hin
      have : (atKey xs (.tuple ds0)).isSome = true := by
        unfold atKey
        rw [Option.isSome_map, List.find?_isSome]
        exact ⟨y, hy, decide_eq_true ey⟩
      rw [this]
      rfl
  exact (pt_cmp pc hm).imp fun σ H Q ⟨r, q⟩ => ⟨r, fun H' r' s' => ⟨k, rfl, q H' r' s'⟩⟩
theorem te_numAt {ds0 : List PyData} {i : Nat} (hu : X.A.units + 17 < cLine) (CT : ClsT X.K R.C) (hv : PE X (.Name x pos2) (tVar 0)) (ha : EV X G a (.tuple ds0)) (hk : keyT (.tuple ds0)) (hi : T[i]? = some (.tuple ds0)) (hs : NoSl a)
    (hb : attributeBase (.Name x pos2) "numbers" X.env (eval (.Name x pos2) X.env) = eval (.Name x pos2) X.env := by rfl) : TEv X R G T (.Subscript (.Attribute (.Name x pos2) "numbers" pos') a pos) (.int i) T := by
  intro pins s σ H Q I ⟨r, q⟩
  refine subD_of PySem.F.slot_dict_getitem.lookup hs (thn (pe_numbers (R := R) (G := G) (T := T) CT hv hb pins s σ H (fun v H' => v = .ref R.da ∧ H' = H) I ⟨r, rfl, rfl⟩) fun u s1 ⟨z, H1, I1, rz, ez, eH⟩ => ?_)
  subst ez eH
  obtain rfl : u = Value.ref R.da := rz
  refine thn (ha pins s1 σ H1 (fun v H' => Same H1 H' ∧ DV X.K H' v (.tuple ds0)) I1 ⟨r.sd, fun v H' s' dv => ⟨s', dv⟩⟩) fun iv s2 ⟨y, H2, I2, ry, sm, dv⟩ => ?_
  have r1 := r.step sm
  obtain ⟨b, ys, rfl, hq, dys⟩ := dv.of_tup
  obtain rfl : iv = Value.ref b := ry
  obtain ⟨fs, vs, xs, t⟩ := id r1.2.1
  have hxi : ∃ p, xs[i]? = some p ∧ p.1 = .tuple ds0 := by
    rw [← t.ents.1, List.getElem?_map] at hi
    exact Option.map_eq_some_iff.mp hi
  obtain ⟨⟨p1, p2, p3⟩, hp, rfl⟩ := hxi
  obtain ⟨tk, et⟩ := t.ents.2.2 i _ hp
  simp only at et
  subst et
  obtain ⟨⟨_, _, _, _, _, _, _, _, _, nd⟩, _⟩ := I2.hok R.da _ t.num
  have hat := atKey_of_get nd hp
  exact t_getItem hu I2 t.num t.entD dv hk hat fun s3 I3 => ⟨.int i, _, I3, ⟨_, rfl⟩, q _ _ r1.2.1 sm.lef (.int _)⟩
end
end L2
set_option maxRecDepth 100000
set_option maxHeartbeats 1000000
namespace L2
open PySem PySem.Spec PyProof.Rows
theorem lef_upd {L : List Addr} {H : Hp} {p : Addr} {o : HO} (h : p ∈ L) : lef L (upd H p o) = lef L H := by
  funext b
  by_cases hb : b ∈ L
  · rw [lef_in hb, lef_in hb]
  · rw [lef_ne hb, lef_ne hb, upd_ne fun z => hb (by rw [z]; exact h)]
section
variable {X : Cx} {R : Reg} {G G1 G2 : Gam} {T T1 T2 : List PyData} {e c a : Expr} {es : List Expr} {d : PyData} {ds : List PyData} {pos pos' pos2 pos3 pos4 pos5 p1 p2 p3 p4 p5 p6 p7 : Pos} {x y f m : Str} {j : Nat}
def Mid (P : Program) (w : World) (K : PySem.W.Frag) (R : Reg) (G : Gam) (T : List PyData) (d : PyData) (σ : St) (H0 H : Hp) : Prop :=
  σ[0]? = some (some (.ref R.a)) ∧ SD K (lef R.L H0) σ G ∧ ∃ fs vs xs b t, TabS P w K R T (lef R.L H0) H0 fs vs xs ∧ DV K (lef R.L H0) (.ref b) d ∧ H = upd H0 R.da (.ext (NumAt P w R.da (xs ++ [(d, b, .int T.length t)])))
theorem ps_new1 {ds0 : List PyData} (hu : X.A.units + 17 < cLine) (CT : ClsT X.K R.C) (hv : ∀ pos : Pos, PE X (.Name x pos) (tVar 0)) (hy : ∀ pos : Pos, PE X (.Name y pos) (tVar j)) (hG : G[j]? = some (some (.tuple ds0))) (hk : keyT (.tuple ds0)) (hn : PyData.tuple ds0 ∉ T) (hg : Gl X "len") (hm : X.mg "len" = none)
    (hb : attributeBase (.Name x p2) "numbers" X.env (eval (.Name x p2) X.env) = eval (.Name x p2) X.env := by rfl)
    (hb2 : attributeBase (.Name x pos2) "atoms" X.env (eval (.Name x pos2) X.env) = eval (.Name x pos2) X.env := by rfl)
    (hs : starEach [.Attribute (.Name x pos2) "atoms" pos3] X.env = (false, eval (.Attribute (.Name x pos2) "atoms" pos3) X.env) :: starEach [] X.env := by rfl) (hpl : (backTo pos5 (starEach [] X.env)).any (·.1) = false := by rfl)
    (hsw : swapsWith (.Call (.Name "len" pos4) [.Attribute (.Name x pos2) "atoms" pos3] [] pos5) (some (.Subscript (.Attribute (.Name x p2) "numbers" p3) (.Name y p4) pos')) pos.line X.env = pure false := by rfl) :
    PS X (.Assign [.Subscript (.Attribute (.Name x p2) "numbers" p3) (.Name y p4) pos'] (.Call (.Name "len" pos4) [.Attribute (.Name x pos2) "atoms" pos3] [] pos5) pos) (fun D σ H => RS X.prog X.w X.K R G T σ H ∧ ∀ H', Mid X.prog X.w X.K R G T (.tuple ds0) σ H H' → D.nx σ H') := by
  intro pins s σ H D I ⟨r, q⟩
  refine wpAny_Assign_Subscript (thn (pe_lenAtoms (R := R) (G := G) (T := T) CT (hv _) hg hm hb2 hs hpl pins s σ H (fun v H' => v = .int T.length ∧ H' = H) I ⟨r, rfl, rfl⟩) fun rv s1 ⟨v, H1, I1, rx, ev, eH⟩ => ?_) hsw
  subst ev eH
  refine thn (pe_numbers (R := R) (G := G) (T := T) CT (hv _) hb pins s1 σ H1 (fun v H' => v = .ref R.da ∧ H' = H1) I1 ⟨r, rfl, rfl⟩) fun u s2 ⟨z, H2, I2, rz, ez, eH⟩ => ?_
  subst ez eH
  obtain rfl : u = Value.ref R.da := rz
  obtain ⟨vj, ej, dj⟩ := r.2.2.2 j _ hG
  refine thn (hy _ pins s2 σ H2 (fun v H' => v = vj ∧ H' = H2) I2 ⟨vj, ej, rfl, rfl⟩) fun iv s3 ⟨z, H3, I3, rz, ez, eH⟩ => ?_
  subst ez eH
  obtain ⟨b, ys, rfl, hq, dys⟩ := dj.of_tup
  obtain rfl : iv = Value.ref b := rz
  obtain ⟨t, rfl⟩ := (show ∃ t, rv = Value.int T.length t from rx)
  obtain ⟨fs, vs, xs, tb⟩ := id r.2.1
  have hl : xs.length = T.length := by rw [← tb.ents.1, List.length_map]
  refine t_setItem hu I3 tb.num tb.entD (dj.mono lef_same) hk (by rw [hl, sizeLine_eq]; have := tb.few; omega) (atKey_none (by rw [tb.ents.1]; exact hn)) fun s4 I4 => ⟨σ, _, I4, q _ ⟨r.1, r.2.2, fs, vs, xs, b, t, tb, dj, rfl⟩⟩
theorem ps_new2 {ds0 : List PyData} (CT : ClsT X.K R.C) (hv : ∀ pos : Pos, PE X (.Name x pos) (tVar 0)) (hy : ∀ pos : Pos, PE X (.Name y pos) (tVar j)) (hG : G[j]? = some (some (.tuple ds0))) (hk : keyT (.tuple ds0)) (hz : T.length < 900)
    (hb : attributeBase (.Name x p2) "atoms" X.env (eval (.Name x p2) X.env) = eval (.Name x p2) X.env := by rfl)
    (hb2 : attributeBase (.Attribute (.Name x p2) "atoms" p3) "append" X.env (eval (.Attribute (.Name x p2) "atoms" p3) X.env) = eval (.Attribute (.Name x p2) "atoms" p3) X.env := by rfl)
    (hs0 : starEach [.Name y p5] X.env = (false, eval (.Name y p5) X.env) :: starEach [] X.env := by rfl)
    (hfew : ((backTo pos' (starEach [.Name y p5] X.env)).all (fun x => !x.1) && (backToKw pos' (keywordEach [] X.env)).all (fun x => x.1.isSome)
      && decide ([Expr.Name y p5].length + ([] : List Keyword).length + (if ([] : List Keyword).isEmpty then 0 else 1) < 30)) = true := by rfl)
    (hline : (p4.endLine == pos'.line) = true := by rfl) (hpl : (backTo pos' (starEach [] X.env)).any (·.1) = false := by rfl)
    (hsw : swapsWith (.Call (.Attribute (.Attribute (.Name x p2) "atoms" p3) "append" p4) [.Name y p5] [] pos') none pos.line X.env = pure false := by rfl) :
    PS X (.Expr (.Call (.Attribute (.Attribute (.Name x p2) "atoms" p3) "append" p4) [.Name y p5] [] pos') pos) (fun D σ H => (∃ H0, Mid X.prog X.w X.K R G T (.tuple ds0) σ H0 H ∧ ∀ H', RS X.prog X.w X.K R G (T ++ [.tuple ds0]) σ H' → Same (lef R.L H0) (lef R.L H') → D.nx σ H')) := by
  refine (ps_expr (pe_bm PySem.F.plainAttrs_list PySem.F.slot_list_append PySem.F.type_list_append mt_append (pe_fld (hv _) hb) (pa_cons (hy _) pa_nil hs0) hb2 hfew hline hs0 hpl) hsw).imp fun D σ H ⟨H0, ⟨h0, sd, fs, vs, xs, b, t, tb, db, eH⟩, q⟩ => ?_
  subst eH
  have nda : R.a ≠ R.da := ne_of tb.obj tb.num (fun z => by cases z)
  have nla : R.la ≠ R.da := ne_of tb.lst tb.num (fun z => by cases z)
  have nal : R.a ≠ R.la := ne_of tb.obj tb.lst (fun z => by cases z)
  obtain ⟨vj, ej, dj⟩ := sd.2 j _ hG
  have hl : xs.length = T.length := by rw [← tb.ents.1, List.length_map]
  refine ⟨.ref R.a, h0, R.a, R.C, R.dx, fs, .ref R.la, rfl, by rw [upd_ne nda]; exact tb.obj, CT.cl, CT.n1, tb.f1, .inl ⟨rfl, vs, SqL.of (by rw [upd_ne nla]; exact tb.lst)⟩, vj, ej, R.la, vs, vj, rfl, rfl, by rw [upd_ne nla]; exact tb.lst, by rw [tb.atoms.length, sizeLine_eq]; omega, ?_⟩
  have el : lef R.L (upd (upd H0 R.da (.ext (NumAt X.prog X.w R.da (xs ++ [(.tuple ds0, b, .int T.length t)])))) R.la (.lst (vs ++ [vj]))) = lef R.L H0 := by
    rw [lef_upd (by simp [Reg.L]), lef_upd (by simp [Reg.L])]
  refine q _ ⟨h0, ⟨fs, vs ++ [vj], xs ++ [(.tuple ds0, b, .int T.length t)], ?_⟩, by rw [el]; exact sd⟩ (by rw [el]; exact Same.refl _)
  rw [el]
  refine ⟨by rw [upd_ne nal, upd_ne nda]; exact tb.obj, tb.f1, tb.f2, tb.fn, upd_same, by rw [upd_ne (Ne.symm nla), upd_same], tb.atoms.append (.cons dj .nil), ⟨by rw [List.map_append, tb.ents.1]; rfl, fun z hz => ?_, fun i z hz => ?_⟩, fun z hz => ?_, by rw [List.length_append]; show T.length + 1 < 1000; omega⟩
  · rcases List.mem_append.mp hz with hz | hz
    · exact tb.ents.2.1 z hz
    · have := List.mem_singleton.mp hz
      subst this
      exact db
  · by_cases hi : i < xs.length
    · rw [List.getElem?_append_left hi] at hz
      exact tb.ents.2.2 i z hz
    · rw [List.getElem?_append_right (by omega)] at hz
      have e0 : i - xs.length = 0 := by
        cases h : i - xs.length with
        | zero => rfl
        | succ n => rw [h] at hz; simp at hz
      rw [e0] at hz
      simp at hz
      subst hz
      exact ⟨t, by show Value.int (T.length : Int) t = .int i t; rw [show i = T.length by omega]⟩
  · rcases List.mem_append.mp hz with hz | hz
    · exact tb.keys z hz
    · have := List.mem_singleton.mp hz
      subst this
      exact hk
end
def spT (P : Program) (w : World) (K : PySem.W.Frag) (C : Addr) (F : List PyData → List PyData → PyData → List PyData → Prop) : Sp := fun vs H Q _ => ∃ (R : Reg) (T ds : List PyData) (d : PyData) (T' : List PyData) (vr : List V), R.C = C ∧ vs = .ref R.a :: vr ∧ Tb P w K R T H ∧ DVs K (lef R.L H) vr ds ∧ F T ds d T' ∧
  ∀ v H', Tb P w K R T' H' → Same (lef R.L H) (lef R.L H') → DV K (lef R.L H') v d → Q v H'
def TFn (P : Program) (w : World) (K : PySem.W.Frag) (mg : Str → Option Value) (base : Heap) (k : Nat) (C : Addr) (m : Str) (F : List PyData → List PyData → PyData → List PyData → Prop) : Prop :=
  ∃ f fd ps, FnOk P w K mg base CX0 k f fd ps (spT P w K C F) ∧ Meth K C m f ∧ Binds K fd ps []
theorem SD.cons0 {K : PySem.W.Frag} {H : Hp} {σ : St} {G : Gam} (h : SD K H σ G) (o : Option V) : SD K H (o :: σ) (none :: G) := ⟨by simp [h.1], fun i d e => by
  cases i with
  | zero => simp at e
  | succ i =>
    simp at e
    obtain ⟨v, h1, h2⟩ := h.2 i d e
    exact ⟨v, by simpa using h1, h2⟩⟩
theorem start_cons (n : Str) (N : List Str) (v : V) (vs : List V) : start (n :: N) (v :: vs) = some v :: start N vs := by
  unfold start
  simp
section
variable {P : Program} {w : World} {K : PySem.W.Frag} {mg : Str → Option Value} {base : Heap}
theorem Fun.tab {x qual n0 : Str} {st : Stmt} {f : Addr} {fd : FuncData} {N ps : List Str} {k : Nat} {C : Addr} {F : List PyData → List PyData → PyData → List PyData → Prop} (F0 : Fun K x qual st f fd) (S : FnScope (n0 :: N) ps (defScope st)) (len : ∀ T ds d T', F T ds d T' → ds.length + 1 = ps.length)
    (hbody : ∀ (cdv : Value) (A : Around) (outer : List Env) (s : Shared) (H : Hp) (E : XK) (R : Reg) (T ds : List PyData) (d : PyData) (T' : List PyData), Room k (A.deeper (envOfC qual (defScope st) s.heap.objs.size f cdv)) → R.C = C → F T ds d T' →
      PSs (cxOf CX0 P w K mg base (n0 :: N) qual (defScope st) f cdv A outer s H E).nox (defBody st) (tTR P w K R (none :: startG N ds) T d T')) : FnOk P w K mg base CX0 (k + 1) f fd ps (spT P w K C F) := by
  refine F0.ok S (fun vs H Q E ⟨R, T, ds, d, T', vr, _, e, _, dv, hF, _⟩ => by rw [e, List.length_cons, dv.length]; exact len T ds d T' hF) (fun cdv A outer s H vs Q E hr ⟨R, T, ds, d, T', vr, hC, e, tb, dv, hF, q⟩ => ?_)
  subst e
  refine ⟨_, hbody cdv A outer s H E R T ds d T' hr hC hF, ⟨?_, tb, ?_⟩, q⟩
  · rw [start_cons]; rfl
  · rw [start_cons]; exact (SD.start dv).cons0 _
end
section
variable {X : Cx} {R : Reg} {G G1 G2 : Gam} {T T1 T2 : List PyData} {e c a : Expr} {es : List Expr} {d : PyData} {ds : List PyData} {k : Nat} {pos pos' pos2 apos : Pos} {x y m : Str}
theorem te_meth {F : List PyData → List PyData → PyData → List PyData → Prop} {pl : Sem Bool} (cl : Cls X.K R.C) (D : TFn X.prog X.w X.K X.mg X.base k R.C m F) (hr : Room k X.A) (hv : PE X (.Name x pos2) (tVar 0)) (ha : TAv X R G T (e :: es) ds T1) (hF : F T1 ds d T2) (h1 : m ≠ "atoms" := by decide) (h2 : m ≠ "numbers" := by decide)
    (hst : starEach (e :: es) X.env = (false, eval e X.env) :: starEach es X.env := by rfl) (hpl : (backTo pos (starEach es X.env)).any (·.1) = false := by rfl)
    (ht : eval (.Call (.Attribute (.Name x pos2) m apos) (e :: es) [] pos) X.env = (do
      let ov ← eval (.Name x pos2) X.env
      standAt apos.atName
      let (f, first) ← holding [ov] (getMethod ov m pl)
      callWith pos f first (backTo pos (starEach (e :: es) X.env)) (backToKw pos (keywordEach [] X.env))) := by rfl) :
    TEv X R G T (.Call (.Attribute (.Name x pos2) m apos) (e :: es) [] pos) d T2 := by
  obtain ⟨f, fd, ps, ok, hm, hb⟩ := D
  refine (pe_meth (E := E0) (dvs := []) (ds := []) hv cl hm ok hr hb .nil pass0 ha hst hpl ht).imp fun σ H Q ⟨r, q⟩ => ?_
  obtain ⟨fs, vs, xs, t⟩ := id r.2.1
  refine ⟨.ref R.a, r.1, R.a, R.dx, fs, rfl, t.obj, t.fn m h1 h2, r, fun vs' H' t' s' dv => ?_⟩
  show spT X.prog X.w X.K R.C F (V.ref R.a :: (vs' ++ [])) H' Q E0
  rw [List.append_nil]
  exact ⟨R, T1, ds, d, T2, vs', rfl, rfl, t', dv, hF, fun v H2 t2 s2 d2 => q v H2 t2 (s'.trans s2) d2⟩
end
theorem pe_dnewX {X : Cx} {pos : Pos} : PE X (.Dict [] [] pos) (fun _ H Q => ∀ p, H p = none → Q (.ref p) (upd H p (.ext (NumAt X.prog X.w p [])))) := fun pins s σ H Q I h =>
  wpAny_Dict_empty ⟨.ref s.heap.objs.size, _, I.laid (a := s.heap.objs.size) (o := .ext (NumAt X.prog X.w s.heap.objs.size [])) (t' := s.toks) (fun _ _ q => Heap.get?_push_of_some _ q) (Nat.le_refl _)
    (numAt_ok ⟨beq_eq_false_iff_ne.mpr (Ne.symm (Nat.ne_of_lt I.big)), Nat.zero_le _, _, #[], 0, Heap.get?_push_size _ rfl, ⟨rfl, rfl, rfl⟩, rfl, rfl, List.nodup_nil⟩), rfl, h _ (I.hok.fresh (Nat.le_refl _))⟩
def spTI (P : Program) (w : World) (K : PySem.W.Frag) (C : Addr) : Sp := fun vs H Q _ => ∃ (a dx : Addr), vs = [.ref a] ∧ H a = some (.ins C dx []) ∧ ∀ H' R, R.C = C → R.a = a → Tb P w K R [] H' → (∀ b o, b ≠ a → H b = some o → H' b = some o) → H R.la = none → H R.da = none → Q .non H'
section
variable {P : Program} {w : World} {K : PySem.W.Frag} {mg : Str → Option Value} {base : Heap}
theorem tab_init {X : Cx} {C : Addr} {x : Str} {pos pos' pos2 pos3 p1 p2 p3 p4 : Pos} {H : Hp} {a dx : Addr} (CT : ClsT X.K C) (hv : ∀ pos : Pos, PE X (.Name x pos) (tVar 0))
    (hs : swapsWith (.List [] pos3) (some (.Attribute (.Name x pos2) "atoms" pos')) pos.line X.env = pure false := by rfl) (hs2 : swapsWith (.Dict [] [] p3) (some (.Attribute (.Name x p2) "numbers" p4)) p1.line X.env = pure false := by rfl) :
    PSs X [.Assign [.Attribute (.Name x pos2) "atoms" pos'] (.List [] pos3) pos, .Assign [.Attribute (.Name x p2) "numbers" p4] (.Dict [] [] p3) p1]
      (fun D σ H => ∃ a dx, σ[0]? = some (some (.ref a)) ∧ H a = some (.ins C dx []) ∧ ∀ H' R, R.C = C → R.a = a → Tb X.prog X.w X.K R [] H' → (∀ b o, b ≠ a → H b = some o → H' b = some o) → H R.la = none → H R.da = none → D.nx σ H') := by
  refine (pss_cons (ps_fld (hv _) (pe_lst pa_nil) hs) (pss_cons (ps_fld (hv _) pe_dnewX hs2) pss_nil)).imp fun D σ H ⟨a, dx, h0, ha, q⟩ => ?_
  refine ⟨Nat.zero_le _, fun la hla => ⟨.ref a, h0, a, C, dx, [], rfl, by rw [upd_ne (ne_of_none ha hla)]; exact ha, CT.cl, CT.n1, by decide, ?_⟩⟩
  have nal : a ≠ la := ne_of_none ha hla
  intro da hda
  have hda1 : upd H la (.lst []) da = none := by
    by_cases e : da = a
    · subst e; rw [upd_same] at hda; cases hda
    · rw [upd_ne e] at hda; exact hda
  have nla : la ≠ da := fun e => by subst e; rw [upd_same] at hda1; cases hda1
  have hda2 : H da = none := by rw [upd_ne (Ne.symm nla)] at hda1; exact hda1
  have nda : a ≠ da := ne_of_none ha hda2
  refine ⟨.ref a, h0, a, C, dx, putF "atoms" (.ref la) [], rfl, by rw [upd_ne nda, upd_same], CT.cl, CT.n2, by show (putF "atoms" (V.ref la) []).length < 1000; have := length_putF "atoms" (V.ref la) []; simp at this; omega, ?_⟩
  refine q _ ⟨C, a, dx, la, da⟩ rfl rfl ⟨_, [], [], ⟨upd_same, ?_, ?_, fun m h1 h2 => ?_, ?_, ?_, .nil, ⟨rfl, (fun _ h => by cases h), (fun j x h => by simp at h)⟩, (fun _ h => by cases h), by decide⟩⟩ (fun b o hb e => ?_) hla hda2
  · show (putF "numbers" (V.ref da) (putF "atoms" (V.ref la) [])).lookup ("atoms" : Str) = _
    rw [lookup_putF, if_neg (by decide), lookup_putF, if_pos rfl]
  · show (putF "numbers" (V.ref da) (putF "atoms" (V.ref la) [])).lookup ("numbers" : Str) = _
    rw [lookup_putF, if_pos rfl]
  · rw [lookup_putF, if_neg h2, lookup_putF, if_neg h1]
    rfl
  · show upd _ a _ la = _
    rw [upd_ne (Ne.symm nal), upd_ne nla, upd_ne (Ne.symm nal), upd_same]
  · show upd _ a _ da = _
    rw [upd_ne (Ne.symm nda), upd_same]
  · rw [upd_ne hb, upd_ne (ne_of_none e hda2), upd_ne hb, upd_ne (ne_of_none e hla)]
    exact e
end
end L2
set_option maxRecDepth 100000
set_option maxHeartbeats 1000000
namespace L2
abbrev Tm := Int × List (Int × Int)
open PySem PySem.Spec PyProof.Rows in
def tmD (t : Tm) : PyData := .tuple [.int t.1, .tuple (t.2.map pairD)]
abbrev kys (m : List (Int × Int)) : List Int := m.map (·.1)
theorem getI_cons (q : Int × Int) (m : List (Int × Int)) (a : Int) : getI (q :: m) a = if q.1 = a then q.2 else getI m a := by
  unfold getI
  rw [List.lookup_cons]
  by_cases h : q.1 = a
  · subst h; simp
  · rw [if_neg h, beq_eq_false_iff_ne.mpr (Ne.symm h)]
theorem getI_none {a : Int} : ∀ {m : List (Int × Int)}, a ∉ kys m → getI m a = 0
  | [], _ => rfl
  | q :: m, h => by
    rw [getI_cons, if_neg fun e => h (by rw [← e]; exact List.mem_cons_self), getI_none fun z => h (List.mem_cons_of_mem _ z)]
theorem hasI_iff (m : List (Int × Int)) (a : Int) : hasI m a = true ↔ a ∈ kys m := by
  unfold hasI
  rw [List.any_eq_true]
  constructor
  · rintro ⟨q, hq, e⟩
    exact List.mem_map.mpr ⟨q, hq, of_decide_eq_true e⟩
  · intro h
    obtain ⟨q, hq, e⟩ := List.mem_map.mp h
    exact ⟨q, hq, decide_eq_true e⟩
theorem getI_app (a : Int) (n b : Int) : ∀ (m : List (Int × Int)), a ∉ kys m → getI (m ++ [(a, n)]) b = if b = a then n else getI m b
  | [], _ => by
    show getI [(a, n)] b = _
    rw [getI_cons]
    by_cases h : b = a
    · subst h; simp
    · rw [if_neg h, if_neg fun e => h e.symm]
  | q :: m, h => by
    rw [List.cons_append, getI_cons, getI_cons, getI_app a n b m fun z => h (List.mem_cons_of_mem _ z)]
    by_cases e : q.1 = b
    · have : b ≠ a := fun z => h (by rw [← z, ← e]; exact List.mem_cons_self)
      rw [if_pos e, if_neg this, if_pos e]
    · rw [if_neg e, if_neg e]
theorem getI_rep (a : Int) (n b : Int) : ∀ (m : List (Int × Int)), a ∈ kys m → getI (m.map fun q => if q.1 = a then (q.1, n) else q) b = if b = a then n else getI m b
  | [], h => by cases h
  | q :: m, h => by
    rw [List.map_cons, getI_cons, getI_cons]
    by_cases e : q.1 = a
    · rw [if_pos e]
      by_cases eb : q.1 = b
      · rw [if_pos eb, if_pos (by rw [← eb, e])]
      · rw [if_neg eb, if_neg eb]
        by_cases hm : a ∈ kys m
        · exact getI_rep a n b m hm
        · have : b ≠ a := fun z => eb (by rw [e, z])
          rw [if_neg this]
          congr 1
          have key : ∀ l : List (Int × Int), a ∉ kys l → (l.map fun q => if q.1 = a then (q.1, n) else q) = l := by
            intro l
            induction l with
            | nil => intro _; rfl
            | cons z l ih =>
              intro hz
              rw [List.map_cons, ih fun y => hz (List.mem_cons_of_mem _ y), if_neg fun y => hz (by rw [← y]; exact List.mem_cons_self)]
          exact key m hm
    · rw [if_neg e]
      have hm : a ∈ kys m := by
        rcases List.mem_cons.mp h with z | z
        · exact absurd z.symm e
        · exact z
      by_cases eb : q.1 = b
      · rw [if_pos eb, if_pos eb, if_neg fun z => e (by rw [eb, z])]
      · rw [if_neg eb, if_neg eb]
        exact getI_rep a n b m hm
theorem getI_put (m : List (Int × Int)) (a n b : Int) : getI (putI m a n) b = if b = a then n else getI m b := by
  unfold putI
  by_cases h : hasI m a = true
  · rw [if_pos h]
    exact getI_rep a n b m ((hasI_iff m a).mp h)
  · rw [if_neg h]
    exact getI_app a n b m fun z => h ((hasI_iff m a).mpr z)
theorem kys_put (m : List (Int × Int)) (a n : Int) : kys (putI m a n) = if a ∈ kys m then kys m else kys m ++ [a] := by
  unfold putI
  by_cases h : hasI m a = true
  · rw [if_pos h, if_pos ((hasI_iff m a).mp h)]
    unfold kys
    rw [List.map_map]
    congr 1
    funext q
    simp only [Function.comp]
    split <;> rfl
  · rw [if_neg h, if_neg fun z => h ((hasI_iff m a).mpr z)]
    simp [kys]
theorem put_nodup {m : List (Int × Int)} (a n : Int) (h : (kys m).Nodup) : (kys (putI m a n)).Nodup := by
  rw [kys_put]
  split
  · exact h
  · rename_i hn
    rw [List.nodup_append]
    refine ⟨h, by simp, fun x hx y hy => ?_⟩
    rw [List.mem_singleton.mp hy]
    exact fun e => hn (e ▸ hx)
theorem put_mem {m : List (Int × Int)} {a n x : Int} (h : x ∈ kys (putI m a n)) : x ∈ kys m ∨ x = a := by
  rw [kys_put] at h
  split at h
  · exact .inl h
  · rcases List.mem_append.mp h with h | h
    · exact .inl h
    · exact .inr (List.mem_singleton.mp h)
def stepI (k : Int) (m : List (Int × Int)) (q : Int × Int) : List (Int × Int) := putI m q.1 (getI m q.1 + k * q.2)
def addI (m u : List (Int × Int)) (k : Int) : List (Int × Int) := u.foldl (stepI k) m
theorem addI_nodup (k : Int) : ∀ (u m : List (Int × Int)), (kys m).Nodup → (kys (addI m u k)).Nodup
  | [], m, h => h
  | q :: u, m, h => addI_nodup k u _ (put_nodup _ _ h)
theorem addI_mem (k : Int) {x : Int} : ∀ (u m : List (Int × Int)), x ∈ kys (addI m u k) → x ∈ kys m ∨ x ∈ kys u
  | [], m, h => .inl h
  | q :: u, m, h => by
    rcases addI_mem k u _ h with z | z
    · rcases put_mem z with z | z
      · exact .inl z
      · exact .inr (by rw [z]; exact List.mem_cons_self)
    · exact .inr (List.mem_cons_of_mem _ z)
theorem getI_addI (k a : Int) : ∀ (u m : List (Int × Int)), (kys u).Nodup → getI (addI m u k) a = getI m a + k * getI u a
  | [], m, _ => by
    show getI m a = getI m a + k * 0
    simp
  | q :: u, m, h => by
    obtain ⟨h1, h2⟩ := List.nodup_cons.mp h
    show getI (addI (stepI k m q) u k) a = _
    rw [getI_addI k a u _ h2, getI_cons]
    unfold stepI
    rw [getI_put]
    by_cases e : a = q.1
    · subst e
      rw [if_pos rfl, if_pos rfl, getI_none h1]
      simp
    · rw [if_neg e, if_neg fun z => e z.symm]
theorem getI_mulI (n a : Int) : ∀ (u : List (Int × Int)), getI (u.map fun q => (q.1, q.2 * n)) a = getI u a * n
  | [] => by show (0 : Int) = 0 * n; simp
  | q :: u => by
    rw [List.map_cons, getI_cons, getI_cons, getI_mulI n a u]
    split <;> rfl
def made (w : Int) (m : List (Int × Int)) : Tm := (w % 4096, ((srtI (kys m)).filter fun a => !decide (getI m a % 4096 = 0)).map fun a => (a, getI m a % 4096))
def okA (a : Int) : Prop := 0 ≤ a ∧ a < 63
structure Wf (t : Tm) : Prop where
  n : 0 ≤ t.1 ∧ t.1 < 4096
  rise : (kys t.2).Pairwise (· < ·)
  at_ : ∀ a ∈ kys t.2, okA a
  many : ∀ q ∈ t.2, 0 < q.2 ∧ q.2 < 4096
theorem rise_nodup {l : List Int} (h : l.Pairwise (· < ·)) : l.Nodup := h.imp fun h e => by omega
theorem Wf.nodup {t : Tm} (h : Wf t) : (kys t.2).Nodup := rise_nodup h.rise
theorem getI_of_mem : ∀ {m : List (Int × Int)}, (kys m).Nodup → ∀ q ∈ m, getI m q.1 = q.2
  | [], _, q, h => by cases h
  | z :: m, nd, q, h => by
    obtain ⟨h1, h2⟩ := List.nodup_cons.mp nd
    rw [getI_cons]
    rcases List.mem_cons.mp h with e | e
    · rw [e, if_pos rfl]
    · have : z.1 ≠ q.1 := fun y => h1 (by show z.1 ∈ _; rw [y]; exact List.mem_map_of_mem e)
      rw [if_neg this]
      exact getI_of_mem h2 q e
theorem back_of : ∀ {m : List (Int × Int)}, (kys m).Nodup → m = (kys m).map fun a => (a, getI m a) := fun {m} nd => by
  have : ∀ l : List (Int × Int), (∀ q ∈ l, q ∈ m) → l = (kys l).map fun a => (a, getI m a) := by
    intro l
    induction l with
    | nil => intro _; rfl
    | cons z l ih =>
      intro h
      show z :: l = (z.1, getI m z.1) :: (kys l).map fun a => (a, getI m a)
      rw [getI_of_mem nd z (h z List.mem_cons_self), ← ih fun q hq => h q (List.mem_cons_of_mem _ hq)]
  exact this m fun _ h => h
theorem Wf.mem {t : Tm} (h : Wf t) (a : Int) : a ∈ kys t.2 ↔ getI t.2 a ≠ 0 := by
  constructor
  · intro ha
    obtain ⟨q, hq, e⟩ := List.mem_map.mp ha
    have := getI_of_mem h.nodup q hq
    rw [← e, this]
    have := (h.many q hq).1
    omega
  · intro hn
    by_cases z : a ∈ kys t.2
    · exact z
    · exact absurd (getI_none z) hn
theorem Wf.ext {t u : Tm} (h : Wf t) (h' : Wf u) (e : t.1 = u.1) (eg : ∀ a, getI t.2 a = getI u.2 a) : t = u := by
  have ek : kys t.2 = kys u.2 := rise_unique h.rise h'.rise fun x => by rw [h.mem, h'.mem, eg]
  have e2 : t.2 = u.2 := by
    rw [back_of h.nodup, back_of h'.nodup, ek]
    congr 1
    funext a
    rw [eg]
  exact Prod.ext e e2
theorem Wf.co {t : Tm} (h : Wf t) (a : Int) : 0 ≤ getI t.2 a ∧ getI t.2 a < 4096 := by
  by_cases z : a ∈ kys t.2
  · obtain ⟨q, hq, e⟩ := List.mem_map.mp z
    rw [← e, getI_of_mem h.nodup q hq]
    have := h.many q hq
    omega
  · rw [getI_none z]; omega
theorem made_kys (w : Int) (m : List (Int × Int)) : kys (made w m).2 = (srtI (kys m)).filter fun a => !decide (getI m a % 4096 = 0) := by
  unfold made kys
  rw [List.map_map]
  show List.map (fun a => a) _ = _
  rw [List.map_id']
theorem made_co (w : Int) (m : List (Int × Int)) (a : Int) : getI (made w m).2 a = getI m a % 4096 := by
  have key : ∀ l : List Int, getI (l.map fun a => (a, getI m a % 4096)) a = if a ∈ l then getI m a % 4096 else 0 := by
    intro l
    induction l with
    | nil => rfl
    | cons z l ih =>
      rw [List.map_cons, getI_cons, ih]
      by_cases e : z = a
      · subst e; simp
      · rw [if_neg e]
        by_cases h : a ∈ l
        · rw [if_pos h, if_pos (List.mem_cons_of_mem _ h)]
        · rw [if_neg h, if_neg fun z' => ?_]
          rcases List.mem_cons.mp z' with y | y
          · exact e y.symm
          · exact h y
  show getI (((srtI (kys m)).filter fun a => !decide (getI m a % 4096 = 0)).map fun a => (a, getI m a % 4096)) a = _
  rw [key]
  split
  · rfl
  · rename_i h
    rw [List.mem_filter, srtI_mem] at h
    by_cases z : getI m a % 4096 = 0
    · exact z.symm
    · by_cases hm : a ∈ kys m
      · exact absurd ⟨hm, by simp [z]⟩ h
      · rw [getI_none hm]; rfl
theorem made_wf {w : Int} {m : List (Int × Int)} (h : ∀ a ∈ kys m, okA a) : Wf (made w m) := by
  refine ⟨⟨Int.emod_nonneg _ (by decide), Int.emod_lt_of_pos _ (by decide)⟩, ?_, fun a ha => ?_, fun q hq => ?_⟩
  · rw [made_kys]
    exact (srtI_rise _).filter _
  · rw [made_kys, List.mem_filter, srtI_mem] at ha
    exact h a ha.1
  · obtain ⟨a, ha, e⟩ := List.mem_map.mp hq
    rw [List.mem_filter] at ha
    have h1 := Int.emod_nonneg (getI m a) (show (4096 : Int) ≠ 0 by decide)
    have h2 := Int.emod_lt_of_pos (getI m a) (show (0 : Int) < 4096 by decide)
    have h3 : getI m a % 4096 ≠ 0 := by simpa using ha.2
    rw [← e]
    exact ⟨by show 0 < getI m a % 4096; omega, h2⟩
def lsum (t u : Tm) (k : Int) : Tm := made (t.1 + k * u.1) (addI t.2 u.2 k)
def plusT (t u : Tm) : Tm := lsum t u 1
def manyT (t : Tm) (n : Int) : Tm := made (t.1 * n) (t.2.map fun q => (q.1, q.2 * n))
def minusT (t u : Tm) : Tm := plusT t (manyT u 4095)
def numT (n : Int) : Tm := (n % 4096, [])
section
variable {t u v : Tm} {k n : Int}
theorem lsum_wf (ht : Wf t) (hu : Wf u) : Wf (lsum t u k) := made_wf fun a ha => by
  rcases addI_mem k _ _ ha with h | h
  · exact ht.at_ a h
  · exact hu.at_ a h
theorem lsum_co (hu : Wf u) (a : Int) : getI (lsum t u k).2 a = (getI t.2 a + k * getI u.2 a) % 4096 := by
  unfold lsum
  rw [made_co, getI_addI k a _ _ hu.nodup]
theorem lsum_n : (lsum t u k).1 = (t.1 + k * u.1) % 4096 := rfl
theorem plus_wf (ht : Wf t) (hu : Wf u) : Wf (plusT t u) := lsum_wf ht hu
theorem plus_co (hu : Wf u) (a : Int) : getI (plusT t u).2 a = (getI t.2 a + getI u.2 a) % 4096 := by
  unfold plusT
  rw [lsum_co hu, Int.one_mul]
theorem plus_n : (plusT t u).1 = (t.1 + u.1) % 4096 := by
  unfold plusT
  rw [lsum_n, Int.one_mul]
theorem many_kys (t : Tm) (n : Int) : kys (t.2.map fun q => (q.1, q.2 * n)) = kys t.2 := by
  unfold kys
  rw [List.map_map]
  rfl
theorem many_wf (ht : Wf t) : Wf (manyT t n) := made_wf fun a ha => by
  rw [many_kys] at ha
  exact ht.at_ a ha
theorem many_co (a : Int) : getI (manyT t n).2 a = (getI t.2 a * n) % 4096 := by
  unfold manyT
  rw [made_co, getI_mulI]
theorem many_n : (manyT t n).1 = (t.1 * n) % 4096 := rfl
theorem num_wf : Wf (numT n) := ⟨⟨Int.emod_nonneg _ (by decide), Int.emod_lt_of_pos _ (by decide)⟩, List.Pairwise.nil, (fun _ h => by cases h), (fun _ h => by cases h)⟩
theorem minus_wf (ht : Wf t) (hu : Wf u) : Wf (minusT t u) := plus_wf ht (many_wf hu)
theorem minus_co (hu : Wf u) (a : Int) : getI (minusT t u).2 a = (getI t.2 a + 4095 * getI u.2 a) % 4096 := by
  unfold minusT
  rw [plus_co (many_wf hu), many_co]
  omega
theorem minus_n : (minusT t u).1 = (t.1 + 4095 * u.1) % 4096 := by
  unfold minusT
  rw [plus_n, many_n]
  omega
theorem minus_lsum (ht : Wf t) (hu : Wf u) : minusT t u = lsum t u 4095 := (minus_wf ht hu).ext (lsum_wf ht hu) minus_n fun a => by rw [minus_co hu, lsum_co hu]
theorem nil_wf : Wf (0, []) := ⟨by decide, List.Pairwise.nil, (fun _ h => by cases h), (fun _ h => by cases h)⟩
theorem many_lsum (ht : Wf t) : manyT t n = lsum (0, []) t n := (many_wf ht).ext (lsum_wf nil_wf ht) (by rw [many_n, lsum_n]; show _ = (0 + n * t.1) % 4096; rw [Int.zero_add, Int.mul_comm]) fun a => by
  rw [many_co, lsum_co ht]
  show _ = (0 + n * getI t.2 a) % 4096
  rw [Int.zero_add, Int.mul_comm]
theorem few_keys {m : List (Int × Int)} (nd : (kys m).Nodup) (h : ∀ a ∈ kys m, okA a) : m.length ≤ 63 := by
  rcases Nat.lt_or_ge 63 m.length with z | z
  · have p := nodup_perm (l := kys m) (m := (List.range 63).map fun i => ((i : Nat) : Int)) nd (fun x hx => by
      obtain ⟨h1, h2⟩ := h x hx
      refine List.mem_map.mpr ⟨x.toNat, List.mem_range.mpr (by omega), by omega⟩) (by simp [kys]; omega)
    have := p.length_eq
    simp [kys] at this
    omega
  · exact z
theorem Wf.few (h : Wf t) : t.2.length ≤ 63 := few_keys h.nodup h.at_
end
end L2
set_option maxRecDepth 100000
set_option maxHeartbeats 1000000
namespace L2
open PySem PySem.Spec PyProof.Rows
theorem entry_tuple_gtX : entryFor table "tuple.__gt__" = some Builtin.«tuple.__gt__» := entryFor_of_tree (by kernel_rfl)
theorem depth_mem {x : PyData} : ∀ {xs : List PyData}, x ∈ xs → x.depth ≤ PyData.depthAll xs
  | [], h => by cases h
  | y :: r, h => by
    show _ ≤ max (PyData.depth y) (PyData.depthAll r)
    rcases List.mem_cons.mp h with rfl | h
    · exact Nat.le_max_left _ _
    · exact Nat.le_trans (depth_mem h) (Nat.le_max_right _ _)
mutual
theorem reads_kept {h h' : Heap} (k : ∀ c o, h.get? c = some o → h'.get? c = some o) : ∀ {v : Value} {d : PyData} {as : List Addr}, Reads h v d as → Reads h' v d as
  | _, _, _, .none => .none
  | _, _, _, .bool b => .bool b
  | _, _, _, .int i t => .int i t
  | _, _, _, .str x t => .str x t
  | _, _, _, .list h1 h2 h3 h4 => .list (k _ _ h1) h2 h3 (readsAll_kept k h4)
  | _, _, _, .tuple h1 h2 h3 h4 => .tuple (k _ _ h1) h2 h3 (readsAll_kept k h4)
  | _, _, _, .dict h1 h2 h3 h4 h5 => .dict (k _ _ h1) h2 h3 (readsAll_kept k h4) (readsAll_kept k h5)
theorem readsAll_kept {h h' : Heap} (k : ∀ c o, h.get? c = some o → h'.get? c = some o) : ∀ {vs : List Value} {ds : List PyData} {as : List Addr}, ReadsAll h vs ds as → ReadsAll h' vs ds as
  | _, _, _, .nil => .nil
  | _, _, _, .cons h1 h2 => .cons (reads_kept k h1) (readsAll_kept k h2)
end
mutual
def ltO : PyData → PyData → Option Bool
  | .int a, .int b => some (decide (a < b))
  | .tuple xs, .tuple ys => ltOs xs ys
  | _, _ => none
def ltOs : List PyData → List PyData → Option Bool
  | [], [] => some false
  | [], _ :: _ => some true
  | _ :: _, [] => some false
  | x :: xs, y :: ys => if PyData.eqv x y = true then ltOs xs ys else ltO x y
end
theorem ltOs_zip : ∀ {xs ys : List PyData} {k : Bool}, ltOs xs ys = some k → List.zip xs ys = [] → k = decide (xs.length < ys.length)
  | [], [], k, e, _ => by rw [ltOs] at e; cases e; rfl
  | [], _ :: _, k, e, _ => by rw [ltOs] at e; cases e; rfl
  | _ :: _, [], k, e, _ => by rw [ltOs] at e; cases e; rfl
  | _ :: _, _ :: _, k, e, h => by cases h
def LtOk (x y : PyData) (k : Bool) : Prop := ∀ (prog : Program) (w : World) (A : Around) (E : Value → Shared → Prop) (s : Shared) (u v : Value) (as bs : List Addr) (Q : Value → Shared → Prop), Reads s.heap u x as → Reads s.heap v y bs → A.units + min x.depth y.depth < cLine → Q (.bool k) s → wpAny (model prog w) A (richCompare .Lt u v) Q E s
theorem lt_tup {prog : Program} {w : World} {A : Around} {E : Value → Shared → Prop} {s : Shared} {X Y : List PyData} {a b : Addr} {as bs : List Addr} {P : Fin → Shared → Prop} {k : Bool} (hx : Reads s.heap (.ref a) (.tuple X) as) (hy : Reads s.heap (.ref b) (.tuple Y) bs) (kx : kTs X = true) (ky : kTs Y = true)
    (hu : A.units + min (PyData.depthAll X) (PyData.depthAll Y) < cLine) (IH : ∀ x ∈ X, ∀ y ∈ Y, ∀ k, ltO x y = some k → LtOk x y k) (e : ltOs X Y = some k) (h : P (.done (.ret (.bool k))) s) : wpAny (model prog w) A (Builtin.«tuple.__lt__» ⟨[.ref a, .ref b], []⟩) P E s := by
  cases hx with
  | @tuple _ oa vs na _ as1 g1 g2 g3 g4 =>
  cases hy with
  | @tuple _ ob us nb _ bs1 k1 k2 k3 k4 =>
  have hTb : s.TypeIs (.ref b) "tuple" := ⟨ob, k1, k2⟩
  have l1 : vs.size = X.length := by simpa using PySem.SeqAt.ReadsAll.length _ _ _ g4
  have l2 : us.size = Y.length := by simpa using PySem.SeqAt.ReadsAll.length _ _ _ k4
  show wpAny _ _ (isInstance (.ref b) (.type "tuple") >>= _) _ _ s
  refine wpAny_bind (wpAny_isInstance hTb isSubtype_tuple_tuple ?_)
  simp only [Bool.not_true, Bool.false_eq_true, if_false]
  refine wpAny_bind (wpAny_tupleItemsOf g1 g3 ?_)
  refine wpAny_bind (wpAny_tupleItemsOf k1 k3 ?_)
  refine wpAny_bind ?_
  refine wpAny_forIn_list _
    (fun rest r s' => r.1 = none ∧ s' = s ∧ ∃ (x' y' : List PyData) (xs' ys' : List Value) (as' bs' : List Addr), rest = List.zip xs' ys' ∧ ReadsAll s.heap xs' x' as' ∧ ReadsAll s.heap ys' y' bs' ∧ (∀ z ∈ x', z ∈ X) ∧ (∀ z ∈ y', z ∈ Y) ∧ ltOs x' y' = some k ∧ ((x'.length : Int) - y'.length = (X.length : Int) - Y.length))
    _ ?_ ?_ _ _ ⟨rfl, rfl, X, Y, vs.toList, us.toList, _, _, rfl, g4, k4, fun _ h => h, fun _ h => h, e, rfl⟩
  · rintro ⟨u, v⟩ rest r s' ⟨hr, rfl, x', y', xs', ys', as', bs', hz, hx', hy', mx, my, ek, hl⟩
    cases hx' with
    | nil => simp at hz
    | @cons u' xs'' d1 x'' as1' as2' h1 hx'' =>
      cases hy' with
      | nil => simp at hz
      | @cons v' ys'' d2 y'' bs1' bs2' h2 hy'' =>
        simp only [List.zip_cons_cons, List.cons.injEq, Prod.mk.injEq] at hz
        obtain ⟨⟨rfl, rfl⟩, rfl⟩ := hz
        have m1 : d1 ∈ X := mx _ List.mem_cons_self
        have m2 : d2 ∈ Y := my _ List.mem_cons_self
        have hd : A.units + min d1.depth d2.depth < cLine := by
          have q1 := depth_mem m1
          have q2 := depth_mem m2
          omega
        have e1 := kTs_of kx d1 m1
        have e2 := kTs_of ky d2 m2
        refine wpAny_bind (PySem.SeqAt.eqBoolOverData prog w A _ _ _ _ d1 d2 _ _ _ h1 h2 (kT_lay e1) (kT_lay e2) hd ?_)
        have ee : PyData.eqv d1 d2 = decide (d1 = d2) := by rw [Bool.eq_iff_iff, eqv_kT d1 d2 e1 e2, decide_eq_true_iff]
        rw [ee]
        rw [ltOs, ee] at ek
        by_cases hk : d1 = d2
        · subst hk
          rw [decide_eq_true rfl]
          rw [if_pos (decide_eq_true rfl)] at ek
          simp only [Bool.not_true, Bool.false_eq_true, if_false]
          exact wpAny_pure ⟨rfl, rfl, x'', y'', xs'', ys'', _, _, rfl, hx'', hy'', fun z hz => mx z (List.mem_cons_of_mem _ hz), fun z hz => my z (List.mem_cons_of_mem _ hz), ek, by simp at hl; omega⟩
        · rw [decide_eq_false hk]
          rw [if_neg (by simp [hk])] at ek
          simp only [Bool.not_false, if_true]
          refine wpAny_bind (wpAny_rule ?_)
          refine wpAny_bind (IH d1 m1 d2 m2 k ek prog w A _ _ _ _ _ _ _ h1 h2 hd ?_)
          refine wpAny_bind (wpAny_pure ?_)
          exact wpAny_pure (wpAny_pure h)
  · rintro ⟨b1, b2⟩ s' ⟨hb', rfl, x', y', xs', ys', as', bs', hz, hx', hy', mx, my, ek, hl⟩
    simp only at hb'
    subst hb'
    have zl : List.zip x' y' = [] := by
      have q1 := PySem.SeqAt.ReadsAll.length _ _ _ hx'
      have q2 := PySem.SeqAt.ReadsAll.length _ _ _ hy'
      have : (List.zip xs' ys').length = 0 := by rw [← hz]; rfl
      rw [List.length_zip] at this
      refine List.eq_nil_of_length_eq_zero ?_
      rw [List.length_zip]
      omega
    have ek' := ltOs_zip ek zl
    refine wpAny_pure ?_
    show P (.done (.ret (.bool (decide (vs.size < us.size))))) _
    have : decide (vs.size < us.size) = k := by
      rw [ek', l1, l2]
      congr 1
      rw [eq_iff_iff]
      omega
    rw [this]
    exact h
mutual
theorem lt_ok : ∀ (a b : PyData) (k : Bool), kT a = true → kT b = true → ltO a b = some k → LtOk a b k
  | .int i, .int j, k, _, _, e => by
    intro prog w A E s u v as bs Q rx ry hu hq
    cases rx with
    | int _ t =>
    cases ry with
    | int _ t' =>
    have e' : decide (i < j) = k := by rw [ltO] at e; exact Option.some.inj e
    subst e'
    exact wpAny_lt_int hq
  | .tuple xs, .tuple ys, k, ha, hb, e => by
    intro prog w A E s u v as bs Q rx ry hu hq
    have hxs : kTs xs = true := by unfold kT at ha; exact ha
    have hys : kTs ys = true := by unfold kT at hb; exact hb
    have IH := lt_oks xs ys hxs hys
    have hu' : A.units + (min (PyData.depthAll xs) (PyData.depthAll ys) + 1) < cLine := by
      have : min (PyData.depth (.tuple xs)) (PyData.depth (.tuple ys)) = min (PyData.depthAll xs) (PyData.depthAll ys) + 1 := by
        show min (PyData.depthAll xs + 1) (PyData.depthAll ys + 1) = _
        omega
      rw [← this]; exact hu
    have e' : ltOs xs ys = some k := by rw [ltO] at e; exact e
    obtain ⟨a, rfl⟩ : ∃ a, u = .ref a := by cases rx; exact ⟨_, rfl⟩
    obtain ⟨b, rfl⟩ : ∃ b, v = .ref b := by cases ry; exact ⟨_, rfl⟩
    have hTa : s.TypeIs (.ref a) "tuple" := by cases rx with | tuple h1 h2 _ _ => exact ⟨_, h1, h2⟩
    have hTb : s.TypeIs (.ref b) "tuple" := by cases ry with | tuple h1 h2 _ _ => exact ⟨_, h1, h2⟩
    refine wpAny_richCompare_same_room hTa hTb F.slot_tuple_lt (wpAny_call_entry F.slot_tuple_lt hTa F.entry_tuple_lt ?_ (F.args_tuple_lt_2 _ _)) (by omega)
    exact lt_tup (A := A.in1) rx ry hxs hys (by show A.units + 1 + _ < cLine; omega) IH e' ⟨_, rfl, (fun z => by cases z), hq⟩
  | .int _, .str _, _, _, _, e => by simp [ltO] at e
  | .int _, .tuple _, _, _, _, e => by simp [ltO] at e
  | .str _, .int _, _, _, _, e => by simp [ltO] at e
  | .str _, .str _, _, _, _, e => by simp [ltO] at e
  | .str _, .tuple _, _, _, _, e => by simp [ltO] at e
  | .tuple _, .int _, _, _, _, e => by simp [ltO] at e
  | .tuple _, .str _, _, _, _, e => by simp [ltO] at e
  | .none, _, _, h, _, _ => by simp [kT] at h
  | .bool _, _, _, h, _, _ => by simp [kT] at h
  | .list _, _, _, h, _, _ => by simp [kT] at h
  | .dict _, _, _, h, _, _ => by simp [kT] at h
  | .int _, .none, _, _, h, _ => by simp [kT] at h
  | .int _, .bool _, _, _, h, _ => by simp [kT] at h
  | .int _, .list _, _, _, h, _ => by simp [kT] at h
  | .int _, .dict _, _, _, h, _ => by simp [kT] at h
  | .str _, .none, _, _, h, _ => by simp [kT] at h
  | .str _, .bool _, _, _, h, _ => by simp [kT] at h
  | .str _, .list _, _, _, h, _ => by simp [kT] at h
  | .str _, .dict _, _, _, h, _ => by simp [kT] at h
  | .tuple _, .none, _, _, h, _ => by simp [kT] at h
  | .tuple _, .bool _, _, _, h, _ => by simp [kT] at h
  | .tuple _, .list _, _, _, h, _ => by simp [kT] at h
  | .tuple _, .dict _, _, _, h, _ => by simp [kT] at h
theorem lt_oks : ∀ (xs ys : List PyData), kTs xs = true → kTs ys = true → ∀ x ∈ xs, ∀ y ∈ ys, ∀ k, ltO x y = some k → LtOk x y k
  | [], _, _, _, _, hx, _, _, _, _ => by cases hx
  | _, [], _, _, _, _, _, hy, _, _ => by cases hy
  | x :: xs, y :: ys, hx, hy, x', mx, y', my, k, e => by
    have gx := hx
    have gy := hy
    unfold kTs at hx hy
    rw [Bool.and_eq_true] at hx hy
    rcases List.mem_cons.mp mx with e1 | m1
    · rcases List.mem_cons.mp my with e2 | m2
      · rw [e1, e2] at e ⊢; exact lt_ok x y k hx.1 hy.1 e
      · rw [e1] at e ⊢; exact lt_oks [x] ys (by unfold kTs; rw [hx.1]; rfl) hy.2 x (List.mem_singleton.mpr rfl) y' m2 k e
    · exact lt_oks xs (y :: ys) hx.2 gy x' m1 y' my k e
end
mutual
def gtO : PyData → PyData → Option Bool
  | .int a, .int b => some (decide (a > b))
  | .tuple xs, .tuple ys => gtOs xs ys
  | _, _ => none
def gtOs : List PyData → List PyData → Option Bool
  | [], [] => some false
  | [], _ :: _ => some false
  | _ :: _, [] => some true
  | x :: xs, y :: ys => if PyData.eqv x y = true then gtOs xs ys else gtO x y
end
theorem gtOs_zip : ∀ {xs ys : List PyData} {k : Bool}, gtOs xs ys = some k → List.zip xs ys = [] → k = decide (xs.length > ys.length)
  | [], [], k, e, _ => by rw [gtOs] at e; cases e; rfl
  | [], _ :: _, k, e, _ => by rw [gtOs] at e; cases e; rfl
  | _ :: _, [], k, e, _ => by rw [gtOs] at e; cases e; rfl
  | _ :: _, _ :: _, k, e, h => by cases h
def GtOk (x y : PyData) (k : Bool) : Prop := ∀ (prog : Program) (w : World) (A : Around) (E : Value → Shared → Prop) (s : Shared) (u v : Value) (as bs : List Addr) (Q : Value → Shared → Prop), Reads s.heap u x as → Reads s.heap v y bs → A.units + min x.depth y.depth < cLine → Q (.bool k) s → wpAny (model prog w) A (richCompare .Gt u v) Q E s
theorem gt_tup {prog : Program} {w : World} {A : Around} {E : Value → Shared → Prop} {s : Shared} {X Y : List PyData} {a b : Addr} {as bs : List Addr} {P : Fin → Shared → Prop} {k : Bool} (hx : Reads s.heap (.ref a) (.tuple X) as) (hy : Reads s.heap (.ref b) (.tuple Y) bs) (kx : kTs X = true) (ky : kTs Y = true)
    (hu : A.units + min (PyData.depthAll X) (PyData.depthAll Y) < cLine) (IH : ∀ x ∈ X, ∀ y ∈ Y, ∀ k, gtO x y = some k → GtOk x y k) (e : gtOs X Y = some k) (h : P (.done (.ret (.bool k))) s) : wpAny (model prog w) A (Builtin.«tuple.__gt__» ⟨[.ref a, .ref b], []⟩) P E s := by
  cases hx with
  | @tuple _ oa vs na _ as1 g1 g2 g3 g4 =>
  cases hy with
  | @tuple _ ob us nb _ bs1 k1 k2 k3 k4 =>
  have hTb : s.TypeIs (.ref b) "tuple" := ⟨ob, k1, k2⟩
  have l1 : vs.size = X.length := by simpa using PySem.SeqAt.ReadsAll.length _ _ _ g4
  have l2 : us.size = Y.length := by simpa using PySem.SeqAt.ReadsAll.length _ _ _ k4
  show wpAny _ _ (isInstance (.ref b) (.type "tuple") >>= _) _ _ s
  refine wpAny_bind (wpAny_isInstance hTb isSubtype_tuple_tuple ?_)
  simp only [Bool.not_true, Bool.false_eq_true, if_false]
  refine wpAny_bind (wpAny_tupleItemsOf g1 g3 ?_)
  refine wpAny_bind (wpAny_tupleItemsOf k1 k3 ?_)
  refine wpAny_bind ?_
  refine wpAny_forIn_list _
    (fun rest r s' => r.1 = none ∧ s' = s ∧ ∃ (x' y' : List PyData) (xs' ys' : List Value) (as' bs' : List Addr), rest = List.zip xs' ys' ∧ ReadsAll s.heap xs' x' as' ∧ ReadsAll s.heap ys' y' bs' ∧ (∀ z ∈ x', z ∈ X) ∧ (∀ z ∈ y', z ∈ Y) ∧ gtOs x' y' = some k ∧ ((x'.length : Int) - y'.length = (X.length : Int) - Y.length))
    _ ?_ ?_ _ _ ⟨rfl, rfl, X, Y, vs.toList, us.toList, _, _, rfl, g4, k4, fun _ h => h, fun _ h => h, e, rfl⟩
  · rintro ⟨u, v⟩ rest r s' ⟨hr, rfl, x', y', xs', ys', as', bs', hz, hx', hy', mx, my, ek, hl⟩
    cases hx' with
    | nil => simp at hz
    | @cons u' xs'' d1 x'' as1' as2' h1 hx'' =>
      cases hy' with
      | nil => simp at hz
      | @cons v' ys'' d2 y'' bs1' bs2' h2 hy'' =>
        simp only [List.zip_cons_cons, List.cons.injEq, Prod.mk.injEq] at hz
        obtain ⟨⟨rfl, rfl⟩, rfl⟩ := hz
        have m1 : d1 ∈ X := mx _ List.mem_cons_self
        have m2 : d2 ∈ Y := my _ List.mem_cons_self
        have hd : A.units + min d1.depth d2.depth < cLine := by
          have q1 := depth_mem m1
          have q2 := depth_mem m2
          omega
        have e1 := kTs_of kx d1 m1
        have e2 := kTs_of ky d2 m2
        refine wpAny_bind (PySem.SeqAt.eqBoolOverData prog w A _ _ _ _ d1 d2 _ _ _ h1 h2 (kT_lay e1) (kT_lay e2) hd ?_)
        have ee : PyData.eqv d1 d2 = decide (d1 = d2) := by rw [Bool.eq_iff_iff, eqv_kT d1 d2 e1 e2, decide_eq_true_iff]
        rw [ee]
        rw [gtOs, ee] at ek
        by_cases hk : d1 = d2
        · subst hk
          rw [decide_eq_true rfl]
          rw [if_pos (decide_eq_true rfl)] at ek
          simp only [Bool.not_true, Bool.false_eq_true, if_false]
          exact wpAny_pure ⟨rfl, rfl, x'', y'', xs'', ys'', _, _, rfl, hx'', hy'', fun z hz => mx z (List.mem_cons_of_mem _ hz), fun z hz => my z (List.mem_cons_of_mem _ hz), ek, by simp at hl; omega⟩
        · rw [decide_eq_false hk]
          rw [if_neg (by simp [hk])] at ek
          simp only [Bool.not_false, if_true]
          refine wpAny_bind (wpAny_rule ?_)
          refine wpAny_bind (IH d1 m1 d2 m2 k ek prog w A _ _ _ _ _ _ _ h1 h2 hd ?_)
          refine wpAny_bind (wpAny_pure ?_)
          exact wpAny_pure (wpAny_pure h)
  · rintro ⟨b1, b2⟩ s' ⟨hb', rfl, x', y', xs', ys', as', bs', hz, hx', hy', mx, my, ek, hl⟩
    simp only at hb'
    subst hb'
    have zl : List.zip x' y' = [] := by
      have q1 := PySem.SeqAt.ReadsAll.length _ _ _ hx'
      have q2 := PySem.SeqAt.ReadsAll.length _ _ _ hy'
      have : (List.zip xs' ys').length = 0 := by rw [← hz]; rfl
      rw [List.length_zip] at this
      refine List.eq_nil_of_length_eq_zero ?_
      rw [List.length_zip]
      omega
    have ek' := gtOs_zip ek zl
    refine wpAny_pure ?_
    show P (.done (.ret (.bool (decide (vs.size > us.size))))) _
    have : decide (vs.size > us.size) = k := by
      rw [ek', l1, l2]
      congr 1
      rw [eq_iff_iff]
      omega
    rw [this]
    exact h
mutual
theorem gt_ok : ∀ (a b : PyData) (k : Bool), kT a = true → kT b = true → gtO a b = some k → GtOk a b k
  | .int i, .int j, k, _, _, e => by
    intro prog w A E s u v as bs Q rx ry hu hq
    cases rx with
    | int _ t =>
    cases ry with
    | int _ t' =>
    have e' : decide (i > j) = k := by rw [gtO] at e; exact Option.some.inj e
    subst e'
    exact PyProof.Rows.gt_int hq
  | .tuple xs, .tuple ys, k, ha, hb, e => by
    intro prog w A E s u v as bs Q rx ry hu hq
    have hxs : kTs xs = true := by unfold kT at ha; exact ha
    have hys : kTs ys = true := by unfold kT at hb; exact hb
    have IH := gt_oks xs ys hxs hys
    have hu' : A.units + (min (PyData.depthAll xs) (PyData.depthAll ys) + 1) < cLine := by
      have : min (PyData.depth (.tuple xs)) (PyData.depth (.tuple ys)) = min (PyData.depthAll xs) (PyData.depthAll ys) + 1 := by
        show min (PyData.depthAll xs + 1) (PyData.depthAll ys + 1) = _
        omega
      rw [← this]; exact hu
    have e' : gtOs xs ys = some k := by rw [gtO] at e; exact e
    obtain ⟨a, rfl⟩ : ∃ a, u = .ref a := by cases rx; exact ⟨_, rfl⟩
    obtain ⟨b, rfl⟩ : ∃ b, v = .ref b := by cases ry; exact ⟨_, rfl⟩
    have hTa : s.TypeIs (.ref a) "tuple" := by cases rx with | tuple h1 h2 _ _ => exact ⟨_, h1, h2⟩
    have hTb : s.TypeIs (.ref b) "tuple" := by cases ry with | tuple h1 h2 _ _ => exact ⟨_, h1, h2⟩
    refine wpAny_richCompare_same_room hTa hTb F.slot_tuple_gt (wpAny_call_entry F.slot_tuple_gt hTa entry_tuple_gtX ?_ (F.args_tuple_gt_2 _ _)) (by omega)
    exact gt_tup (A := A.in1) rx ry hxs hys (by show A.units + 1 + _ < cLine; omega) IH e' ⟨_, rfl, (fun z => by cases z), hq⟩
  | .int _, .str _, _, _, _, e => by simp [gtO] at e
  | .int _, .tuple _, _, _, _, e => by simp [gtO] at e
  | .str _, .int _, _, _, _, e => by simp [gtO] at e
  | .str _, .str _, _, _, _, e => by simp [gtO] at e
  | .str _, .tuple _, _, _, _, e => by simp [gtO] at e
  | .tuple _, .int _, _, _, _, e => by simp [gtO] at e
  | .tuple _, .str _, _, _, _, e => by simp [gtO] at e
  | .none, _, _, h, _, _ => by simp [kT] at h
  | .bool _, _, _, h, _, _ => by simp [kT] at h
  | .list _, _, _, h, _, _ => by simp [kT] at h
  | .dict _, _, _, h, _, _ => by simp [kT] at h
  | .int _, .none, _, _, h, _ => by simp [kT] at h
  | .int _, .bool _, _, _, h, _ => by simp [kT] at h
  | .int _, .list _, _, _, h, _ => by simp [kT] at h
  | .int _, .dict _, _, _, h, _ => by simp [kT] at h
  | .str _, .none, _, _, h, _ => by simp [kT] at h
  | .str _, .bool _, _, _, h, _ => by simp [kT] at h
  | .str _, .list _, _, _, h, _ => by simp [kT] at h
  | .str _, .dict _, _, _, h, _ => by simp [kT] at h
  | .tuple _, .none, _, _, h, _ => by simp [kT] at h
  | .tuple _, .bool _, _, _, h, _ => by simp [kT] at h
  | .tuple _, .list _, _, _, h, _ => by simp [kT] at h
  | .tuple _, .dict _, _, _, h, _ => by simp [kT] at h
theorem gt_oks : ∀ (xs ys : List PyData), kTs xs = true → kTs ys = true → ∀ x ∈ xs, ∀ y ∈ ys, ∀ k, gtO x y = some k → GtOk x y k
  | [], _, _, _, _, hx, _, _, _, _ => by cases hx
  | _, [], _, _, _, _, _, hy, _, _ => by cases hy
  | x :: xs, y :: ys, hx, hy, x', mx, y', my, k, e => by
    have gx := hx
    have gy := hy
    unfold kTs at hx hy
    rw [Bool.and_eq_true] at hx hy
    rcases List.mem_cons.mp mx with e1 | m1
    · rcases List.mem_cons.mp my with e2 | m2
      · rw [e1, e2] at e ⊢; exact gt_ok x y k hx.1 hy.1 e
      · rw [e1] at e ⊢; exact gt_oks [x] ys (by unfold kTs; rw [hx.1]; rfl) hy.2 x (List.mem_singleton.mpr rfl) y' m2 k e
    · exact gt_oks xs (y :: ys) hx.2 gy x' m1 y' my k e
end
theorem min_two_R {prog : Program} {w : World} {A : Around} {E : Value → Shared → Prop} {s : Shared} {Q : Value → Shared → Prop} {a b : Value} {k : Bool} (hh : A.handled = none)
    (cmp : ∀ (s' : Shared) (Q : Value → Shared → Prop) (E : Value → Shared → Prop), (∀ c o, s.heap.get? c = some o → s'.heap.get? c = some o) → Q (.bool k) s' → wpAny (model prog w) A.in1 (richCompare .Lt b a) Q E s')
    (h : ∀ h' tk, (∀ c o, s.heap.get? c = some o → h'.get? c = some o) → Q (if k then b else a) { s with heap := h', toks := tk }) :
    wpAny (model prog w) A (call (.builtin "min") [a, b]) Q E s := by
  have hname : (toString "min" ++ toString ".loop" : String) = "min.loop" := by decide
  refine call_function_tree F.kind_min F.plain_min F.entry_min (F.args_min2 _ _) ?_
  show wpAny _ A.in1 (Builtin.Builtins.bindParams "min" ["key", "default"] 0 ⟨[], []⟩ >>= _) _ _ s
  refine wpAny_bind (wpAny_of_eq (show Builtin.Builtins.bindParams "min" ["key", "default"] 0 ⟨[], []⟩ = pure [none, none] from rfl) ?_)
  show wpAny _ A.in1 (newTuple [a, b] >>= _) _ _ s
  refine wpAny_bind (wpAny_newObj_type ?_)
  have hT : (s.heap.push { cls := .type "tuple", data := .seq #[a, b] }).IsTuple s.heap.objs.size #[a, b] := ⟨_, Heap.get?_push_size _ rfl, rfl, 0, rfl⟩
  refine wpAny_bind (wpAny_pyIter_tuple hT ?_)
  refine wpAny_bind (wpAny_newObj_type ?_)
  rw [hname]
  generalize hI : (s.heap.push { cls := .type "tuple", data := .seq #[a, b] }).objs.size = I at *
  have hsz : I = s.heap.objs.size + 1 := by rw [← hI]; exact Heap.size_push ..
  have W := Walks.tuple (prog := prog) (w := w) (A := A.in1) hh I s.heap.objs.size (by rw [hsz]; exact Nat.ne_of_lt (Nat.lt_succ_self _)) #[a, b]
  have hst0 : ((s.heap.push { cls := .type "tuple", data := .seq #[a, b] }).push { cls := .type "tuple_iterator", data := .fields #[.ref s.heap.objs.size, .int 0 0] }).IsTupleIter I s.heap.objs.size 0 ∧ ((s.heap.push { cls := .type "tuple", data := .seq #[a, b] }).push { cls := .type "tuple_iterator", data := .fields #[.ref s.heap.objs.size, .int 0 0] }).IsTuple s.heap.objs.size #[a, b] :=
    ⟨⟨_, by rw [← hI]; exact Heap.get?_push_size _ rfl, rfl, rfl⟩, hT.push _⟩
  have old0 : ∀ c o, s.heap.get? c = some o → ((s.heap.push { cls := .type "tuple", data := .seq #[a, b] }).push { cls := .type "tuple_iterator", data := .fields #[.ref s.heap.objs.size, .int 0 0] }).get? c = some o := fun c o e => Heap.get?_push_of_some _ (Heap.get?_push_of_some _ e)
  generalize hh0 : (s.heap.push { cls := .type "tuple", data := .seq #[a, b] }).push { cls := .type "tuple_iterator", data := .fields #[.ref s.heap.objs.size, .int 0 0] } = h0 at *
  have hsz2 : h0.objs.size = s.heap.objs.size + 2 := by
    have e1 : h0.objs.size = (s.heap.push { cls := .type "tuple", data := .seq #[a, b] }).objs.size + 1 := by rw [← hh0]; exact Heap.size_push ..
    have e2 : (s.heap.push { cls := .type "tuple", data := .seq #[a, b] }).objs.size = s.heap.objs.size + 1 := Heap.size_push ..
    omega
  have hSf : h0.objs.size ∉ [I, s.heap.objs.size] := fun hm => by
    simp only [List.mem_cons, List.not_mem_nil, or_false] at hm
    omega
  have hSw : h0.objs.size ∉ [I] := fun hm => hSf (W.sub _ hm)
  have oldn : ∀ c o, s.heap.get? c = some o → c ∉ [I] ∧ c ≠ h0.objs.size := fun c o e => by
    have := Heap.lt_size e
    refine ⟨fun hm => ?_, fun z => ?_⟩
    · simp only [List.mem_cons, List.not_mem_nil, or_false] at hm
      rw [hm, hsz] at this
      exact Nat.lt_irrefl _ (Nat.lt_of_succ_lt this)
    · rw [z, hsz2] at this
      exact Nat.lt_irrefl _ (Nat.lt_of_succ_lt (Nat.lt_of_succ_lt this))
  generalize hS : h0.objs.size = S at *
  have hS0 : (h0.push { cls := .type "list", dict := none, data := .seq #[] 0, slots := #[] }).get? S = some { cls := .type "list", dict := none, data := .seq #[] 0, slots := #[] } := by rw [← hS]; exact Heap.get?_push_size _ rfl
  have st0' := W.frame 0 _ (h0.push { cls := .type "list", dict := none, data := .seq #[] 0, slots := #[] }) hst0 fun b hb o e => Heap.get?_push_of_some _ e
  have old1 : ∀ c o, s.heap.get? c = some o → (h0.push { cls := .type "list", dict := none, data := .seq #[] 0, slots := #[] }).get? c = some o := fun c o e => Heap.get?_push_of_some _ (old0 c o e)
  generalize hh1 : h0.push { cls := .type "list", dict := none, data := .seq #[] 0, slots := #[] } = h1 at *
  refine wpAny_pure ⟨plainId_quiet F.plain_min_loop _, codeAny_builtin F.entry_min_loop ?_⟩
  rw [Around.under_plainId F.plain_min_loop _]
  show wpAny _ A.in1 (seqItems? (.ref S) >>= _) _ _ _
  refine wpAny_bind (wpAny_seqItems hS0 rfl ?_)
  show wpAny _ A.in1 (tryCatch (pyNext (.ref I)) _ >>= _) _ _ _
  refine wpAny_bind (wpAny_tryCatch (W.item 0 _ _ _ (by simp) st0' fun v h2 tk hP hst2 hk2 => ?_))
  obtain rfl : a = v := by simpa using hP
  have hS2 := hk2 S _ hSw hS0
  show wpAny _ A.in1 (updateSeq S (fun _ => #[a, a]) >>= _) _ _ _
  refine wpAny_bind ?_
  refine wpAny_updateSeq hS2 rfl ?_
  rw [hname]
  have old2 : ∀ c o, s.heap.get? c = some o → h2.get? c = some o := fun c o e => hk2 c o (oldn c o e).1 (old1 c o e)
  refine wpAny_pure ⟨plainId_quiet F.plain_min_loop _, codeAny_builtin F.entry_min_loop ?_⟩
  rw [Around.under_plainId F.plain_min_loop _]
  show wpAny _ A.in1 (seqItems? (.ref S) >>= _) _ _ _
  refine wpAny_bind (wpAny_seqItems (Heap.get?_update_self _ hS2 rfl) rfl ?_)
  show wpAny _ A.in1 (tryCatch (pyNext (.ref I)) _ >>= _) _ _ _
  refine wpAny_bind (wpAny_tryCatch (W.item 1 _ _ _ (by simp) (W.frame _ _ _ hst2 fun b hbf o e => (Heap.get?_update_other _ _ (fun h : S = b => hSf (by rw [h]; exact hbf))).trans e) fun v h3 tk3 hP3 hst3 hk3 => ?_))
  obtain rfl : b = v := by simpa using hP3
  have hS3 := hk3 S _ hSw (Heap.get?_update_self _ hS2 rfl)
  have old3 : ∀ c o, s.heap.get? c = some o → h3.get? c = some o := fun c o e => hk3 c o (oldn c o e).1 ((Heap.get?_update_other _ _ (Ne.symm (oldn c o e).2)).trans (old2 c o e))
  show wpAny _ A.in1 (tryCatch (holding [b, b] (richCompare .Lt b a >>= _)) _ >>= _) _ _ _
  refine wpAny_bind (wpAny_tryCatch (wpAny_holding (wpAny_bind (cmp _ _ _ old3 ?_))))
  refine wpAny_bind (wpAny_holding (wpAny_truthy_bool ?_))
  refine wpAny_bind (wpAny_letGo (wpAny_pure ?_))
  cases hb : k with
  | true =>
    simp only [if_true]
    rw [hb] at h
    refine wpAny_bind ?_
    refine wpAny_updateSeq hS3 rfl (wpAny_bind (wpAny_letGo ?_))
    rw [hname]
    refine wpAny_pure ⟨plainId_quiet F.plain_min_loop _, codeAny_builtin F.entry_min_loop ?_⟩
    rw [Around.under_plainId F.plain_min_loop _]
    show wpAny _ A.in1 (seqItems? (.ref S) >>= _) _ _ _
    refine wpAny_bind (wpAny_seqItems (Heap.get?_update_self _ hS3 rfl) rfl ?_)
    show wpAny _ A.in1 (tryCatch (pyNext (.ref I)) _ >>= _) _ _ _
    refine wpAny_bind (wpAny_tryCatch (W.done _ _ _ (W.frame _ _ _ hst3 fun b hbf o e => (Heap.get?_update_other _ _ (fun h : S = b => hSf (by rw [h]; exact hbf))).trans e) fun h4 tk4 hk4 => ?_))
    have hS4 := hk4 S _ hSw (Heap.get?_update_self _ hS3 rfl)
    show wpAny _ A.in1 (updateSeq S (fun _ => #[]) >>= _) _ _ _
    refine wpAny_bind ?_
    refine wpAny_updateSeq hS4 rfl (wpAny_bind (wpAny_letGo (wpAny_pure ?_)))
    exact h _ _ fun c o e => (Heap.get?_update_other _ _ (Ne.symm (oldn c o e).2)).trans (hk4 c o (oldn c o e).1 ((Heap.get?_update_other _ _ (Ne.symm (oldn c o e).2)).trans (old3 c o e)))
  | false =>
    simp only [Bool.false_eq_true, if_false]
    rw [hb] at h
    refine wpAny_bind (wpAny_letGo ?_)
    rw [hname]
    refine wpAny_pure ⟨plainId_quiet F.plain_min_loop _, codeAny_builtin F.entry_min_loop ?_⟩
    rw [Around.under_plainId F.plain_min_loop _]
    show wpAny _ A.in1 (seqItems? (.ref S) >>= _) _ _ _
    refine wpAny_bind (wpAny_seqItems hS3 rfl ?_)
    show wpAny _ A.in1 (tryCatch (pyNext (.ref I)) _ >>= _) _ _ _
    refine wpAny_bind (wpAny_tryCatch (W.done _ _ _ hst3 fun h4 tk4 hk4 => ?_))
    have hS4 := hk4 S _ hSw hS3
    show wpAny _ A.in1 (updateSeq S (fun _ => #[]) >>= _) _ _ _
    refine wpAny_bind ?_
    refine wpAny_updateSeq hS4 rfl (wpAny_bind (wpAny_letGo (wpAny_pure ?_)))
    exact h _ _ fun c o e => (Heap.get?_update_other _ _ (Ne.symm (oldn c o e).2)).trans (hk4 c o (oldn c o e).1 (old3 c o e))
theorem max_two_R {prog : Program} {w : World} {A : Around} {E : Value → Shared → Prop} {s : Shared} {Q : Value → Shared → Prop} {a b : Value} {k : Bool} (hh : A.handled = none)
    (cmp : ∀ (s' : Shared) (Q : Value → Shared → Prop) (E : Value → Shared → Prop), (∀ c o, s.heap.get? c = some o → s'.heap.get? c = some o) → Q (.bool k) s' → wpAny (model prog w) A.in1 (richCompare .Gt b a) Q E s')
    (h : ∀ h' tk, (∀ c o, s.heap.get? c = some o → h'.get? c = some o) → Q (if k then b else a) { s with heap := h', toks := tk }) :
    wpAny (model prog w) A (call (.builtin "max") [a, b]) Q E s := by
  have hname : (toString "max" ++ toString ".loop" : String) = "max.loop" := by decide
  refine call_function_tree F.kind_max F.plain_max F.entry_max (F.args_max2 _ _) ?_
  show wpAny _ A.in1 (Builtin.Builtins.bindParams "max" ["key", "default"] 0 ⟨[], []⟩ >>= _) _ _ s
  refine wpAny_bind (wpAny_of_eq (show Builtin.Builtins.bindParams "max" ["key", "default"] 0 ⟨[], []⟩ = pure [none, none] from rfl) ?_)
  show wpAny _ A.in1 (newTuple [a, b] >>= _) _ _ s
  refine wpAny_bind (wpAny_newObj_type ?_)
  have hT : (s.heap.push { cls := .type "tuple", data := .seq #[a, b] }).IsTuple s.heap.objs.size #[a, b] := ⟨_, Heap.get?_push_size _ rfl, rfl, 0, rfl⟩
  refine wpAny_bind (wpAny_pyIter_tuple hT ?_)
  refine wpAny_bind (wpAny_newObj_type ?_)
  rw [hname]
  generalize hI : (s.heap.push { cls := .type "tuple", data := .seq #[a, b] }).objs.size = I at *
  have hsz : I = s.heap.objs.size + 1 := by rw [← hI]; exact Heap.size_push ..
  have W := Walks.tuple (prog := prog) (w := w) (A := A.in1) hh I s.heap.objs.size (by rw [hsz]; exact Nat.ne_of_lt (Nat.lt_succ_self _)) #[a, b]
  have hst0 : ((s.heap.push { cls := .type "tuple", data := .seq #[a, b] }).push { cls := .type "tuple_iterator", data := .fields #[.ref s.heap.objs.size, .int 0 0] }).IsTupleIter I s.heap.objs.size 0 ∧ ((s.heap.push { cls := .type "tuple", data := .seq #[a, b] }).push { cls := .type "tuple_iterator", data := .fields #[.ref s.heap.objs.size, .int 0 0] }).IsTuple s.heap.objs.size #[a, b] :=
    ⟨⟨_, by rw [← hI]; exact Heap.get?_push_size _ rfl, rfl, rfl⟩, hT.push _⟩
  have old0 : ∀ c o, s.heap.get? c = some o → ((s.heap.push { cls := .type "tuple", data := .seq #[a, b] }).push { cls := .type "tuple_iterator", data := .fields #[.ref s.heap.objs.size, .int 0 0] }).get? c = some o := fun c o e => Heap.get?_push_of_some _ (Heap.get?_push_of_some _ e)
  generalize hh0 : (s.heap.push { cls := .type "tuple", data := .seq #[a, b] }).push { cls := .type "tuple_iterator", data := .fields #[.ref s.heap.objs.size, .int 0 0] } = h0 at *
  have hsz2 : h0.objs.size = s.heap.objs.size + 2 := by
    have e1 : h0.objs.size = (s.heap.push { cls := .type "tuple", data := .seq #[a, b] }).objs.size + 1 := by rw [← hh0]; exact Heap.size_push ..
    have e2 : (s.heap.push { cls := .type "tuple", data := .seq #[a, b] }).objs.size = s.heap.objs.size + 1 := Heap.size_push ..
    omega
  have hSf : h0.objs.size ∉ [I, s.heap.objs.size] := fun hm => by
    simp only [List.mem_cons, List.not_mem_nil, or_false] at hm
    omega
  have hSw : h0.objs.size ∉ [I] := fun hm => hSf (W.sub _ hm)
  have oldn : ∀ c o, s.heap.get? c = some o → c ∉ [I] ∧ c ≠ h0.objs.size := fun c o e => by
    have := Heap.lt_size e
    refine ⟨fun hm => ?_, fun z => ?_⟩
    · simp only [List.mem_cons, List.not_mem_nil, or_false] at hm
      rw [hm, hsz] at this
      exact Nat.lt_irrefl _ (Nat.lt_of_succ_lt this)
    · rw [z, hsz2] at this
      exact Nat.lt_irrefl _ (Nat.lt_of_succ_lt (Nat.lt_of_succ_lt this))
  generalize hS : h0.objs.size = S at *
  have hS0 : (h0.push { cls := .type "list", dict := none, data := .seq #[] 0, slots := #[] }).get? S = some { cls := .type "list", dict := none, data := .seq #[] 0, slots := #[] } := by rw [← hS]; exact Heap.get?_push_size _ rfl
  have st0' := W.frame 0 _ (h0.push { cls := .type "list", dict := none, data := .seq #[] 0, slots := #[] }) hst0 fun b hb o e => Heap.get?_push_of_some _ e
  have old1 : ∀ c o, s.heap.get? c = some o → (h0.push { cls := .type "list", dict := none, data := .seq #[] 0, slots := #[] }).get? c = some o := fun c o e => Heap.get?_push_of_some _ (old0 c o e)
  generalize hh1 : h0.push { cls := .type "list", dict := none, data := .seq #[] 0, slots := #[] } = h1 at *
  refine wpAny_pure ⟨plainId_quiet F.plain_max_loop _, codeAny_builtin F.entry_max_loop ?_⟩
  rw [Around.under_plainId F.plain_max_loop _]
  show wpAny _ A.in1 (seqItems? (.ref S) >>= _) _ _ _
  refine wpAny_bind (wpAny_seqItems hS0 rfl ?_)
  show wpAny _ A.in1 (tryCatch (pyNext (.ref I)) _ >>= _) _ _ _
  refine wpAny_bind (wpAny_tryCatch (W.item 0 _ _ _ (by simp) st0' fun v h2 tk hP hst2 hk2 => ?_))
  obtain rfl : a = v := by simpa using hP
  have hS2 := hk2 S _ hSw hS0
  show wpAny _ A.in1 (updateSeq S (fun _ => #[a, a]) >>= _) _ _ _
  refine wpAny_bind ?_
  refine wpAny_updateSeq hS2 rfl ?_
  rw [hname]
  have old2 : ∀ c o, s.heap.get? c = some o → h2.get? c = some o := fun c o e => hk2 c o (oldn c o e).1 (old1 c o e)
  refine wpAny_pure ⟨plainId_quiet F.plain_max_loop _, codeAny_builtin F.entry_max_loop ?_⟩
  rw [Around.under_plainId F.plain_max_loop _]
  show wpAny _ A.in1 (seqItems? (.ref S) >>= _) _ _ _
  refine wpAny_bind (wpAny_seqItems (Heap.get?_update_self _ hS2 rfl) rfl ?_)
  show wpAny _ A.in1 (tryCatch (pyNext (.ref I)) _ >>= _) _ _ _
  refine wpAny_bind (wpAny_tryCatch (W.item 1 _ _ _ (by simp) (W.frame _ _ _ hst2 fun b hbf o e => (Heap.get?_update_other _ _ (fun h : S = b => hSf (by rw [h]; exact hbf))).trans e) fun v h3 tk3 hP3 hst3 hk3 => ?_))
  obtain rfl : b = v := by simpa using hP3
  have hS3 := hk3 S _ hSw (Heap.get?_update_self _ hS2 rfl)
  have old3 : ∀ c o, s.heap.get? c = some o → h3.get? c = some o := fun c o e => hk3 c o (oldn c o e).1 ((Heap.get?_update_other _ _ (Ne.symm (oldn c o e).2)).trans (old2 c o e))
  show wpAny _ A.in1 (tryCatch (holding [b, b] (richCompare .Gt b a >>= _)) _ >>= _) _ _ _
  refine wpAny_bind (wpAny_tryCatch (wpAny_holding (wpAny_bind (cmp _ _ _ old3 ?_))))
  refine wpAny_bind (wpAny_holding (wpAny_truthy_bool ?_))
  refine wpAny_bind (wpAny_letGo (wpAny_pure ?_))
  cases hb : k with
  | true =>
    simp only [if_true]
    rw [hb] at h
    refine wpAny_bind ?_
    refine wpAny_updateSeq hS3 rfl (wpAny_bind (wpAny_letGo ?_))
    rw [hname]
    refine wpAny_pure ⟨plainId_quiet F.plain_max_loop _, codeAny_builtin F.entry_max_loop ?_⟩
    rw [Around.under_plainId F.plain_max_loop _]
    show wpAny _ A.in1 (seqItems? (.ref S) >>= _) _ _ _
    refine wpAny_bind (wpAny_seqItems (Heap.get?_update_self _ hS3 rfl) rfl ?_)
    show wpAny _ A.in1 (tryCatch (pyNext (.ref I)) _ >>= _) _ _ _
    refine wpAny_bind (wpAny_tryCatch (W.done _ _ _ (W.frame _ _ _ hst3 fun b hbf o e => (Heap.get?_update_other _ _ (fun h : S = b => hSf (by rw [h]; exact hbf))).trans e) fun h4 tk4 hk4 => ?_))
    have hS4 := hk4 S _ hSw (Heap.get?_update_self _ hS3 rfl)
    show wpAny _ A.in1 (updateSeq S (fun _ => #[]) >>= _) _ _ _
    refine wpAny_bind ?_
    refine wpAny_updateSeq hS4 rfl (wpAny_bind (wpAny_letGo (wpAny_pure ?_)))
    exact h _ _ fun c o e => (Heap.get?_update_other _ _ (Ne.symm (oldn c o e).2)).trans (hk4 c o (oldn c o e).1 ((Heap.get?_update_other _ _ (Ne.symm (oldn c o e).2)).trans (old3 c o e)))
  | false =>
    simp only [Bool.false_eq_true, if_false]
    rw [hb] at h
    refine wpAny_bind (wpAny_letGo ?_)
    rw [hname]
    refine wpAny_pure ⟨plainId_quiet F.plain_max_loop _, codeAny_builtin F.entry_max_loop ?_⟩
    rw [Around.under_plainId F.plain_max_loop _]
    show wpAny _ A.in1 (seqItems? (.ref S) >>= _) _ _ _
    refine wpAny_bind (wpAny_seqItems hS3 rfl ?_)
    show wpAny _ A.in1 (tryCatch (pyNext (.ref I)) _ >>= _) _ _ _
    refine wpAny_bind (wpAny_tryCatch (W.done _ _ _ hst3 fun h4 tk4 hk4 => ?_))
    have hS4 := hk4 S _ hSw hS3
    show wpAny _ A.in1 (updateSeq S (fun _ => #[]) >>= _) _ _ _
    refine wpAny_bind ?_
    refine wpAny_updateSeq hS4 rfl (wpAny_bind (wpAny_letGo (wpAny_pure ?_)))
    exact h _ _ fun c o e => (Heap.get?_update_other _ _ (Ne.symm (oldn c o e).2)).trans (hk4 c o (oldn c o e).1 (old3 c o e))
section
variable {X : Cx}
theorem cd_minT {xs ys : List PyData} {k : Bool} (hc : X.calm = true) (hu : X.A.units + 32 < cLine) (h1 : kTs xs = true) (h2 : kTs ys = true) (d1 : PyData.depth (.tuple xs) ≤ 8) (h : ltO (.tuple ys) (.tuple xs) = some k) : CD X (.builtin "min") [.tuple xs, .tuple ys] (if k then .tuple ys else .tuple xs) := by
  intro pins s σ H xs' us Q I r hq
  obtain ⟨hv, q⟩ := hq
  obtain ⟨v, v', rfl, dv, dv'⟩ := hv.two
  obtain ⟨u, u', rfl, r1, r2⟩ := vals2 r
  have k1 : kT (.tuple xs) = true := by unfold kT; exact h1
  have k2 : kT (.tuple ys) = true := by unfold kT; exact h2
  obtain ⟨as, ra⟩ := DV.reads I dv r1 (kT_lay k1)
  obtain ⟨bs, rb⟩ := DV.reads I dv' r2 (kT_lay k2)
  refine min_two_R (k := k) (I.ok.hd hc) (fun s' Q E hk hQ => lt_ok _ _ k k2 k1 h _ _ _ _ _ _ _ _ _ _ (reads_kept hk rb) (reads_kept hk ra) (by show X.A.units + 1 + _ < cLine; omega) hQ) fun h' tk hk => ?_
  cases k with
  | true => exact ⟨v', H, I.kept hk, r2, q v' H (Same.refl H) dv'⟩
  | false => exact ⟨v, H, I.kept hk, r1, q v H (Same.refl H) dv⟩
theorem cd_maxT {xs ys : List PyData} {k : Bool} (hc : X.calm = true) (hu : X.A.units + 32 < cLine) (h1 : kTs xs = true) (h2 : kTs ys = true) (d1 : PyData.depth (.tuple xs) ≤ 8) (h : gtO (.tuple ys) (.tuple xs) = some k) : CD X (.builtin "max") [.tuple xs, .tuple ys] (if k then .tuple ys else .tuple xs) := by
  intro pins s σ H xs' us Q I r hq
  obtain ⟨hv, q⟩ := hq
  obtain ⟨v, v', rfl, dv, dv'⟩ := hv.two
  obtain ⟨u, u', rfl, r1, r2⟩ := vals2 r
  have k1 : kT (.tuple xs) = true := by unfold kT; exact h1
  have k2 : kT (.tuple ys) = true := by unfold kT; exact h2
  obtain ⟨as, ra⟩ := DV.reads I dv r1 (kT_lay k1)
  obtain ⟨bs, rb⟩ := DV.reads I dv' r2 (kT_lay k2)
  refine max_two_R (k := k) (I.ok.hd hc) (fun s' Q E hk hQ => gt_ok _ _ k k2 k1 h _ _ _ _ _ _ _ _ _ _ (reads_kept hk rb) (reads_kept hk ra) (by show X.A.units + 1 + _ < cLine; omega) hQ) fun h' tk hk => ?_
  cases k with
  | true => exact ⟨v', H, I.kept hk, r2, q v' H (Same.refl H) dv'⟩
  | false => exact ⟨v, H, I.kept hk, r1, q v H (Same.refl H) dv⟩
end
end L2
set_option maxRecDepth 100000
set_option maxHeartbeats 1000000
namespace L2
open PySem PySem.Spec PyProof.Rows
section
variable {X : Cx} {G : Gam} {H0 : Hp} {p : Addr} {i j : Nat} {e f o a : Expr} {pos pos' pos2 apos : Pos} {m : List (Int × Int)} {d : PyData} {x : Str}
theorem ev_ofK (h : EVK X G e m) : EV X G e (.dict (dI m)) := h.imp fun σ H Q ⟨h, q⟩ => ⟨h, fun p kvs H' hp s' hd dk => q (.ref p) H' s' (.dct hd (dk H'))⟩
theorem lookup_has {m : List (Int × Int)} {z : Int} (h : hasI m z = true) : m.lookup z = some (getI m z) := by
  unfold getI
  cases e : m.lookup z with
  | some v => rfl
  | none =>
    exfalso
    unfold hasI at h
    rw [List.any_eq_true] at h
    obtain ⟨q, hq, hz⟩ := h
    rw [List.lookup_eq_none_iff] at e
    have := e q hq
    have hz := of_decide_eq_true hz
    simp [hz] at this
theorem ev_atI {z : Int} (hu : X.A.units + 1 < cLine) (ho : EV X G o (.dict (dI m))) (hi : EV X G a (.int z)) (hm : hasI m z = true) (hs : NoSl a) : EV X G (.Subscript o a pos) (.int (getI m z)) :=
  (pe_dget hu ho hi hs).imp fun σ H Q ⟨h, q⟩ => ⟨h, fun y H1 s1 d1 => ⟨h.mono s1, fun w H2 s2 d2 => by
    obtain ⟨ad, kvs, rfl, hk, dk⟩ := (d1.mono s2).of_dct (dI_exc m)
    have e2 := d2.of_int
    subst e2
    refine ⟨ad, .int (getI m z), rfl, ?_, q _ H2 (s1.trans s2) (.int _)⟩
    have := DGet.k (k := .inl z) hk
    rw [dk.valI z, lookup_has hm] at this
    exact this⟩⟩
theorem ev_getI {z n : Int} (hu : X.A.units + 1 < cLine) (ho : EV X G o (.dict (dI m))) (hi : EV X G a (.int z)) (hf : EV X G f (.int 0)) (m2 : M2 X o "get" apos a f pos) : EV X G (.Call (.Attribute o "get" apos) [a, f] [] pos) (.int (getI m z)) :=
  (pe_dget2 hu ho hi hf m2).imp fun σ H Q ⟨h, q⟩ => ⟨h, fun y H1 s1 d1 => by
    obtain ⟨ad, kvs, rfl, hk, dk⟩ := d1.of_dct (dI_exc m)
    refine ⟨ad, rfl, .inl ⟨kvs, .inl hk⟩, h.mono s1, fun w H2 s2 d2 => ⟨(h.mono s1).mono s2, fun w3 H3 s3 d3 => ?_⟩⟩
    have e2 := d2.of_int
    have e3 := d3.of_int
    subst e2 e3
    refine ⟨_, DGet.k (k := .inl z) (s3 _ _ (s2 _ _ hk)), q _ H3 ((s1.trans s2).trans s3) ?_⟩
    rw [dk.valI z]
    unfold getI
    cases m.lookup z with
    | none => exact .int 0
    | some v => exact .int v⟩
theorem svs_ownDP {sts : List Stmt} (hN : X.N.Nodup) (hi : X.N[i]? = some x) (hx : Loc X.env.scope x) (hG : i < G.length) (hk : EVK X G e m) (h : ∀ H0 p, KRs X H0 p i (fun G' es => G' = G.set i none ∧ es = dI m) sts d)
    (hs : swapsWith e (some (.Name x pos')) pos.line X.env = pure false := by rfl) (hf : X.fn x = true ∨ X.env.scope.names.lookup x = some .local := by first | exact .inl rfl | exact .inr rfl | assumption) :
    SVs X G (.Assign [.Name x pos'] e pos :: sts) (.ret d) := by
  intro pins s σ H D I ⟨hσ, q⟩
  have h2 : PSs X sts (fun D σ H => ∃ hp : Hp × Addr, tKR X.K hp.1 hp.2 i (fun G' es => G' = G.set i none ∧ es = dI m) d D σ H) := fun pins s σ H D I ⟨hp, q⟩ => h hp.1 hp.2 pins s σ H D I q
  refine pss_cons (ps_set hN hi hx hk hs hf) h2 pins s σ H D I ⟨hσ, fun p kvs H' hp s' hd dk => ?_⟩
  have sb : Same H (dele H' p) := fun c o z => by
    have hc : c ≠ p := ne_of_none z hp
    rw [dele_ne hc]
    exact s' c o z
  have hb := hσ.mono sb
  refine ⟨(dele H' p, p), ⟨_, _, ⟨rfl, rfl⟩, dele H' p, kvs, (upd_deleO hd).symm, dele_same, Same.refl _, ⟨by rw [List.length_set, List.length_set, hσ.1], fun j d e => ?_⟩, List.getElem?_set_self (by rw [hσ.1]; exact hG), dk _⟩, fun v H2 s2 dv => q v H2 (sb.trans s2) dv⟩
  by_cases hj : i = j
  · subst hj
    rw [List.getElem?_set_self hG] at e
    cases e
  · rw [List.getElem?_set_ne hj] at e ⊢
    exact hb.2 j d e
end
section
variable {X : Cx} {H0 : Hp} {p : Addr} {i j : Nat} {Pre Post : Gam → List (PyData × PyData) → Prop} {pos : Pos}
theorem SqT.deleD {K : PySem.W.Frag} {H : Hp} {p a : Addr} {ws : List (Key × V)} {xs : List V} (hp : H p = some (.dK ws)) (h : SqT K H a xs) : SqT K (L2.dele H p) a xs := by
  rcases h with h | h
  · have hn : a ≠ p := fun e => by
      subst e
      rcases h with h | ⟨o, h⟩ <;> (rw [hp] at h; cases h)
    rcases h with h | ⟨o, h⟩
    · exact .inl (.inl (by rw [dele_ne hn]; exact h))
    · exact .inl (.inr ⟨o, by rw [dele_ne hn]; exact h⟩)
  · exact .inr h
theorem kt_forP {tg iter : Expr} {body : List Stmt} {is : List Nat} {xs : List (List PyData)} (W : Nat → Gam → List (PyData × PyData) → Prop) (hp : PassesOwn (model X.prog X.w) X.A X.env X.xe) (hcalm : X.calm = true) (hii : i ∉ is) (hg : PG X tg (gTup X.K is.length (gNames is)))
    (hpre : ∀ G ds, Pre G ds → W 0 G ds ∧ EV X (plusD G i ds) iter (.tuple (xs.map PyData.tuple))) (hnl : noKs (xs.map PyData.tuple) = true) (hlen : ∀ l ∈ xs, is.length = l.length)
    (hs : ∀ (H1 : Hp) (k : Nat) l, xs[k]? = some l → KTs X H1 p i (fun G ds => ∃ G', W k G' ds ∧ G = bindN is l G') body (W (k + 1))) (hpost : ∀ G ds, W xs.length G ds → Post G ds)
    (hfs : ∀ x, foldedSetIterable iter X.env x = pure x := by intro _; rfl) : KT1 X H0 p i Pre (.For tg iter body [] pos) Post := by
  intro pins s σ H D I ⟨⟨G, ds, a, o⟩, q⟩
  obtain ⟨w0, ev⟩ := hpre G ds a
  have hbody : PSs X body (fun D σ H => ∃ kd : Hp × Nat × List PyData, xs[kd.2.1]? = some kd.2.2 ∧ tK X.K kd.1 p i (fun G ds => ∃ G', W kd.2.1 G' ds ∧ G = bindN is kd.2.2 G') (W (kd.2.1 + 1)) D σ H) := fun pins s σ H D I ⟨k, hk, q⟩ => hs k.1 k.2.1 k.2.2 hk pins s σ H D I q
  refine ps_for hp hcalm (pi_tup ev) hg hbody hfs pins s σ H D I ⟨o.sd, fun v H1 s1 d1 => ?_⟩
  obtain ⟨l, us, rfl, hl, dus⟩ := d1.of_tup
  refine ⟨l, rfl, ⟨us, hl⟩, ?_⟩
  obtain ⟨Hb, vs, rfl, hn, s0, hσ, hi, dv⟩ := id o
  have hp1 : H1 p = some (.dK vs) := s1 p _ upd_same
  have sb : Same Hb (dele H1 p) := fun c o z => by
    have hc : c ≠ p := ne_of_none z hn
    rw [dele_ne hc]
    exact s1 c o (by rw [upd_ne hc]; exact z)
  have hlc : SqT X.K (dele H1 p) l us := hl.deleD hp1
  have dusc : DVs X.K (dele H1 p) us (xs.map PyData.tuple) := DVs.noDict hp1 (fun a ha => dele_ne ha) dus hnl
  have keyT : ∀ {G2 : Gam} {ds2 : List (PyData × PyData)} {σ2 : St} {H2 : Hp}, ODt X.K (dele H1 p) p i G2 ds2 σ2 H2 → SqT X.K H2 l us := fun ⟨Hc, ws, e, nc, sc, _⟩ => by
    subst e
    exact (Same.new nc).seqT (sc.seqT hlc)
  have hul : us.length = xs.length := by rw [dus.length, List.length_map]
  refine for_tup (K := X.K) (a := l) (xs := us) (g := gTup X.K is.length (gNames is)) (tb := fun D σ H => ∃ kd : Hp × Nat × List PyData, xs[kd.2.1]? = some kd.2.2 ∧ tK X.K kd.1 p i (fun G ds => ∃ G', W kd.2.1 G' ds ∧ G = bindN is kd.2.2 G') (W (kd.2.1 + 1)) D σ H)
    (fun k σ H => ∃ G ds, W k G ds ∧ ODt X.K (dele H1 p) p i G ds σ H) ⟨G, ds, w0, dele H1 p, vs, (upd_deleO hp1).symm, dele_same, Same.refl _, hσ.mono sb, hi, dv.mono sb⟩ (fun k σ2 H2 _ ⟨_, _, _, o2⟩ => keyT o2) (fun k z σ2 H2 hk ⟨G2, ds2, w2, o2⟩ => ?_)
    (fun σ2 H2 ⟨G2, ds2, w2, Hc, ws, e, nc, sc, r⟩ => q σ2 H2 G2 ds2 (hpost _ _ (by rw [← hul]; exact w2)) ⟨Hc, ws, e, nc, (s0.trans sb).trans sc, r⟩)
  obtain ⟨d, ed, dz⟩ := dusc.get' hk
  rw [List.getElem?_map] at ed
  obtain ⟨l2, el2, e2⟩ := Option.map_eq_some_iff.mp ed
  subst e2
  obtain ⟨Hc, ws, e, nc, sc, hσ2, hi2, dv2⟩ := o2
  subst e
  obtain ⟨b, ys, rfl, hy, dys⟩ := (dz.mono sc).of_tup
  refine ⟨b, ys, rfl, (Same.new nc).seqT hy, by rw [dys.length, hlen l2 (List.mem_of_getElem? el2)], ?_⟩
  refine bindN_to2 (Hb := Hc) is l2 ys σ2 G2 _ (hlen l2 (List.mem_of_getElem? el2)) hσ2 dys fun σ3 h3 hm => ?_
  exact ⟨(dele H1 p, k, l2), el2, ⟨_, ds2, ⟨G2, w2, rfl⟩, Hc, ws, rfl, nc, sc, h3, by rw [hm i hii]; exact hi2, dv2⟩, fun σ4 H4 G4 ds4 w4 o4 => ⟨G4, ds4, w4, o4⟩⟩
end
section
variable {X : Cx} {H0 : Hp} {p : Addr} {i j : Nat} {Pre Post : Gam → List PyData → Prop} {pos : Pos}
theorem ht_forF {tg iter : Expr} {body : List Stmt} {xs : List PyData} (W : Nat → Gam → List PyData → Prop) (hp : PassesOwn (model X.prog X.w) X.A X.env X.xe) (hcalm : X.calm = true) (hij : j ≠ i) (hg : PG X tg (gName j))
    (hpre : ∀ G ds, Pre G ds → W 0 G ds ∧ EVF X (plusL G i ds) iter xs) (hnl : noLs xs = true)
    (hs : ∀ (H1 : Hp) (k : Nat) d, xs[k]? = some d → HTs X H1 p i (fun G ds => ∃ G', W k G' ds ∧ G = G'.set j (some d)) body (W (k + 1))) (hpost : ∀ G ds, W xs.length G ds → Post G ds)
    (hfs : ∀ x, foldedSetIterable iter X.env x = pure x := by intro _; rfl) : HT1 X H0 p i Pre (.For tg iter body [] pos) Post := by
  intro pins s σ H D I ⟨⟨G, ds, a, o⟩, q⟩
  obtain ⟨w0, ev⟩ := hpre G ds a
  have hbody : PSs X body (fun D σ H => ∃ kd : Hp × Nat × PyData, xs[kd.2.1]? = some kd.2.2 ∧ tH X.K kd.1 p i (fun G ds => ∃ G', W kd.2.1 G' ds ∧ G = G'.set j (some kd.2.2)) (W (kd.2.1 + 1)) D σ H) := fun pins s σ H D I ⟨k, hk, q⟩ => hs k.1 k.2.1 k.2.2 hk pins s σ H D I q
  refine ps_for hp hcalm (pi_list ev) hg hbody hfs pins s σ H D I ⟨o.sd, fun l us H1 hl0 s1 hl dus => ?_⟩
  refine ⟨l, rfl, ⟨us, SqL.of hl⟩, ?_⟩
  obtain ⟨Hb, vs, rfl, hn, s0, hσ, hi, dv⟩ := id o
  have hp1 : H1 p = some (.lst vs) := s1 p _ upd_same
  have hlp : l ≠ p := fun e => by
    subst e
    rw [upd_same] at hl0
    cases hl0
  have sb : Same Hb (dele H1 p) := fun c o z => by
    have hc : c ≠ p := ne_of_none z hn
    rw [dele_ne hc]
    exact s1 c o (by rw [upd_ne hc]; exact z)
  have hlc : (dele H1 p) l = some (.lst us) := by rw [dele_ne hlp]; exact hl
  have dusc : DVs X.K (dele H1 p) us xs := DVs.dele hp1 dus hnl
  have keyT : ∀ {G2 : Gam} {ds2 : List PyData} {σ2 : St} {H2 : Hp}, OSt X.K (dele H1 p) p i G2 ds2 σ2 H2 → SqL X.K H2 l us := fun ⟨Hc, ws, e, nc, sc, _⟩ => by
    subst e
    exact (Same.new nc).seq (sc.seq (SqL.of hlc))
  have hul : us.length = xs.length := dus.length
  refine for_list (K := X.K) (a := l) (xs := us) (g := gName j) (tb := fun D σ H => ∃ kd : Hp × Nat × PyData, xs[kd.2.1]? = some kd.2.2 ∧ tH X.K kd.1 p i (fun G ds => ∃ G', W kd.2.1 G' ds ∧ G = G'.set j (some kd.2.2)) (W (kd.2.1 + 1)) D σ H)
    (fun k σ H => ∃ G ds, W k G ds ∧ OSt X.K (dele H1 p) p i G ds σ H) ⟨G, ds, w0, dele H1 p, vs, (upd_dele hp1).symm, dele_same, Same.refl _, hσ.mono sb, hi, dv.mono sb⟩ (fun k σ2 H2 _ ⟨_, _, _, o2⟩ => keyT o2) (fun k z σ2 H2 hk ⟨G2, ds2, w2, o2⟩ => ?_)
    (fun σ2 H2 ⟨G2, ds2, w2, Hc, ws, e, nc, sc, r⟩ => q σ2 H2 G2 ds2 (hpost _ _ (by rw [← hul]; exact w2)) ⟨Hc, ws, e, nc, (s0.trans sb).trans sc, r⟩)
  obtain ⟨d, ed, dz⟩ := dusc.get' hk
  obtain ⟨Hc, ws, e, nc, sc, hσ2, hi2, dv2⟩ := o2
  exact ⟨(dele H1 p, k, d), ed, ⟨_, ds2, ⟨G2, w2, rfl⟩, Hc, ws, e, nc, sc, hσ2.set (dz.mono sc), by rw [List.getElem?_set_ne hij]; exact hi2, dv2⟩, fun σ4 H4 G4 ds4 w4 o4 => ⟨G4, ds4, w4, o4⟩⟩
end
end L2
set_option maxRecDepth 100000
set_option maxHeartbeats 1000000
namespace L2
open PySem PySem.Spec PyProof.Rows
section
variable {X : Cx} {R : Reg} {G G1 G2 : Gam} {T T1 T2 : List PyData} {e c a b : Expr} {es : List Expr} {d : PyData} {ds xs ys : List PyData} {k i : Nat} {pos pos' pos2 pos3 apos : Pos} {x f m : Str}
structure OT (P : Program) (w : World) (K : PySem.W.Frag) (R : Reg) (H0 : Hp) (p : Addr) (T ws : List PyData) (σ : St) (H : Hp) : Prop where
  len : σ.length = 2
  s0 : σ[0]? = some (some (.ref R.a))
  s1 : σ[1]? = some (some (.ref p))
  off : p ∉ R.L
  lst : ∃ us, H p = some (.lst us) ∧ DVs K (lef (p :: R.L) H) us ws
  tab : ∃ fs vs xs, TabS P w K R T (lef (p :: R.L) H) H fs vs xs
  same : Same (lef R.L H0) (lef (p :: R.L) H)
theorem OT.rs {P : Program} {w : World} {K : PySem.W.Frag} {H0 : Hp} {p : Addr} {ws : List PyData} {σ : St} {H : Hp} (o : OT P w K R H0 p T ws σ H) : RS P w K R [none, some (.list ws)] T σ H := by
  obtain ⟨us, hl, du⟩ := o.lst
  obtain ⟨fs, vs, xs, t⟩ := o.tab
  have sb : Same (lef (p :: R.L) H) (lef R.L H) := lef_sub fun b hb => List.mem_cons_of_mem _ hb
  refine ⟨o.s0, ⟨fs, vs, xs, t.mono sb (Same.refl _)⟩, by rw [o.len]; rfl, fun j d e => ?_⟩
  match j, e with
  | 0, e => simp at e
  | 1, e =>
    have e : PyData.list ws = d := by simpa using e
    subst e
    exact ⟨_, o.s1, .lst (SqL.of (by rw [lef_ne o.off]; exact hl)) (du.mono sb)⟩
  | j + 2, e => simp at e
end
end L2
set_option maxRecDepth 100000
set_option maxHeartbeats 1000000
namespace L2
open PySem PySem.Spec PyProof.Rows
section
variable {P : Program} {w : World} {K : PySem.W.Frag} {mg : Str → Option Value} {base : Heap}
def MFn (P : Program) (w : World) (K : PySem.W.Frag) (mg : Str → Option Value) (base : Heap) (k : Nat) (C : Addr) (m : Str) (F : List PyData → PyData → Prop) : Prop :=
  ∃ f fd ps, FnOk P w K mg base CX0 k f fd ps (spD K F) ∧ Meth K C m f ∧ Binds K fd ps []
theorem Fun.dataM {x qual m : Str} {st : Stmt} {f : Addr} {fd : FuncData} {N ps : List Str} {k : Nat} {C : Addr} {F : List PyData → PyData → Prop} (F0 : Fun K x qual st f fd) (hm : Meth K C m f) (hb : Binds K fd ps []) (S : FnScope N ps (defScope st)) (len : ∀ ds d, F ds d → ds.length = ps.length)
    (hbody : ∀ (cdv : Value) (A : Around) (outer : List Env) (s : Shared) (H : Hp) (E : XK) (ds : List PyData) (d : PyData), Room k (A.deeper (envOfC qual (defScope st) s.heap.objs.size f cdv)) → F ds d →
      SVs (cxOf CX0 P w K mg base N qual (defScope st) f cdv A outer s H E).nox (startG N ds) (defBody st) (.ret d)) : MFn P w K mg base (k + 1) C m F :=
  ⟨f, fd, ps, F0.ok S (fun vs H Q E ⟨ds, d, h1, h2, _⟩ => h1.length.trans (len ds d h2)) (fun cdv A outer s H vs Q E hr ⟨ds, d, h1, h2, q⟩ => ⟨_, hbody cdv A outer s H E ds d hr h2, SD.start h1, q⟩), hm, hb⟩
theorem Fun.tabM {x qual n0 m : Str} {st : Stmt} {f : Addr} {fd : FuncData} {N ps : List Str} {k : Nat} {C : Addr} {F : List PyData → List PyData → PyData → List PyData → Prop} (F0 : Fun K x qual st f fd) (hm : Meth K C m f) (hb : Binds K fd ps []) (S : FnScope (n0 :: N) ps (defScope st)) (len : ∀ T ds d T', F T ds d T' → ds.length + 1 = ps.length)
    (hbody : ∀ (cdv : Value) (A : Around) (outer : List Env) (s : Shared) (H : Hp) (E : XK) (R : Reg) (T ds : List PyData) (d : PyData) (T' : List PyData), Room k (A.deeper (envOfC qual (defScope st) s.heap.objs.size f cdv)) → R.C = C → F T ds d T' →
      PSs (cxOf CX0 P w K mg base (n0 :: N) qual (defScope st) f cdv A outer s H E).nox (defBody st) (tTR P w K R (none :: startG N ds) T d T')) : TFn P w K mg base (k + 1) C m F := ⟨f, fd, ps, F0.tab S len hbody, hm, hb⟩
def IFn (P : Program) (w : World) (K : PySem.W.Frag) (mg : Str → Option Value) (base : Heap) (k : Nat) (C : Addr) : Prop :=
  ∃ f fd ps, FnOk P w K mg base CX0 k f fd ps (spTI P w K C) ∧ Mk K C f ∧ Binds K fd ps []
def AFn (P : Program) (w : World) (K : PySem.W.Frag) (mg : Str → Option Value) (base : Heap) (k : Nat) (C : Addr) (x : Str) (F : List PyData → List PyData → PyData → List PyData → Prop) : Prop :=
  ∃ f fd ps, FnOk P w K mg base CX0 k f fd ps (spT P w K C F) ∧ mg x = some (.ref f) ∧ PySem.W.keepIn K (.ref f) = true ∧ Binds K fd ps []
end
section
variable {X : Cx} {G : Gam} {C : Addr} {k k2 i j : Nat} {e : Expr} {es : List Expr} {ds T : List PyData} {d : PyData} {fls : List (PyData × PyData)} {pos pos2 apos p1 p2 p3 p4 p5 p6 p7 p8 p9 : Pos} {x m xt xa xf : Str}
theorem ev_methD {F : List PyData → PyData → Prop} {pl : Sem Bool} (cl : Cls X.K C) (D : MFn X.prog X.w X.K X.mg X.base k C m F) (hr : Room k X.A) (hv : EV X G (.Name x pos2) (objD C fls)) (ha : AV X G (e :: es) ds) (hF : F (objD C fls :: ds) d) (h1 : m ∉ fldsAll := by decide)
    (hst : starEach (e :: es) X.env = (false, eval e X.env) :: starEach es X.env := by rfl) (hpl : (backTo pos (starEach es X.env)).any (·.1) = false := by rfl)
    (ht : eval (.Call (.Attribute (.Name x pos2) m apos) (e :: es) [] pos) X.env = (do
      let ov ← eval (.Name x pos2) X.env
      standAt apos.atName
      let (f, first) ← holding [ov] (getMethod ov m pl)
      callWith pos f first (backTo pos (starEach (e :: es) X.env)) (backToKw pos (keywordEach [] X.env))) := by rfl) :
    EV X G (.Call (.Attribute (.Name x pos2) m apos) (e :: es) [] pos) d := by
  obtain ⟨f, fd, ps, ok, hm, hb⟩ := D
  refine (pe_meth (E := E0) (dvs := []) (ds := []) hv cl hm ok hr hb .nil pass0 ha hst hpl ht).imp fun σ H Q ⟨h, q⟩ => ⟨h, fun v H1 s1 d1 => ?_⟩
  obtain ⟨a, dx, fs, rfl, ho, hf, hn⟩ := d1.of_objN
  refine ⟨a, dx, fs, rfl, ho, hn m h1, h.mono s1, fun vs H2 s2 dvs => ?_⟩
  show spD X.K F (V.ref a :: (vs ++ [])) H2 Q E0
  rw [List.append_nil]
  exact ⟨_, d, .cons (d1.mono s2) dvs, hF, fun v H3 s3 d3 => q v H3 ((s1.trans s2).trans s3) d3⟩
theorem ev_fldD {f : Str} (cl : Cls X.K C) (hn : NoAttr X.K C f) (hv : EV X G (.Name x pos2) (objD C fls)) (hf : (.str f, d) ∈ fls) (hb : attributeBase (.Name x pos2) f X.env (eval (.Name x pos2) X.env) = eval (.Name x pos2) X.env := by rfl) : EV X G (.Attribute (.Name x pos2) f pos) d :=
  (pe_fld hv hb).imp fun σ H Q ⟨h, q⟩ => ⟨h, fun v H1 s1 d1 => by
    obtain ⟨a, dx, fs, rfl, ho, hfl, _⟩ := d1.of_objN
    obtain ⟨u, e, du⟩ := hfl.get hf
    exact ⟨a, C, dx, fs, u, rfl, ho, cl, hn, e, q u H1 s1 du⟩⟩
end
end L2
set_option maxRecDepth 100000
set_option maxHeartbeats 1000000
namespace L2
open PySem PySem.Spec PyProof.Rows
section
variable {X : Cx} {G : Gam} {x : Str} {pos : Pos} {d : PyData}
theorem od_inT {da : PyData} {xs : List PyData} {k : Bool} (hu : X.A.units + 64 < cLine) (h1 : kT da = true) (h2 : kTs xs = true) (hd : da.depth ≤ 8) (hk : (xs.any fun e => PyData.eqv e da) = k) : OD X (compareOp .In) da (.tuple xs) (.bool k) := by
  intro pins s σ H x y v u Q I rx ry ⟨d1, d2, q⟩
  obtain ⟨as, ra⟩ := DV.reads I d1 rx (kT_lay h1)
  obtain ⟨bs, rb⟩ := DV.reads I d2 ry (kT_lay (d := .tuple xs) (by unfold kT; exact h2))
  exact PySem.SeqAt.in_tuple_reads rb ra (kTs_lay h2) (kT_lay h1) (by omega) ⟨.bl k, H, I, by rw [hk]; rfl, q _ H (Same.refl H) (.bl k)⟩
def GDat (K : PySem.W.Frag) (mg : Str → Option Value) (x : Str) (d : PyData) : Prop := ∃ v u, mg x = some u ∧ RelV v u ∧ ∀ H, DV K H v d
theorem ev_gdat (T : GDat X.K X.mg x d) (hg : Gl X x) (hd : (x == ("__debug__" : Str)) = false := by decide) : EV X G (.Name x pos) d := by
  obtain ⟨v, u, hm, r, dv⟩ := T
  exact (pe_glob hg hm r hd).imp fun σ H Q ⟨h, q⟩ => q _ H (Same.refl H) (dv H)
theorem gterm_mk {K : PySem.W.Frag} {mg : Str → Option Value} {h : Heap} (X : K.In h) (G : h.Ns mainGlobals mg) {x : Str} {i : Int} {a b : Addr} {t : Tok} {its its2 : Array Value} {n n2 : Nat} {sl sl2 : Array (Option Value)}
    (z : PySem.W.nsIn K mainGlobals x = some (some (.ref a))) (l : K.lookup a = some ⟨.type "tuple", none, .seq its n, sl⟩) (hv : its.toList = [.int i t, .ref b]) (l2 : K.lookup b = some ⟨.type "tuple", none, .seq its2 n2, sl2⟩) (hv2 : its2.toList = []) : GDat K mg x (tmD (i, [])) := by
  refine ⟨.ref a, .ref a, PySem.W.mg_of X G z, rfl, fun H => .tup (xs := [.int i, .ref b]) (.inr ⟨_, its, n, l, rfl, rfl, rfl, ?_, ?_⟩) (.cons (.int i) (.cons (.tup (xs := []) (.inr ⟨_, its2, n2, l2, rfl, rfl, rfl, ?_, ?_⟩) .nil) .nil))⟩
  · have : its.size = 2 := by rw [← Array.length_toList, hv]; rfl
    rw [this, sizeLine_eq]; omega
  · rw [hv]; exact .cons ⟨t, rfl⟩ (.cons rfl .nil)
  · have : its2.size = 0 := by rw [← Array.length_toList, hv2]; rfl
    rw [this]; omega
  · rw [hv2]; exact .nil
end
end L2
set_option maxRecDepth 100000
set_option maxHeartbeats 1000000
namespace L2
open PySem PySem.Spec PyProof.Rows
section
variable {prog : Program} {w : World} {A : Around} {E : Value → Shared → Prop} {s : Shared}
theorem draw_list {it t : Addr} {items : Array Value} (hne : t ≠ it) : ∀ (n i : Nat) (s : Shared) (Q : List Value → Shared → Prop), s.heap.IsListIter it t i → s.heap.IsList t items → i + n ≤ items.size →
    (∀ h', h'.IsListIter it t (i + n) → Heap.SameBut it s.heap h' → Q ((items.toList.drop i).take n) { s with heap := h' }) → wpAny (model prog w) A (draw (.ref it) n) Q E s
  | 0, i, s, Q, hit, _, _, hQ => by
    show wpAny _ _ (pure []) Q E s
    exact wpAny_pure (by simpa using hQ s.heap hit (Heap.SameBut.refl ..))
  | n + 1, i, s, Q, hit, ht, hle, hQ => by
    have hlt : i < items.size := by omega
    show wpAny _ _ (pyNext (.ref it) >>= _) Q E s
    refine wpAny_bind (wpAny_pyNext_list_item hit ht (x := items[i]) (by simp [hlt]) fun h₁ hit₁ hs₁ => ?_)
    refine wpAny_bind (wpAny_holding (draw_list hne n (i + 1) _ _ hit₁ (ht.extBut hs₁.extBut hne) (by omega) fun h₂ hit₂ hs₂ => wpAny_pure ?_))
    have hd : items.toList.drop i = items[i] :: items.toList.drop (i + 1) := by simp [List.drop_eq_getElem_cons, hlt]
    have := hQ h₂ (by rw [show i + (n + 1) = i + 1 + n by omega]; exact hit₂) (hs₁.trans hs₂)
    rw [hd, List.take_succ_cons] at this
    exact this
theorem unpackItems_list {t : Addr} {items : Array Value} {Q : List Value → Shared → Prop} (hh : A.handled = none) (ht : s.heap.IsList t items)
    (hQ : ∀ h', Heap.ExtBut s.heap.objs.size s.heap h' → Q items.toList { s with heap := h' }) : wpAny (model prog w) A (unpackItems (.ref t) items.size none) Q E s := by
  have hlt : t ≠ s.heap.objs.size := by obtain ⟨o, ho, _⟩ := ht; exact Nat.ne_of_lt (Heap.lt_size ho)
  unfold unpackItems
  refine wpAny_bind ?_
  · unfold notIterableAtAll
    refine wpAny_bind (wpAny_specialOf ht.typeIs PySem.F.slot_list_iter.lookup ?_)
    refine wpAny_pure ?_
    simp only [Bool.false_eq_true, if_false]
    refine wpAny_bind (wpAny_holding (wpAny_pyIter_list ht ?_))
    refine wpAny_bind (wpAny_holding (draw_list hlt items.size 0 _ _ ⟨_, Heap.get?_push_size _ rfl, rfl, rfl⟩ (ht.push _) (by omega) fun h₁ hit₁ hs₁ => ?_))
    have hall : List.take items.size (List.drop 0 items.toList) = items.toList := by
      rw [List.drop_zero]; exact List.take_of_length_le (by simp)
    rw [hall]
    rw [if_neg (by simp)]
    have ht₁ : h₁.IsList t items := (ht.push _).extBut hs₁.extBut hlt
    refine wpAny_bind (wpAny_holding (wpAny_pyNext_list_end hh hit₁ ht₁ (by simp) fun h₂ he₂ => ?_))
    simp only [Option.isSome_none, Bool.false_eq_true, if_false]
    refine wpAny_pure (hQ h₂ fun b o hb e => he₂ b o hb (hs₁.extBut b o hb (Heap.get?_push_of_some _ e)))
theorem assign_Tuple_list {env : Env} {elts : List Expr} {x1} {pos : Pos} {t : Addr} {items : Array Value} {Q : Unit → Shared → Prop} (hh : A.handled = none) (ht : s.heap.IsList t items)
    (hn : (assignEach elts env).length = items.size) (hstar : (assignEach elts env).findIdx? (·.1) = none)
    (h : ∀ h', Heap.ExtBut s.heap.objs.size s.heap h' → wpAny (model prog w) A (assignInOrder ((assignEach elts env).map (·.2)) items.toList) Q E { s with heap := h' }) :
    wpAny (model prog w) A (assign (.Tuple elts x1 pos) env (.ref t)) Q E s := by
  rw [assign_Tuple]
  refine wpAny_bind (wpAny_standAt ?_)
  unfold unpack
  rw [hn, hstar]
  exact wpAny_bind (wpAny_holding (unpackItems_list hh ht h))
end
section
variable {X : Cx} {G : Gam} {pos : Pos} {e c a b tg : Expr} {d : PyData}
def gLst (K : PySem.W.Frag) (n : Nat) (t : TGs) : TG := fun v σ H Q => ∃ a xs, v = .ref a ∧ SqL K H a xs ∧ xs.length = n ∧ t xs σ H Q
theorem pg_lst {es : List Expr} {k : Nat} {t : TGs} {n : Nat} (hc : X.calm = true) (h : PGs X es t)
    (hn : (assignEach es X.env).length = n := by rfl) (hst : (assignEach es X.env).findIdx? (·.1) = none := by rfl) : PG X (.Tuple es k pos) (gLst X.K n t) := by
  intro pins s σ H v u Q I r hw
  obtain ⟨a, xs, e1, hq, hl, hw⟩ := hw
  subst e1
  cases r
  obtain ⟨its, rv, pl, hz⟩ := I.list hq
  refine assign_Tuple_list (items := its.toArray) (I.ok.hd hc) pl.isList (by simp [hn, ← hl, rv.length]) hst fun h' hx => ?_
  have I1 : Inv X pins σ H { s with heap := h' } := I.kept (t' := s.toks) fun b o e => hx b o (Nat.ne_of_lt (Heap.lt_size e)) e
  exact h pins _ σ H xs _ Q I1 (by simpa using rv) hw
def bindL (is : List Nat) (d : PyData) (G : Gam) : Gam := match d with
  | .list ds => bindN is ds G
  | _ => G
theorem ev_ife {k : Bool} (hc : TV X G c k) (h1 : k = true → EV X G a d) (h2 : k = false → EV X G b d) : EV X G (.IfExp c a b pos) d := by
  have hA : PE X a (fun σ H Q => k = true ∧ tD X.K G d σ H Q) := fun pins s σ H Q I ⟨e, q⟩ => h1 e pins s σ H Q I q
  have hB : PE X b (fun σ H Q => k = false ∧ tD X.K G d σ H Q) := fun pins s σ H Q I ⟨e, q⟩ => h2 e pins s σ H Q I q
  refine (pe_ifExp hc hA hB).imp fun σ H Q ⟨h, q⟩ => ⟨h, fun H1 s1 => ?_⟩
  cases k with
  | true => exact iteT ⟨rfl, h.mono s1, fun v H2 s2 dv => q v H2 (s1.trans s2) dv⟩
  | false => exact iteF ⟨rfl, h.mono s1, fun v H2 s2 dv => q v H2 (s1.trans s2) dv⟩
end
end L2
set_option maxRecDepth 100000
set_option maxHeartbeats 1000000
namespace L2
open PySem PySem.Spec PyProof.Rows
structure ZOk (L : List Addr) (I : Hp → Prop) : Prop where
  step : ∀ {H H' : Hp}, I H → Same H H' → I H'
  notup : ∀ {H : Hp}, I H → ∀ b ∈ L, ∀ xs, ¬ Rd H b (.tup xs)
  free : ∀ {H : Hp} {p : Addr}, I H → H p = none → p ∉ L
def RZ (K : PySem.W.Frag) (L : List Addr) (I : Hp → Prop) (rs : List (Nat × Addr)) (G : Gam) (σ : St) (H : Hp) : Prop := (∀ q ∈ rs, σ[q.1]? = some (some (.ref q.2))) ∧ I H ∧ SD K (lef L H) σ G
def zE (K : PySem.W.Frag) (L : List Addr) (I : Hp → Prop) (rs : List (Nat × Addr)) (G : Gam) (d : PyData) (I' : Hp → Prop) : TE := fun σ H Q => RZ K L I rs G σ H ∧ ∀ v H', I' H' → Same (lef L H) (lef L H') → DV K (lef L H') v d → Q v H'
abbrev ZE (X : Cx) (L : List Addr) (I : Hp → Prop) (rs : List (Nat × Addr)) (G : Gam) (e : Expr) (d : PyData) (I' : Hp → Prop) : Prop := PE X e (zE X.K L I rs G d I')
def zT (K : PySem.W.Frag) (L : List Addr) (I : Hp → Prop) (rs : List (Nat × Addr)) (G : Gam) (k : Bool) : TT := fun σ H Q => RZ K L I rs G σ H ∧ ∀ H', RZ K L I rs G σ H' → Same (lef L H) (lef L H') → Q k H'
abbrev ZT (X : Cx) (L : List Addr) (I : Hp → Prop) (rs : List (Nat × Addr)) (G : Gam) (e : Expr) (k : Bool) : Prop := PT X e (zT X.K L I rs G k)
def zA (K : PySem.W.Frag) (L : List Addr) (I : Hp → Prop) (rs : List (Nat × Addr)) (G : Gam) (ds : List PyData) (I' : Hp → Prop) : TA := fun σ H Q => RZ K L I rs G σ H ∧ ∀ vs H', I' H' → Same (lef L H) (lef L H') → DVs K (lef L H') vs ds → Q vs H'
abbrev ZA (X : Cx) (L : List Addr) (I : Hp → Prop) (rs : List (Nat × Addr)) (G : Gam) (es : List Expr) (ds : List PyData) (I' : Hp → Prop) : Prop := PA X es (zA X.K L I rs G ds I')
def zN (K : PySem.W.Frag) (L : List Addr) (I : Hp → Prop) (rs : List (Nat × Addr)) (G G' : Gam) (I' : Hp → Prop) : TS := fun D σ H => RZ K L I rs G σ H ∧ ∀ σ' H', RZ K L I' rs G' σ' H' → Same (lef L H) (lef L H') → D.nx σ' H'
def zR (K : PySem.W.Frag) (L : List Addr) (I : Hp → Prop) (rs : List (Nat × Addr)) (G : Gam) (d : PyData) (I' : Hp → Prop) : TS := fun D σ H => RZ K L I rs G σ H ∧ ∀ v H', I' H' → Same (lef L H) (lef L H') → DV K (lef L H') v d → D.rt v H'
section
variable {X : Cx} {L : List Addr} {I I1 I2 : Hp → Prop} {rs : List (Nat × Addr)} {G G1 G2 : Gam} {e c a b : Expr} {es : List Expr} {d : PyData} {ds : List PyData} {k : Bool} {pos pos' pos2 apos : Pos} {x f m : Str} {i : Nat}
theorem RZ.sd {K : PySem.W.Frag} {σ : St} {H : Hp} (r : RZ K L I rs G σ H) : SD K H σ G := r.2.2.mono lef_same
theorem RZ.step {K : PySem.W.Frag} {σ : St} {H H' : Hp} (ok : ZOk L I) (r : RZ K L I rs G σ H) (s : Same H H') : RZ K L I rs G σ H' := ⟨r.1, ok.step r.2.1 s, r.2.2.mono s.lef⟩
theorem RZ.next {K : PySem.W.Frag} {σ : St} {H H' : Hp} (r : RZ K L I rs G σ H) (i : I1 H') (s : Same (lef L H) (lef L H')) : RZ K L I1 rs G σ H' := ⟨r.1, i, r.2.2.mono s⟩
theorem ze_of (ok : ZOk L I) (h : EV X G e d) (hn : noL d = true) : ZE X L I rs G e d I := h.imp fun σ H Q ⟨r, q⟩ => ⟨r.sd, fun v H' s' dv => q v H' (ok.step r.2.1 s') s'.lef (DV.lef (ok.notup (ok.step r.2.1 s')) dv hn)⟩
theorem zt_of (ok : ZOk L I) (h : TV X G c k) : ZT X L I rs G c k := h.imp fun σ H Q ⟨r, q⟩ => ⟨r.sd, fun H' s' => q H' (r.step ok s') s'.lef⟩
theorem za_nil : ZA X L I rs G [] [] I := pa_nil.imp fun σ H Q ⟨r, q⟩ => q [] H r.2.1 (Same.refl _) .nil
theorem za_cons (h : ZE X L I rs G e d I1) (hr : ZA X L I1 rs G es ds I2) (hs : starEach (e :: es) X.env = (false, eval e X.env) :: starEach es X.env := by rfl) : ZA X L I rs G (e :: es) (d :: ds) I2 :=
  (pa_cons h hr hs).imp fun σ H Q ⟨r, q⟩ => ⟨r, fun v H1 t1 s1 d1 => ⟨r.next t1 s1, fun vs H2 t2 s2 d2 => q (v :: vs) H2 t2 (s1.trans s2) (.cons (d1.mono s2) d2)⟩⟩
theorem ze_lst (ok : ZOk L I1) (h : ZA X L I rs G es ds I1) (hz : ds.length ≤ sizeLine) : ZE X L I rs G (.List es pos) (.list ds) I1 :=
  (pe_lst h).imp fun σ H Q ⟨r, q⟩ => ⟨r, fun vs H1 t1 s1 d1 => ⟨by rw [d1.length]; exact hz, fun p hp => by
    have sn : Same H1 (upd H1 p (.lst vs)) := Same.new hp
    have hpl : p ∉ L := ok.free t1 hp
    refine q _ _ (ok.step t1 sn) (s1.trans sn.lef) (.lst (SqL.of ?_) (d1.mono sn.lef))
    rw [lef_ne hpl]
    exact upd_same⟩⟩
theorem zr_if {A sts : List Stmt} (h : ZT X L I rs G c k) (h1 : k = true → PSs X A (zR X.K L I rs G d I1)) (h2 : k = false → PSs X sts (zR X.K L I rs G d I1)) : PSs X (.If c A [] pos :: sts) (zR X.K L I rs G d I1) := by
  cases k with
  | true => exact (pss_cons (ps_if h (h1 rfl) (pss_never (sts := []))) (pss_never (sts := sts))).imp fun D σ H ⟨r, q⟩ => ⟨r, fun H' r' s' => iteT ⟨r', fun v H2 t2 s2 dv => q v H2 t2 (s'.trans s2) dv⟩⟩
  | false => exact (pss_cons (ps_if h (pss_never (sts := A)) pss_nil) (h2 rfl)).imp fun D σ H ⟨r, q⟩ => ⟨r, fun H' r' s' => iteF ⟨r', fun v H2 t2 s2 dv => q v H2 t2 (s'.trans s2) dv⟩⟩
theorem zn_if {A B : List Stmt} (h : ZT X L I rs G c k) (h1 : k = true → PSs X A (zN X.K L I rs G G1 I1)) (h2 : k = false → PSs X B (zN X.K L I rs G G1 I1)) : PS X (.If c A B pos) (zN X.K L I rs G G1 I1) := by
  cases k with
  | true => exact (ps_if h (h1 rfl) (pss_never (sts := B))).imp fun D σ H ⟨r, q⟩ => ⟨r, fun H' r' s' => iteT ⟨r', fun σ2 H2 r2 s2 => q σ2 H2 r2 (s'.trans s2)⟩⟩
  | false => exact (ps_if h (pss_never (sts := A)) (h2 rfl)).imp fun D σ H ⟨r, q⟩ => ⟨r, fun H' r' s' => iteF ⟨r', fun σ2 H2 r2 s2 => q σ2 H2 r2 (s'.trans s2)⟩⟩
theorem zr_cons {st : Stmt} {sts : List Stmt} (h1 : PS X st (zN X.K L I rs G G1 I1)) (h2 : PSs X sts (zR X.K L I1 rs G1 d I2)) : PSs X (st :: sts) (zR X.K L I rs G d I2) :=
  (pss_cons h1 h2).imp fun D σ H ⟨r, q⟩ => ⟨r, fun σ' H' r' s' => ⟨r', fun v H2 t2 s2 dv => q v H2 t2 (s'.trans s2) dv⟩⟩
theorem zn_cons {st : Stmt} {sts : List Stmt} (h1 : PS X st (zN X.K L I rs G G1 I1)) (h2 : PSs X sts (zN X.K L I1 rs G1 G2 I2)) : PSs X (st :: sts) (zN X.K L I rs G G2 I2) :=
  (pss_cons h1 h2).imp fun D σ H ⟨r, q⟩ => ⟨r, fun σ' H' r' s' => ⟨r', fun σ2 H2 r2 s2 => q σ2 H2 r2 (s'.trans s2)⟩⟩
theorem zn_nil : PSs X [] (zN X.K L I rs G G I) := pss_nil.imp fun D σ H ⟨r, q⟩ => q σ H r (Same.refl _)
theorem zr_ret {sts : List Stmt} (h : ZE X L I rs G e d I1) : PSs X (.Return (some e) pos :: sts) (zR X.K L I rs G d I1) :=
  (pss_cons (ps_ret h) (pss_never (sts := sts))).imp fun D σ H ⟨r, q⟩ => ⟨r, q⟩
theorem zn_set (hN : X.N.Nodup) (hi : X.N[i]? = some x) (hi0 : i ∉ rs.map (·.1)) (hx : Loc X.env.scope x) (h : ZE X L I rs G e d I1) (hs : swapsWith e (some (.Name x pos')) pos.line X.env = pure false := by rfl)
    (hf : X.fn x = true ∨ X.env.scope.names.lookup x = some .local := by first | exact .inl rfl | exact .inr rfl | assumption) : PS X (.Assign [.Name x pos'] e pos) (zN X.K L I rs G (G.set i (some d)) I1) :=
  (ps_set hN hi hx h hs hf).imp fun D σ H ⟨r, q⟩ => ⟨r, fun v H1 t1 s1 d1 => q _ H1 ⟨fun z hz => by rw [List.getElem?_set_ne fun y => hi0 (List.mem_map.mpr ⟨z, hz, y.symm⟩)]; exact r.1 z hz, t1, (r.2.2.mono s1).set d1⟩ s1⟩
end
def Kz (K : PySem.W.Frag) (p : Addr) (S : List PyData) (H : Hp) : Prop := ∃ us, H p = some (.lst us) ∧ DVs K (lef [p] H) us S ∧ noLs S = true
def spK (K : PySem.W.Frag) (F : List PyData → List PyData → PyData → List PyData → Prop) : Sp := fun vs H Q _ => ∃ (p : Addr) (S ds : List PyData) (d : PyData) (S' : List PyData) (vr : List V), vs = .ref p :: vr ∧ Kz K p S H ∧ DVs K (lef [p] H) vr ds ∧ F S ds d S' ∧
  ∀ v H', Kz K p S' H' → Same (lef [p] H) (lef [p] H') → DV K (lef [p] H') v d → Q v H'
def KFn (P : Program) (w : World) (K : PySem.W.Frag) (mg : Str → Option Value) (base : Heap) (k : Nat) (x : Str) (F : List PyData → List PyData → PyData → List PyData → Prop) : Prop :=
  ∃ f fd ps, FnOk P w K mg base CX0 k f fd ps (spK K F) ∧ mg x = some (.ref f) ∧ PySem.W.keepIn K (.ref f) = true ∧ Binds K fd ps []
theorem Fun.kept {P : Program} {w : World} {K : PySem.W.Frag} {mg : Str → Option Value} {base : Heap} {x qual n0 : Str} {st : Stmt} {f : Addr} {fd : FuncData} {N ps : List Str} {k : Nat} {F : List PyData → List PyData → PyData → List PyData → Prop} (F0 : Fun K x qual st f fd) (hm : mg x = some (.ref f)) (hb : Binds K fd ps []) (S0 : FnScope (n0 :: N) ps (defScope st)) (len : ∀ S ds d S', F S ds d S' → ds.length + 1 = ps.length)
    (hbody : ∀ (cdv : Value) (A : Around) (outer : List Env) (s : Shared) (H : Hp) (E : XK) (p : Addr) (S ds : List PyData) (d : PyData) (S' : List PyData), Room k (A.deeper (envOfC qual (defScope st) s.heap.objs.size f cdv)) → F S ds d S' →
      PSs (cxOf CX0 P w K mg base (n0 :: N) qual (defScope st) f cdv A outer s H E).nox (defBody st) (zR K [p] (Kz K p S) [(0, p)] (none :: startG N ds) d (Kz K p S'))) : KFn P w K mg base (k + 1) x F := by
  refine ⟨f, fd, ps, F0.ok S0 (fun vs H Q E ⟨p, S, ds, d, S', vr, e, _, dv, hF, _⟩ => by rw [e, List.length_cons, dv.length]; exact len S ds d S' hF) (fun cdv A outer s H vs Q E hr ⟨p, S, ds, d, S', vr, e, kz, dv, hF, q⟩ => ?_), hm, F0.kp, hb⟩
  subst e
  refine ⟨_, hbody cdv A outer s H E p S ds d S' hr hF, ⟨fun z hz => ?_, kz, ?_⟩, q⟩
  · have := List.mem_singleton.mp hz
    subst this
    rw [start_cons]
    rfl
  · rw [start_cons]; exact (SD.start dv).cons0 _
section
variable {X : Cx} {G G1 G2 : Gam} {e c a b : Expr} {es : List Expr} {d : PyData} {ds S : List PyData} {k i : Nat} {pos pos' pos2 apos p1 : Pos} {x y f m : Str} {p : Addr} {rs : List (Nat × Addr)}
end
end L2
set_option maxRecDepth 100000
set_option maxHeartbeats 1000000
namespace L2
open PySem PySem.Spec PyProof.Rows
section
variable {X : Cx} {G : Gam} {o e : Expr} {pos : Pos} {d : PyData} {xs : List PyData}
end
end L2
set_option maxRecDepth 100000
set_option maxHeartbeats 1000000
namespace L2
open PySem PySem.Spec PyProof.Rows
section
variable {X : Cx} {L : List Addr} {I I1 I2 : Hp → Prop} {rs : List (Nat × Addr)} {G G1 G2 : Gam} {e c a b : Expr} {es : List Expr} {d : PyData} {ds : List PyData} {k : Bool} {pos pos' pos2 apos : Pos} {x f m : Str} {i : Nat}
theorem zr_of (ok : ZOk L I) {sts : List Stmt} (h : SVs X G sts (.ret d)) (hn : noL d = true) : PSs X sts (zR X.K L I rs G d I) := h.imp fun D σ H ⟨r, q⟩ => ⟨r.sd, fun v H' s' dv => q v H' (ok.step r.2.1 s') s'.lef (DV.lef (ok.notup (ok.step r.2.1 s')) dv hn)⟩
end
def TKz (P : Program) (w : World) (K : PySem.W.Frag) (R : Reg) (ka : Addr) (T S : List PyData) (H : Hp) : Prop := Tb P w K R T H ∧ ka ∉ R.L ∧ ∃ us, H ka = some (.lst us) ∧ DVs K (lef (ka :: R.L) H) us S ∧ noLs S = true
abbrev tkL (R : Reg) (ka : Addr) : List Addr := ka :: R.L
theorem tkz_ok {P : Program} {w : World} {K : PySem.W.Frag} {R : Reg} {ka : Addr} {T S : List PyData} : ZOk (tkL R ka) (TKz P w K R ka T S) where
  step := fun ⟨t, h0, us, h1, h2, h3⟩ s => ⟨t.step s, h0, us, s _ _ h1, h2.mono s.lef, h3⟩
  notup := fun ⟨t, h0, us, h1, _⟩ b hb xs r => by
    rcases List.mem_cons.mp hb with e | hb
    · subst e
      rcases r with r | ⟨q, r⟩ <;> (rw [h1] at r; cases r)
    · obtain ⟨_, _, _, t⟩ := t
      exact t.notup b hb xs r
  free := fun ⟨t, h0, us, h1, _⟩ hp hm => by
    rcases List.mem_cons.mp hm with e | hm
    · subst e
      rw [h1] at hp
      cases hp
    · exact tb_free t hp hm
section
variable {X : Cx} {R : Reg} {ka : Addr} {rs : List (Nat × Addr)} {G G1 G2 : Gam} {T T1 T2 S S' : List PyData} {e c a b : Expr} {es : List Expr} {d : PyData} {ds : List PyData} {k i : Nat} {pos pos' pos2 apos p1 : Pos} {x f m : Str}
end
section
variable {X : Cx} {R : Reg} {ka : Addr} {rs : List (Nat × Addr)} {G G1 G2 : Gam} {T T1 T2 S S' : List PyData} {e c a b : Expr} {es : List Expr} {d : PyData} {ds : List PyData} {k i j : Nat} {pos pos' pos2 pos3 apos p1 : Pos} {x y f m : Str}
theorem ze_var (hv : PE X (.Name x pos) (tVar i)) {L : List Addr} {I : Hp → Prop} (hG : G[i]? = some (some d)) : ZE X L I rs G (.Name x pos) d I := hv.imp fun σ H Q ⟨r, q⟩ => by
  obtain ⟨v, e, dv⟩ := r.2.2.2 i d hG
  exact ⟨v, e, q v H r.2.1 (Same.refl _) dv⟩
end
end L2
set_option maxRecDepth 100000
set_option maxHeartbeats 1000000
namespace L2
open PySem PySem.Spec PyProof.Rows
structure LS (P : Program) (w : World) (K : PySem.W.Frag) (R : Reg) (ka q : Addr) (H0 : Hp) (T told : List PyData) (G : Gam) (σ : St) (H : Hp) : Prop where
  r1 : σ[1]? = some (some (.ref R.a))
  r2 : σ[2]? = some (some (.ref ka))
  r3 : σ[3]? = some (some (.ref q))
  tk : TKz P w K R ka T T H
  off : q ∉ tkL R ka
  lst : ∃ us, H q = some (.lst us) ∧ DVs K (lef (q :: tkL R ka) H) us told
  nl : noLs told = true
  sd : SD K (lef (q :: tkL R ka) H) σ G
  sm : Same H0 (lef (q :: tkL R ka) H)
abbrev viewG (C : Addr) (T told : List PyData) (G : Gam) : Gam := ((G.set 1 (some (objD C [(.str "atoms", .list T)]))).set 2 (some (.list T))).set 3 (some (.list told))
section
variable {P : Program} {w : World} {K : PySem.W.Frag} {R : Reg} {ka q : Addr} {H0 : Hp} {T told : List PyData} {G : Gam} {σ : St} {H H' : Hp}
theorem set_selfS {i : Nat} {v : V} (h : σ[i]? = some (some v)) : σ.set i (some v) = σ := by
  refine List.ext_getElem? fun j => ?_
  by_cases hj : i = j
  · subst hj
    rw [List.getElem?_set_self (List.getElem?_eq_some_iff.mp h).1, h]
  · rw [List.getElem?_set_ne hj]
theorem LS.view (s : LS P w K R ka q H0 T told G σ H) : SD K H σ (viewG R.C T told G) := by
  obtain ⟨⟨fs, vs, xs, t⟩, hka, us, hl, du, hs⟩ := id s.tk
  obtain ⟨us2, hl2, du2⟩ := id s.lst
  have dob : DV K H (.ref R.a) (objD R.C [(.str "atoms", .list T)]) := .obj t.obj (fun m hm => t.fn m (fun z => hm (by rw [z]; decide)) (fun z => hm (by rw [z]; decide))) (.cons t.f1 (.lst (SqL.of t.lst) (t.atoms.mono lef_same)) .nil)
  have h1 := (s.sd.mono lef_same).set (i := 1) dob
  have h2 := h1.set (i := 2) (v := .ref ka) (d := .list T) (.lst (SqL.of hl) (du.mono lef_same))
  have h3 := h2.set (i := 3) (v := .ref q) (d := .list told) (.lst (SqL.of hl2) (du2.mono lef_same))
  rw [set_selfS s.r1, set_selfS s.r2, set_selfS s.r3] at h3
  exact h3
theorem LS.step (s : LS P w K R ka q H0 T told G σ H) (e : Same H H') : LS P w K R ka q H0 T told G σ H' := ⟨s.r1, s.r2, s.r3, tkz_ok.step s.tk e, s.off, let ⟨us, h1, h2⟩ := s.lst; ⟨us, e _ _ h1, h2.mono e.lef⟩, s.nl, s.sd.mono e.lef, s.sm.trans e.lef⟩
theorem LS.notup (s : LS P w K R ka q H0 T told G σ H) : ∀ b ∈ q :: tkL R ka, ∀ xs, ¬ Rd H b (.tup xs) := fun b hb xs r => by
  rcases List.mem_cons.mp hb with e | hb
  · subst e
    obtain ⟨us, h1, _⟩ := s.lst
    rcases r with r | ⟨q, r⟩ <;> (rw [h1] at r; cases r)
  · exact tkz_ok.notup s.tk b hb xs r
end
section
variable {X : Cx} {C : Addr} {H0 : Hp} {T told T1 told1 T2 told2 : List PyData} {G G1 G2 : Gam} {e c : Expr} {es : List Expr} {d : PyData} {k i j : Nat} {pos pos' pos2 pos3 pos4 apos p1 p2 p3 p4 p5 : Pos} {x y z f : Str}
end
end L2
set_option maxRecDepth 100000
set_option maxHeartbeats 1000000
namespace L2
open PySem PySem.Spec PyProof.Rows
section
variable {X : Cx} {G : Gam} {a : Expr} {pos : Pos}
theorem evf_slL {lo hi : Option Expr} {ol oh : Option Int} {p2 : Pos} {ds : List PyData} (ha : EV X G a (.list ds)) (hl : OV X G lo ol) (hh : OV X G hi oh) : EVF X G (.Subscript a (.Slice lo hi none p2) pos) (cutD ds ol oh) :=
  (pe_slice sl_list ha hl hh).imp fun σ H Q ⟨h, q⟩ => ⟨h, fun v H1 s1 d1 => ⟨h.mono s1, fun H2 s2 => ⟨(h.mono s1).mono s2, fun H3 s3 => by
    obtain ⟨l, us, rfl, hl, d3⟩ := ((d1.mono s2).mono s3).of_lst
    exact ⟨l, us, rfl, hl, fun p hp => q p _ _ (((s1.trans s2).trans s3).free hp) (((s1.trans s2).trans s3).trans (Same.new hp)) upd_same ((d3.cut ol oh).mono (Same.new hp))⟩⟩⟩⟩
end
section
variable {X : Cx} {C : Addr} {G : Gam} {k k2 i j : Nat} {sts body : List Stmt} {tg c : Expr} {pos p1 p2 p3 p4 p5 p6 p7 p8 p9 q1 q2 q3 q4 q5 q6 : Pos} {x xt xk xo : Str}
end
end L2
set_option maxRecDepth 100000
set_option maxHeartbeats 1000000
namespace L2
open PySem PySem.Spec PyProof.Rows
def Mo (a b : Int) : Prop := ∃ c : Int, a = b + 4096 * c
theorem Mo.rfl' (a : Int) : Mo a a := ⟨0, by omega⟩
theorem Mo.symm {a b : Int} (h : Mo a b) : Mo b a := let ⟨c, e⟩ := h; ⟨-c, by omega⟩
theorem Mo.trans {a b c : Int} (h : Mo a b) (g : Mo b c) : Mo a c := let ⟨x, e⟩ := h; let ⟨y, f⟩ := g; ⟨x + y, by omega⟩
theorem Mo.add {a b c d : Int} (h : Mo a b) (g : Mo c d) : Mo (a + c) (b + d) := let ⟨x, e⟩ := h; let ⟨y, f⟩ := g; ⟨x + y, by omega⟩
theorem Mo.mul {a b : Int} (k : Int) (h : Mo a b) : Mo (a * k) (b * k) := let ⟨x, e⟩ := h; ⟨x * k, by rw [e, Int.add_mul, Int.mul_assoc]⟩
theorem Mo.mod (a : Int) : Mo (a % 4096) a := ⟨-(a / 4096), by omega⟩
theorem Mo.eq {a b : Int} (h : Mo a b) : a % 4096 = b % 4096 := let ⟨c, e⟩ := h; by omega
def sumR (f : Int → Int) : Nat → Int
  | 0 => 0
  | n + 1 => sumR f n + f n
theorem sumR_mo {f g : Int → Int} : ∀ n : Nat, (∀ a : Nat, a < n → Mo (f a) (g a)) → Mo (sumR f n) (sumR g n)
  | 0, _ => Mo.rfl' _
  | n + 1, h => (sumR_mo n fun a ha => h a (by omega)).add (h n (by omega))
theorem sumR_congr {f g : Int → Int} : ∀ n : Nat, (∀ a : Nat, a < n → f a = g a) → sumR f n = sumR g n
  | 0, _ => rfl
  | n + 1, h => by rw [sumR, sumR, sumR_congr n fun a ha => h a (by omega), h n (by omega)]
theorem sumR_add (f g : Int → Int) : ∀ n : Nat, sumR (fun a => f a + g a) n = sumR f n + sumR g n
  | 0 => rfl
  | n + 1 => by rw [sumR, sumR, sumR, sumR_add f g n]; omega
theorem sumR_mul (k : Int) (f : Int → Int) : ∀ n : Nat, sumR (fun a => k * f a) n = k * sumR f n
  | 0 => by rw [sumR, sumR, Int.mul_zero]
  | n + 1 => by rw [sumR, sumR, sumR_mul k f n, Int.mul_add]
theorem sumR_zero : ∀ n : Nat, sumR (fun _ => 0) n = 0
  | 0 => rfl
  | n + 1 => by rw [sumR, sumR_zero n]; rfl
theorem sumR_one (q : Int) (c : Int) : ∀ n : Nat, sumR (fun a => if q = a then c else 0) n = if 0 ≤ q ∧ q < n then c else 0
  | 0 => by rw [sumR, if_neg (by omega)]
  | n + 1 => by
    rw [sumR, sumR_one q c n]
    by_cases h : q = (n : Int)
    · rw [if_neg (by omega), if_pos h, if_pos (by omega)]; omega
    · rw [if_neg h]
      by_cases h2 : 0 ≤ q ∧ q < (n : Int)
      · rw [if_pos h2, if_pos (by omega)]; omega
      · rw [if_neg h2, if_neg (by omega)]; omega
def sumw (w : Int → Int) (m : List (Int × Int)) : Int := (m.map fun q => q.2 * w q.1).sum
def valT (w : Int → Int) (t : Tm) : Int := (t.1 + sumw w t.2) % 4096
theorem sumw_R (w : Int → Int) : ∀ m : List (Int × Int), (kys m).Nodup → (∀ a ∈ kys m, okA a) → sumw w m = sumR (fun a => getI m a * w a) 63
  | [], _, _ => by
    rw [sumR_congr 63 (g := fun _ => 0) fun a _ => by show (0 : Int) * _ = 0; rw [Int.zero_mul], sumR_zero]
    rfl
  | q :: m, nd, ok => by
    have nd' : q.1 ∉ kys m ∧ (kys m).Nodup := List.nodup_cons.mp nd
    have ih := sumw_R w m nd'.2 fun a ha => ok a (List.mem_cons_of_mem _ ha)
    have hq : okA q.1 := ok q.1 List.mem_cons_self
    have e : sumR (fun a => getI (q :: m) a * w a) 63 = sumR (fun a => (if q.1 = a then q.2 * w q.1 else 0) + getI m a * w a) 63 := sumR_congr 63 fun a _ => by
      rw [getI_cons]
      by_cases h : q.1 = (a : Int)
      · rw [if_pos h, if_pos h, ← h, getI_none nd'.1]; omega
      · rw [if_neg h, if_neg h]; omega
    rw [e, sumR_add, sumR_one, if_pos ⟨hq.1, hq.2⟩, ← ih]
    unfold sumw
    rw [List.map_cons, List.sum_cons]
theorem val_R (w : Int → Int) {t : Tm} (h : Wf t) : valT w t = (t.1 + sumR (fun a => getI t.2 a * w a) 63) % 4096 := by
  unfold valT
  rw [sumw_R w t.2 h.nodup h.at_]
theorem val_in (w : Int → Int) (t : Tm) : 0 ≤ valT w t ∧ valT w t < 4096 := by unfold valT; omega
theorem val_lsum (w : Int → Int) {t u : Tm} {k : Int} (ht : Wf t) (hu : Wf u) : valT w (lsum t u k) = (valT w t + k * valT w u) % 4096 := by
  rw [val_R w (lsum_wf ht hu), val_R w ht, val_R w hu]
  refine Mo.eq ?_
  have h1 : Mo (lsum t u k).1 (t.1 + k * u.1) := by rw [lsum_n]; exact Mo.mod _
  have h2 : Mo (sumR (fun a => getI (lsum t u k).2 a * w a) 63) (sumR (fun a => getI t.2 a * w a + k * (getI u.2 a * w a)) 63) := sumR_mo 63 fun a _ => by
    rw [lsum_co hu]
    refine (Mo.mul (w a) (Mo.mod _)).trans ?_
    rw [Int.add_mul, Int.mul_assoc]
    exact Mo.rfl' _
  rw [sumR_add, sumR_mul] at h2
  refine (h1.add h2).trans ?_
  have h3 : Mo ((t.1 + sumR (fun a => getI t.2 a * w a) 63) % 4096 + k * ((u.1 + sumR (fun a => getI u.2 a * w a) 63) % 4096)) ((t.1 + sumR (fun a => getI t.2 a * w a) 63) + k * (u.1 + sumR (fun a => getI u.2 a * w a) 63)) := by
    refine (Mo.mod _).add ?_
    rw [Int.mul_comm k, Int.mul_comm k]
    exact Mo.mul k (Mo.mod _)
  refine Mo.trans ?_ h3.symm
  rw [Int.mul_add]
  exact ⟨0, by omega⟩
theorem val_plus (w : Int → Int) {t u : Tm} (ht : Wf t) (hu : Wf u) : valT w (plusT t u) = (valT w t + valT w u) % 4096 := by
  unfold plusT
  rw [val_lsum w ht hu, Int.one_mul]
theorem val_nil (w : Int → Int) (n : Int) : valT w (n, []) = n % 4096 := by
  unfold valT sumw
  simp
theorem val_many (w : Int → Int) {t : Tm} {n : Int} (ht : Wf t) : valT w (manyT t n) = valT w t * n % 4096 := by
  rw [many_lsum ht, val_lsum w nil_wf ht, val_nil]
  show (0 + n * valT w t) % 4096 = _
  rw [Int.zero_add, Int.mul_comm]
theorem val_minus (w : Int → Int) {t u : Tm} (ht : Wf t) (hu : Wf u) : valT w (minusT t u) = (valT w t - valT w u) % 4096 := by
  rw [minus_lsum ht hu, val_lsum w ht hu]
  omega
theorem val_num (w : Int → Int) (n : Int) : valT w (numT n) = n % 4096 := by
  unfold numT
  rw [val_nil]
  omega
theorem val_congr {w w' : Int → Int} {t : Tm} (h : ∀ a ∈ kys t.2, w a = w' a) : valT w t = valT w' t := by
  unfold valT sumw
  congr 2
  congr 1
  refine List.map_congr_left fun q hq => ?_
  rw [h q.1 (List.mem_map.mpr ⟨q, hq, rfl⟩)]
inductive Atm where
  | box (k : Int)
  | tru (k : Int)
  | cel (t : Tm) (n : Int)
  | two (o : Nat) (t u : Tm)
structure Sta where
  bx : List Int
  tr : List Bool
  rd : List ((Int × Int) × Int)
def rdG (rd : List ((Int × Int) × Int)) (a n : Int) : Int := (rd.lookup (a, n)).getD 0
def awd (s : Sta) (w : Int → Int) : Atm → Int
  | .box k => s.bx.getD k.toNat 0
  | .tru k => if s.tr.getD k.toNat false = true then 1 else 0
  | .cel t n => rdG s.rd (valT w t) n
  | .two o t u => if o = 0 then Builtin.bitAnd (valT w t) (valT w u) else if o = 1 then Builtin.bitXor (valT w t) (valT w u) else valT w t * valT w u % 4096
def atW (ws : List Int) (a : Int) : Int := ws.getD a.toNat 0
def wds (s : Sta) (as : List Atm) : List Int := as.foldl (fun ws a => ws ++ [awd s (atW ws) a]) []
theorem wds_app (s : Sta) (as : List Atm) (a : Atm) : wds s (as ++ [a]) = wds s as ++ [awd s (atW (wds s as)) a] := by
  unfold wds
  rw [List.foldl_append]
  rfl
theorem wds_len (s : Sta) (as : List Atm) : (wds s as).length = as.length := by
  have : ∀ (l : List Atm) (ws : List Int), (l.foldl (fun ws a => ws ++ [awd s (atW ws) a]) ws).length = ws.length + l.length := by
    intro l
    induction l with
    | nil => intro ws; rfl
    | cons x r ih => intro ws; rw [List.foldl_cons, ih]; simp only [List.length_append, List.length_cons, List.length_nil]; omega
  have h := this as []
  simpa [wds] using h
theorem wds_pre (s : Sta) (as bs : List Atm) : ∃ cs, wds s (as ++ bs) = wds s as ++ cs := by
  have : ∀ (l : List Atm) (ws : List Int), ∃ cs, l.foldl (fun ws a => ws ++ [awd s (atW ws) a]) ws = ws ++ cs := by
    intro l
    induction l with
    | nil => intro ws; exact ⟨[], (List.append_nil _).symm⟩
    | cons x r ih =>
      intro ws
      obtain ⟨cs, e⟩ := ih (ws ++ [awd s (atW ws) x])
      exact ⟨[awd s (atW ws) x] ++ cs, by rw [List.foldl_cons, e, List.append_assoc]⟩
  unfold wds
  rw [List.foldl_append]
  exact this bs _
theorem atW_pre {ws cs : List Int} {a : Int} (h0 : 0 ≤ a) (h : a < ws.length) : atW (ws ++ cs) a = atW ws a := by
  unfold atW
  rw [List.getD_eq_getElem?_getD, List.getD_eq_getElem?_getD, List.getElem?_append_left (by omega)]
theorem val_pre {s : Sta} {as bs : List Atm} {t : Tm} (h : ∀ a ∈ kys t.2, 0 ≤ a ∧ a < as.length) : valT (atW (wds s (as ++ bs))) t = valT (atW (wds s as)) t := by
  obtain ⟨cs, e⟩ := wds_pre s as bs
  rw [e]
  exact val_congr fun a ha => atW_pre (h a ha).1 (by rw [wds_len]; exact (h a ha).2)
end L2
set_option maxRecDepth 100000
set_option maxHeartbeats 1000000
namespace L2
open PySem PySem.Spec PyProof.Rows
theorem DV.of_pp {K : PySem.W.Frag} {H : Hp} {v : V} {m : List ((Int × Int) × Int)} (h : DV K H v (.dict (ppE m))) : ∃ a m', v = .ref a ∧ H a = some (.dT (ppK m')) ∧ ppE m' = ppE m := by
  generalize e : PyData.dict (ppE m) = d at h
  cases h with
  | dct h t =>
    injection e with e
    subst e
    have z := excC_dvk t
    unfold ppE excC at z
    cases z
  | dtt h =>
    injection e with e
    exact ⟨_, _, rfl, h, e.symm⟩
  | _ => unfold ppE at e; cases e
theorem ppE_inj {m m' : List ((Int × Int) × Int)} (h : ppE m' = ppE m) : m' = m := by
  unfold ppE at h
  injection h with _ h
  have : ∀ {l l' : List ((Int × Int) × Int)}, (l.map fun q => ((PyData.tuple [.int q.1.1, .int q.1.2], PyData.int q.2) : PyData × PyData)) = l'.map (fun q => (PyData.tuple [.int q.1.1, .int q.1.2], PyData.int q.2)) → l = l' := by
    intro l
    induction l with
    | nil => intro l' h; cases l' with
      | nil => rfl
      | cons a r => cases h
    | cons a r ih => intro l' h; cases l' with
      | nil => cases h
      | cons b r2 =>
        rw [List.map_cons, List.map_cons] at h
        injection h with h1 h2
        injection h1 with h1 h3
        injection h1 with h1
        injection h1 with h1 h4
        injection h4 with h4
        injection h1 with h1
        injection h4 with h4
        injection h3 with h3
        rw [ih h2, Prod.ext (Prod.ext h1 h4 : a.1 = b.1) h3]
  exact this h
theorem valPP (m : List ((Int × Int) × Int)) (a b : Int) : valV (ppK m) [.inl a, .inl b] = (m.lookup (a, b)).map V.int := by
  unfold valV ppK
  induction m with
  | nil => rfl
  | cons q m ih =>
    rw [List.map_cons, List.find?_cons, List.lookup_cons]
    by_cases h : q.1 = (a, b)
    · have h' : ((a, b) == q.1) = true := by rw [h]; exact beq_self_eq_true _
      rw [h', decide_eq_true (by rw [h])]
      rfl
    · have h' : ((a, b) == q.1) = false := beq_eq_false_iff_ne.mpr (Ne.symm h)
      rw [h', decide_eq_false fun z => h (by
        injection z with z1 z2
        injection z2 with z2
        exact Prod.ext (Sum.inl.inj z1) (Sum.inl.inj z2))]
      exact ih
section
variable {X : Cx} {G : Gam} {o f a b : Expr} {pos apos tp : Pos} {kt} {m : List ((Int × Int) × Int)}
theorem ev_getPP {za zb : Int} (hu : X.A.units + 1 < cLine) (ho : EV X G o (.dict (ppE m))) (ha : EV X G a (.int za)) (hb : EV X G b (.int zb)) (hf : EV X G f (.int 0)) (m2 : M2 X o "get" apos (.Tuple [a, b] kt tp) f pos)
    (hs : starEach [a, b] X.env = (false, eval a X.env) :: starEach [b] X.env := by rfl) (hs2 : starEach [b] X.env = (false, eval b X.env) :: starEach [] X.env := by rfl) : EV X G (.Call (.Attribute o "get" apos) [.Tuple [a, b] kt tp, f] [] pos) (.int (rdG m za zb)) :=
  (pe_dget2 hu ho (pe_tup (av_cons ha (av_cons hb av_nil hs2) hs)) hf m2).imp fun σ H Q ⟨h, q⟩ => ⟨h, fun y H1 s1 d1 => by
    obtain ⟨ad, m', rfl, hk, em⟩ := d1.of_pp
    have em := ppE_inj em
    subst em
    refine ⟨ad, rfl, .inr ⟨_, .inl hk⟩, h.mono s1, fun vs H2 s2 d2 => ⟨by rw [d2.length]; show 2 ≤ _; rw [sizeLine_eq]; omega, fun p hp => ⟨((h.mono s1).mono s2).mono (Same.new hp), fun w3 H3 s3 d3 => ?_⟩⟩⟩
    obtain ⟨v1, v2, rfl, e1, e2⟩ := d2.two
    have e1 := e1.of_int
    have e2 := e2.of_int
    have e3 := d3.of_int
    subst e1 e2 e3
    have sn : Same H2 (upd H2 p (.tup [.int za, .int zb])) := Same.new hp
    refine ⟨_, DGet.t (k := [.inl za, .inl zb]) (s3 _ _ (sn _ _ (s2 _ _ hk))) (s3 _ _ upd_same), q _ H3 (((s1.trans s2).trans sn).trans s3) ?_⟩
    rw [valPP]
    unfold rdG
    cases m'.lookup (za, zb) with
    | none => exact .int 0
    | some v => exact .int v⟩
end
theorem dictT_ne {H : Hp} {p a : Addr} {kvs : List (List Key × V)} {o : HO} (hp : H p = some (.dT kvs)) (e : H a = some o) (n : ∀ k, o ≠ .dT k) : a ≠ p := fun c => by subst c; rw [hp] at e; cases e; exact n _ rfl
mutual
theorem DV.noDT {K : PySem.W.Frag} {H H' : Hp} {p : Addr} {kvs : List (List Key × V)} (hp : H p = some (.dT kvs)) (hH : ∀ a, a ≠ p → H' a = H a) : ∀ {v : V} {d : PyData}, DV K H v d → noK d = true → DV K H' v d
  | _, _, .non, _ => .non
  | _, _, .bl b, _ => .bl b
  | _, _, .int i, _ => .int i
  | _, _, .str x, _ => .str x
  | _, _, .tup (a := a) h t, f => by
    refine .tup ?_ (DVs.noDT hp hH t (by unfold noK at f; exact f))
    rcases h with (h | ⟨o, h⟩) | h
    · exact .inl (.inl (by rw [hH a (dictT_ne hp h fun _ c => by cases c)]; exact h))
    · exact .inl (.inr ⟨o, by rw [hH a (dictT_ne hp h fun _ c => by cases c)]; exact h⟩)
    · exact .inr h
  | _, _, .lst (a := a) h t, f => by
    refine .lst ?_ (DVs.noDT hp hH t (by unfold noK at f; exact f))
    rcases h with (h | ⟨o, h⟩) | h
    · exact .inl (.inl (by rw [hH a (dictT_ne hp h fun _ c => by cases c)]; exact h))
    · exact .inl (.inr ⟨o, by rw [hH a (dictT_ne hp h fun _ c => by cases c)]; exact h⟩)
    · exact .inr h
  | _, _, .dct h t, f => by unfold noK at f; cases f
  | _, _, .exc h, f => by unfold noK at f; cases f
  | _, _, .exr h h', f => by unfold noK at f; cases f
  | _, _, .obj h n t, f => by unfold noK at f; cases f
  | _, _, .dtt h, f => by unfold noK at f; cases f
theorem DVs.noDT {K : PySem.W.Frag} {H H' : Hp} {p : Addr} {kvs : List (List Key × V)} (hp : H p = some (.dT kvs)) (hH : ∀ a, a ≠ p → H' a = H a) : ∀ {v : List V} {d : List PyData}, DVs K H v d → noKs d = true → DVs K H' v d
  | _, _, .nil, _ => .nil
  | _, _, .cons h t, f => by
    unfold noKs at f
    rw [Bool.and_eq_true] at f
    exact .cons (DV.noDT hp hH h f.1) (DVs.noDT hp hH t f.2)
end
abbrev PM := List ((Int × Int) × Int)
abbrev plusP (G : Gam) (i : Nat) (m : PM) : Gam := G.set i (some (.dict (ppE m)))
def OP (K : PySem.W.Frag) (H0 : Hp) (p : Addr) (i : Nat) (G : Gam) (m : PM) (σ : St) (H : Hp) : Prop :=
  ∃ Hb, H = upd Hb p (.dT (ppK m)) ∧ Hb p = none ∧ Same H0 Hb ∧ SD K Hb σ G ∧ σ[i]? = some (some (.ref p))
theorem OP.sd {K : PySem.W.Frag} {H0 : Hp} {p : Addr} {i : Nat} {G : Gam} {m : PM} {σ : St} {H : Hp} (h : OP K H0 p i G m σ H) : SD K H σ (plusP G i m) := by
  obtain ⟨Hb, rfl, hn, s0, hσ, hi⟩ := h
  have h1 := hσ.mono (Same.new (o := .dT (ppK m)) hn)
  have h2 := h1.set (i := i) (v := .ref p) (d := .dict (ppE m)) (.dtt upd_same)
  rw [set_selfS hi] at h2
  exact h2
theorem OP.step {K : PySem.W.Frag} {H0 : Hp} {p : Addr} {i : Nat} {G : Gam} {m : PM} {σ : St} {H H' : Hp} (h : OP K H0 p i G m σ H) (s : Same H H') :
    OP K H0 p i G m σ H' ∧ ∀ v d, DV K H' v d → noK d = true → ∃ Hb, H' = upd Hb p (.dT (ppK m)) ∧ Hb p = none ∧ Same H0 Hb ∧ SD K Hb σ G ∧ σ[i]? = some (some (.ref p)) ∧ DV K Hb v d := by
  obtain ⟨Hb, rfl, hn, s0, hσ, hi⟩ := h
  have hp : H' p = some (.dT (ppK m)) := s p _ upd_same
  have sb : Same Hb (dele H' p) := fun b o e => by
    have hb : b ≠ p := ne_of_none e hn
    rw [dele_ne hb]
    exact s b o (by rw [upd_ne hb]; exact e)
  exact ⟨⟨dele H' p, (upd_deleO hp).symm, dele_same, s0.trans sb, hσ.mono sb, hi⟩, fun v d q f => ⟨dele H' p, (upd_deleO hp).symm, dele_same, s0.trans sb, hσ.mono sb, hi, DV.noDT hp (fun a ha => dele_ne ha) q f⟩⟩
def putP (m : PM) (k : Int × Int) (n : Int) : PM := if (m.any fun q => decide (q.1 = k)) = true then m.map (fun q => if q.1 = k then (q.1, n) else q) else m ++ [(k, n)]
theorem ppK_put (m : PM) (a b n : Int) : putK (ppK m) [.inl a, .inl b] (V.int n) = ppK (putP m (a, b) n) := by
  have key : ∀ q : (Int × Int) × Int, (([Sum.inl q.1.1, Sum.inl q.1.2] : List Key) = [.inl a, .inl b]) ↔ q.1 = (a, b) := fun q => ⟨fun z => by
    injection z with z1 z2
    injection z2 with z2
    exact Prod.ext (Sum.inl.inj z1) (Sum.inl.inj z2), fun z => by rw [z]⟩
  have ea : ((ppK m).any fun kv => decide (kv.1 = [.inl a, .inl b])) = m.any fun q => decide (q.1 = (a, b)) := by
    unfold ppK
    rw [List.any_map]
    congr 1
    funext q
    show decide (_ = _) = decide (_ = _)
    rw [decide_eq_decide]
    exact key q
  unfold putK putP
  rw [ea]
  split
  · unfold ppK
    rw [List.map_map, List.map_map]
    refine List.map_congr_left fun q _ => ?_
    simp only [Function.comp]
    by_cases h : q.1 = (a, b)
    · rw [if_pos ((key q).mpr h), if_pos h]
    · rw [if_neg fun z => h ((key q).mp z), if_neg h]
  · unfold ppK
    rw [List.map_append]
    rfl
def tP (K : PySem.W.Frag) (H0 : Hp) (p : Addr) (i : Nat) (Pre Post : Gam → PM → Prop) : TS := fun D σ H => (∃ G m, Pre G m ∧ OP K H0 p i G m σ H) ∧ ∀ σ' H' G m, Post G m → OP K H0 p i G m σ' H' → D.nx σ' H'
def tPR (K : PySem.W.Frag) (H0 : Hp) (p : Addr) (i : Nat) (Pre : Gam → PM → Prop) (d : PyData) : TS := fun D σ H => (∃ G m, Pre G m ∧ OP K H0 p i G m σ H) ∧ ∀ v H', Same H0 H' → DV K H' v d → D.rt v H'
section
variable {X : Cx} {H0 : Hp} {p : Addr} {i j : Nat} {Pre Mid Post : Gam → PM → Prop} {e c a b f : Expr} {pos pos' pos2 tp : Pos} {kt} {x : Str} {G : Gam} {d : PyData}
theorem pts_nil (h : ∀ G m, Pre G m → Post G m) : PSs X [] (tP X.K H0 p i Pre Post) := pss_nil.imp fun D σ H ⟨⟨G, m, a, b⟩, q⟩ => q σ H G m (h G m a) b
theorem pts_cons {st : Stmt} {sts : List Stmt} (h1 : PS X st (tP X.K H0 p i Pre Mid)) (h2 : PSs X sts (tP X.K H0 p i Mid Post)) : PSs X (st :: sts) (tP X.K H0 p i Pre Post) :=
  (pss_cons h1 h2).imp fun D σ H ⟨a, q⟩ => ⟨a, fun σ' H' G m z o => ⟨⟨G, m, z, o⟩, q⟩⟩
theorem prs_cons {st : Stmt} {sts : List Stmt} (h1 : PS X st (tP X.K H0 p i Pre Mid)) (h2 : PSs X sts (tPR X.K H0 p i Mid d)) : PSs X (st :: sts) (tPR X.K H0 p i Pre d) :=
  (pss_cons h1 h2).imp fun D σ H ⟨a, q⟩ => ⟨a, fun σ' H' G m z o => ⟨⟨G, m, z, o⟩, q⟩⟩
theorem pt_set (hN : X.N.Nodup) (hi : X.N[j]? = some x) (hij : j ≠ i) (hx : Loc X.env.scope x) (h : ∀ G m, Pre G m → ∃ d, EV X (plusP G i m) e d ∧ noK d = true ∧ Post (G.set j (some d)) m) (hs : swapsWith e (some (.Name x pos')) pos.line X.env = pure false := by rfl)
    (hf : X.fn x = true ∨ X.env.scope.names.lookup x = some .local := by first | exact .inl rfl | exact .inr rfl | assumption) : PS X (.Assign [.Name x pos'] e pos) (tP X.K H0 p i Pre Post) := by
  intro pins s σ H D I ⟨⟨G, m, a, o⟩, q⟩
  obtain ⟨d, ev, nl, po⟩ := h G m a
  refine ps_set hN hi hx ev hs hf pins s σ H D I ⟨o.sd, fun v H1 s1 d1 => ?_⟩
  obtain ⟨_, k⟩ := o.step s1
  obtain ⟨Hb, e1, e2, e3, e4, e5, e7⟩ := k v d d1 nl
  exact q _ _ _ m po ⟨Hb, e1, e2, e3, e4.set e7, by rw [List.getElem?_set_ne hij]; exact e5⟩
theorem pt_put (hu : X.A.units + 1 < cLine) (h : ∀ G m, Pre G m → ∃ za zb n, EV X (plusP G i m) a (.int za) ∧ EV X (plusP G i m) b (.int zb) ∧ EV X (plusP G i m) f (.int n) ∧ m.length < sizeLine ∧ Post G (putP m (za, zb) n)) (hv : PE X (.Name x pos2) (tVar i))
    (hs : swapsWith f (some (.Subscript (.Name x pos2) (.Tuple [a, b] kt tp) pos')) pos.line X.env = pure false := by rfl) (hst : starEach [a, b] X.env = (false, eval a X.env) :: starEach [b] X.env := by rfl) (hst2 : starEach [b] X.env = (false, eval b X.env) :: starEach [] X.env := by rfl) : PS X (.Assign [.Subscript (.Name x pos2) (.Tuple [a, b] kt tp) pos'] f pos) (tP X.K H0 p i Pre Post) := by
  intro pins s σ H D I ⟨⟨G, m, ap, o⟩, q⟩
  obtain ⟨za, zb, n, ea, eb, ef, hz, po⟩ := h G m ap
  refine ps_dput hu hv (pe_tup (av_cons ea (av_cons eb av_nil hst2) hst)) ef hs pins s σ H D I ⟨o.sd, fun v H1 s1 d1 => ?_⟩
  have e1 := d1.of_int
  subst e1
  have o1 := (o.step s1).1
  refine ⟨.ref p, (by obtain ⟨_, _, _, _, _, hi⟩ := o1; exact hi), o1.sd, fun vs H2 s2 d2 => ⟨by rw [d2.length]; show 2 ≤ _; rw [sizeLine_eq]; omega, fun pt hpt => ?_⟩⟩
  obtain ⟨v1, v2, rfl, e1, e2⟩ := d2.two
  have e1 := e1.of_int
  have e2 := e2.of_int
  subst e1 e2
  have sn : Same H2 (upd H2 pt (.tup [.int za, .int zb])) := Same.new hpt
  obtain ⟨Hb, eH, hn, s0, hσ, hi⟩ := (o1.step (s2.trans sn)).1
  have hp : upd H2 pt (.tup [.int za, .int zb]) p = some (.dT (ppK m)) := by rw [eH]; exact upd_same
  refine ⟨p, _, rfl, DPut.t (k := [.inl za, .inl zb]) hp upd_same (by unfold ppK; rw [List.length_map]; exact hz), ?_⟩
  rw [ppK_put, eH, upd_upd]
  exact q _ _ G _ po ⟨Hb, rfl, hn, s0, hσ, hi⟩
theorem pt_forR {tg iter : Expr} {body : List Stmt} {lo : Int} {n : Nat} (W : Nat → Gam → PM → Prop) (hp : PassesOwn (model X.prog X.w) X.A X.env X.xe) (hcalm : X.calm = true) (hij : j ≠ i) (hg : PG X tg (gName j))
    (hpre : ∀ G m, Pre G m → W 0 G m ∧ PI X tg iter (fun σ H R => SD X.K H σ (plusP G i m) ∧ ∀ H', Same H H' → R (Itr lo n) H'))
    (hs : ∀ k, k < n → PSs X body (tP X.K H0 p i (fun G m => ∃ G', W k G' m ∧ G = G'.set j (some (.int (lo + (k : Nat))))) (W (k + 1)))) (hpost : ∀ G m, W n G m → Post G m)
    (hfs : ∀ x, foldedSetIterable iter X.env x = pure x := by intro _; rfl) : PS X (.For tg iter body [] pos) (tP X.K H0 p i Pre Post) := by
  intro pins s σ H D I ⟨⟨G, m, a, o⟩, q⟩
  obtain ⟨w0, hi⟩ := hpre G m a
  have hbody : PSs X body (fun D σ H => ∃ k : Nat, k < n ∧ tP X.K H0 p i (fun G m => ∃ G', W k G' m ∧ G = G'.set j (some (.int (lo + (k : Nat))))) (W (k + 1)) D σ H) := fun pins s σ H D I ⟨k, hk, q⟩ => hs k hk pins s σ H D I q
  refine ps_for hp hcalm hi hg hbody hfs pins s σ H D I ⟨o.sd, fun H1 s1 => ?_⟩
  refine for_range (lo := lo) (n := n) (g := gName j) (tb := fun D σ H => ∃ k : Nat, k < n ∧ tP X.K H0 p i (fun G m => ∃ G', W k G' m ∧ G = G'.set j (some (.int (lo + (k : Nat))))) (W (k + 1)) D σ H) (fun k σ H => k ≤ n ∧ ∃ G m, W k G m ∧ OP X.K H0 p i G m σ H) ⟨Nat.zero_le _, G, m, w0, (o.step s1).1⟩ (fun k σ2 H2 hk ⟨_, G2, ds2, w2, o2⟩ => ?_) (fun σ2 H2 ⟨_, G2, ds2, w2, o2⟩ => q σ2 H2 G2 ds2 (hpost _ _ w2) o2)
  obtain ⟨Hb, rfl, hn, s0, hσ, hi2⟩ := id o2
  exact ⟨k, hk, ⟨_, ds2, ⟨G2, w2, rfl⟩, Hb, rfl, hn, s0, hσ.set (.int _), by rw [List.getElem?_set_ne hij]; exact hi2⟩, fun σ3 H3 G3 ds3 w3 o3 => ⟨hk, G3, ds3, w3, o3⟩⟩
theorem prs_out {sts : List Stmt} (h : ∀ G m, Pre G m → SVs X (plusP G i m) sts (.ret d)) : PSs X sts (tPR X.K H0 p i Pre d) := by
  intro pins s σ H D I ⟨⟨G, m, a, o⟩, q⟩
  refine h G m a pins s σ H D I ⟨o.sd, fun v H' s' dv => q v H' ?_ dv⟩
  obtain ⟨Hb, rfl, hn, s0, _⟩ := o
  exact (s0.trans (Same.new hn)).trans s'
theorem svs_ownP {sts : List Stmt} (hN : X.N.Nodup) (hi : X.N[i]? = some x) (hx : Loc X.env.scope x) (hG : i < G.length) (h : ∀ H0 p, PSs X sts (tPR X.K H0 p i (fun G' m => G' = G.set i none ∧ m = []) d))
    (hs : swapsWith (.Dict [] [] pos2) (some (.Name x pos')) pos.line X.env = pure false := by rfl) (hf : X.fn x = true ∨ X.env.scope.names.lookup x = some .local := by first | exact .inl rfl | exact .inr rfl | assumption) :
    SVs X G (.Assign [.Name x pos'] (.Dict [] [] pos2) pos :: sts) (.ret d) := by
  intro pins s σ H D I ⟨hσ, q⟩
  have h2 : PSs X sts (fun D σ H => ∃ hp : Hp × Addr, tPR X.K hp.1 hp.2 i (fun G' m => G' = G.set i none ∧ m = []) d D σ H) := fun pins s σ H D I ⟨hp, q⟩ => h hp.1 hp.2 pins s σ H D I q
  refine pss_cons (ps_set hN hi hx pe_dnewT hs hf) h2 pins s σ H D I (fun p hp => ⟨(H, p), ⟨_, [], ⟨rfl, rfl⟩, H, rfl, hp, Same.refl _, ⟨by rw [List.length_set, List.length_set, hσ.1], fun j d e => ?_⟩, List.getElem?_set_self (by rw [hσ.1]; exact hG)⟩, fun v H' s' dv => q v H' s' dv⟩)
  by_cases hj : i = j
  · subst hj
    rw [List.getElem?_set_self hG] at e
    cases e
  · rw [List.getElem?_set_ne hj] at e ⊢
    exact hσ.2 j d e
end
end L2
set_option maxRecDepth 100000
set_option maxHeartbeats 1000000
namespace L2
open PySem PySem.Spec PyProof.Rows
def upTo (ns : Nat → Int) (b : Int) : Nat → Nat → Int
  | _, 0 => b
  | j, k + 1 => upTo ns (if ns j > b then ns j else b) (j + 1) k
section
variable {prog : Program} {w : World} {A : Around}
theorem maxD_loop {I : Addr} {fp wr : List Addr} {n : Nat} {P : Nat → Value → Prop} {St : Nat → Heap → Prop} (W : Walks prog w A.in1 I fp wr n P St) (ns : Nat → Int) (hP : ∀ i v, P i v → ∃ t, v = .int (ns i) t) (dv : Value) (S : Addr) (hSf : S ∉ fp) {R : Result → Shared → Prop} :
    ∀ (k j : Nat) (s : Shared) (b : Int) (t : Tok) (c : Nat), n - j = k → j ≤ n → St j s.heap → s.heap.get? S = some { cls := .type "list", dict := none, data := .seq #[.int b t, .int b t] c, slots := #[] } →
    (∀ t' h' tk, (∀ x o, x ∉ wr → x ≠ S → s.heap.get? x = some o → h'.get? x = some o) → R (.ok (.ret (.int (upTo ns b j k) t'))) { s with heap := h', toks := tk }) →
    codeAny (model prog w) A (.builtin "max.loop" ⟨[.ref I, .none, .ref S], [("default", dv)]⟩) R s := by
  have hSw : S ∉ wr := fun h => hSf (W.sub _ h)
  have hname : (toString "max" ++ toString ".loop" : String) = "max.loop" := by decide
  intro k
  induction k with
  | zero =>
    intro j s b t c hk hj hst hS hR
    have hin : j = n := by omega
    refine codeAny_builtin F.entry_max_loop ?_
    rw [Around.under_plainId F.plain_max_loop _]
    show wpAny _ A.in1 (seqItems? (.ref S) >>= _) _ _ s
    refine wpAny_bind (wpAny_seqItems hS rfl ?_)
    show wpAny _ A.in1 (tryCatch (pyNext (.ref I)) _ >>= _) _ _ s
    refine wpAny_bind (wpAny_tryCatch (W.done s _ _ (hin ▸ hst) fun h' tk hk' => ?_))
    have hS' := hk' S _ hSw hS
    show wpAny _ A.in1 (updateSeq S (fun _ => #[]) >>= _) _ _ _
    refine wpAny_bind ?_
    refine wpAny_updateSeq hS' rfl (wpAny_bind (wpAny_letGo (wpAny_pure ?_)))
    exact hR t _ tk fun x o hx hxS e => (Heap.get?_update_other _ _ (Ne.symm hxS)).trans (hk' x o hx e)
  | succ k ih =>
    intro j s b t c hk hj hst hS hR
    have hlt : j < n := by omega
    refine codeAny_builtin F.entry_max_loop ?_
    rw [Around.under_plainId F.plain_max_loop _]
    show wpAny _ A.in1 (seqItems? (.ref S) >>= _) _ _ s
    refine wpAny_bind (wpAny_seqItems hS rfl ?_)
    show wpAny _ A.in1 (tryCatch (pyNext (.ref I)) _ >>= _) _ _ s
    refine wpAny_bind (wpAny_tryCatch (W.item j s _ _ hlt hst fun v h' tk hPv hst' hk' => ?_))
    obtain ⟨tv, rfl⟩ := hP j v hPv
    have hS' := hk' S _ hSw hS
    show wpAny _ A.in1 (tryCatch (holding [Value.int (ns j) tv, Value.int (ns j) tv] (richCompare .Gt (Value.int (ns j) tv) (Value.int b t) >>= _)) _ >>= _) _ _ _
    refine wpAny_bind (wpAny_tryCatch (wpAny_holding (wpAny_bind (PyProof.Rows.gt_int ?_))))
    refine wpAny_bind (wpAny_holding (wpAny_truthy_bool ?_))
    refine wpAny_bind (wpAny_letGo (wpAny_pure ?_))
    by_cases hb : ns j > b
    · rw [decide_eq_true (show b < ns j from hb)]
      simp only [if_true]
      refine wpAny_bind ?_
      refine wpAny_updateSeq hS' rfl (wpAny_bind (wpAny_letGo ?_))
      rw [hname]
      have e : upTo ns b j (k + 1) = upTo ns (ns j) (j + 1) k := by rw [upTo, if_pos hb]
      rw [e] at hR
      exact wpAny_pure ⟨plainId_quiet F.plain_max_loop _, ih (j + 1) _ (ns j) tv _ (by omega) hlt (W.frame _ _ _ hst' fun x hx o e => (Heap.get?_update_other _ _ (fun h : S = x => hSf (by rw [h]; exact hx))).trans e) (Heap.get?_update_self _ hS' rfl)
        fun t' h'' tk'' hk'' => hR t' h'' tk'' fun x o hx hxS e => hk'' x o hx hxS ((Heap.get?_update_other _ _ (Ne.symm hxS)).trans (hk' x o hx e))⟩
    · rw [decide_eq_false (show ¬ b < ns j from hb)]
      simp only [Bool.false_eq_true, if_false]
      refine wpAny_bind (wpAny_letGo ?_)
      rw [hname]
      have e : upTo ns b j (k + 1) = upTo ns b (j + 1) k := by rw [upTo, if_neg hb]
      rw [e] at hR
      exact wpAny_pure ⟨plainId_quiet F.plain_max_loop _, ih (j + 1) _ b t c (by omega) hlt hst' hS' fun t' h'' tk'' hk'' => hR t' h'' tk'' fun x o hx hxS e => hk'' x o hx hxS (hk' x o hx e)⟩
def maxD (ns : List Int) (d : Int) : Int := match ns with
  | [] => d
  | x :: _ => upTo (fun i => ns.getD i 0) x 1 (ns.length - 1)
theorem ints_get : ∀ {us : List Value} {ns : List Int}, IntsAre us ns → ∀ {i : Nat} {v : Value}, us[i]? = some v → ∃ t, v = .int (ns.getD i 0) t
  | _, _, .nil, i, v, h => by simp at h
  | _, _, .cons k t r, i, v, h => by
    cases i with
    | zero => simp at h; exact ⟨t, by rw [← h]; rfl⟩
    | succ i => simpa using ints_get r (i := i) (v := v) (by simpa using h)
theorem args_max_dflt (a d : Value) : argsOk "max" ⟨[a], [("default", d)]⟩ := by unfold argsOk; kernel_rfl
variable {E : Value → Shared → Prop} {s : Shared}
theorem max_dflt {l : Addr} {its : List Value} {ns : List Int} {d : Int} {td : Tok} {Q : Value → Shared → Prop} (hh : A.handled = none) (hl : s.heap.IsList l its.toArray) (hi : IntsAre its ns)
    (h : ∀ t' h' tk, (∀ c o, s.heap.get? c = some o → h'.get? c = some o) → Q (.int (maxD ns d) t') { s with heap := h', toks := tk }) :
    wpAny (model prog w) A (call (.builtin "max") [.ref l] [("default", .int d td)]) Q E s := by
  have hname : (toString "max" ++ toString ".loop" : String) = "max.loop" := by decide
  refine wpAny_call (codeAny_call_builtin F.plain_max F.entry_max ?_)
  simp only [checkBuiltinCall, F.kind_max]
  have hc : wpAny (model prog w) A.in1 (Builtin.«max» ⟨[.ref l], [("default", .int d td)]⟩) (fun fin s' => match fin with
      | .done f => (match (Except.ok f : Result) with | .ok (.ret v) => Q v s' | .ok _ => False | .error e => E e s')
      | .again c' => c'.quiet = true ∧ codeAny (model prog w) A c' (fun r s' => match r with | .ok (.ret v) => Q v s' | .ok _ => False | .error e => E e s') s') E s := by
    show wpAny _ A.in1 (Builtin.Builtins.bindParams "max" ["key", "default"] 0 ⟨[], [("default", .int d td)]⟩ >>= _) _ _ s
    refine wpAny_bind (wpAny_of_eq (show Builtin.Builtins.bindParams "max" ["key", "default"] 0 ⟨[], [("default", .int d td)]⟩ = pure [none, some (.int d td)] from rfl) ?_)
    refine wpAny_bind (wpAny_pure ?_)
    refine wpAny_bind (wpAny_pyIter_list hl ?_)
    refine wpAny_bind (wpAny_newObj_type ?_)
    rw [hname]
    generalize hI : s.heap.objs.size = I
    have hlI : l ≠ I := by
      obtain ⟨o, ho, _⟩ := hl
      rw [← hI]
      exact Nat.ne_of_lt (Heap.lt_size ho)
    have W := Walks.list (prog := prog) (w := w) (A := A.in1) hh I l hlI its.toArray
    have hst0 : (s.heap.push { cls := .type "list_iterator", data := .fields #[.ref l, .int 0 0] }).IsListIter I l 0 ∧ (s.heap.push { cls := .type "list_iterator", data := .fields #[.ref l, .int 0 0] }).IsList l its.toArray :=
      ⟨⟨_, by rw [← hI]; exact Heap.get?_push_size _ rfl, rfl, rfl⟩, hl.push _⟩
    have old0 : ∀ c o, s.heap.get? c = some o → (s.heap.push { cls := .type "list_iterator", data := .fields #[.ref l, .int 0 0] }).get? c = some o := fun c o e => Heap.get?_push_of_some _ e
    have hsz : (s.heap.push { cls := .type "list_iterator", data := .fields #[.ref l, .int 0 0] }).objs.size = I + 1 := by rw [← hI]; exact Heap.size_push ..
    have hlt : l < I := by
      obtain ⟨o, ho, _⟩ := hl
      rw [← hI]
      exact Heap.lt_size ho
    have oldI : ∀ c o, s.heap.get? c = some o → c < I := fun c o e => by rw [← hI]; exact Heap.lt_size e
    generalize hh0 : s.heap.push { cls := .type "list_iterator", data := .fields #[.ref l, .int 0 0] } = h0 at *
    generalize hS : h0.objs.size = S at *
    subst hsz
    have hSf : I + 1 ∉ [I, l] := fun z => by
      simp only [List.mem_cons, List.not_mem_nil, or_false] at z
      rcases z with z | z
      · exact absurd z (Nat.succ_ne_self I)
      · rw [← z] at hlt; exact absurd hlt (Nat.not_lt_of_le (Nat.le_succ I))
    have hSw : I + 1 ∉ [I] := fun z => hSf (W.sub _ z)
    have hS0 : (h0.push { cls := .type "list", dict := none, data := .seq #[] 0, slots := #[] }).get? (I + 1) = some { cls := .type "list", dict := none, data := .seq #[] 0, slots := #[] } := by rw [← hS]; exact Heap.get?_push_size _ rfl
    have st1 := W.frame 0 _ (h0.push { cls := .type "list", dict := none, data := .seq #[] 0, slots := #[] }) hst0 fun b hb o e => Heap.get?_push_of_some _ e
    have old1 : ∀ c o, s.heap.get? c = some o → (h0.push { cls := .type "list", dict := none, data := .seq #[] 0, slots := #[] }).get? c = some o ∧ c ∉ [I] ∧ c ≠ I + 1 := fun c o e => by
      have := oldI c o e
      refine ⟨Heap.get?_push_of_some _ (old0 c o e), fun z => ?_, fun z => ?_⟩
      · rw [List.mem_singleton.mp z] at this; exact Nat.lt_irrefl _ this
      · rw [z] at this; exact Nat.lt_irrefl _ (Nat.lt_of_succ_lt this)
    refine wpAny_pure ⟨plainId_quiet F.plain_max_loop _, codeAny_builtin F.entry_max_loop ?_⟩
    rw [Around.under_plainId F.plain_max_loop _]
    show wpAny _ A.in1 (seqItems? (.ref (I + 1)) >>= _) _ _ _
    refine wpAny_bind (wpAny_seqItems hS0 rfl ?_)
    show wpAny _ A.in1 (tryCatch (pyNext (.ref I)) _ >>= _) _ _ _
    have hin : ∀ (i : Nat) v, its.toArray[i]? = some v → ∃ t, v = .int (ns.getD i 0) t := by
      intro i v hv
      exact ints_get hi (by simpa using hv)
    have hlen : its.length = ns.length := IntsAre.length hi
    cases ns with
    | nil =>
      have h0' : its.toArray.size = 0 := by simpa using hlen
      refine wpAny_bind (wpAny_tryCatch (W.done _ _ _ (by rw [h0']; exact st1) fun h' tk hk' => ?_))
      refine wpAny_bind (wpAny_rule (wpAny_pure ?_))
      exact h td _ tk fun c o e => hk' c o (old1 c o e).2.1 (old1 c o e).1
    | cons x r =>
      have hsz2 : its.toArray.size = r.length + 1 := by simpa using hlen
      refine wpAny_bind (wpAny_tryCatch (W.item 0 _ _ _ (by rw [hsz2]; omega) st1 fun v h2 tk hPv hst2 hk2 => ?_))
      obtain ⟨tv, rfl⟩ := hin 0 v hPv
      have hS2 := hk2 (I + 1) _ hSw hS0
      show wpAny _ A.in1 (updateSeq (I + 1) (fun _ => #[Value.int x tv, Value.int x tv]) >>= _) _ _ _
      refine wpAny_bind ?_
      refine wpAny_updateSeq hS2 rfl ?_
      rw [hname]
      refine wpAny_pure ⟨plainId_quiet F.plain_max_loop _, maxD_loop W (fun i => (x :: r).getD i 0) hin _ (I + 1) hSf r.length 1 _ x tv _ (by rw [hsz2]; omega) (by rw [hsz2]; omega) (W.frame _ _ _ hst2 fun b hb o e => (Heap.get?_update_other _ _ (fun z : I + 1 = b => hSf (by rw [z]; exact hb))).trans e) (Heap.get?_update_self _ hS2 rfl) fun t' h'' tk'' hk'' => ?_⟩
      exact h t' h'' tk'' fun c o e => hk'' c o (old1 c o e).2.1 (old1 c o e).2.2 ((Heap.get?_update_other _ _ (Ne.symm (old1 c o e).2.2)).trans (hk2 c o (old1 c o e).2.1 (old1 c o e).1))
  cases hsig : Manifest.signature? "max" with
  | none => exact wpAny_pure hc
  | some sig =>
    have ha' : Bind.checkArgs "max" sig ⟨[.ref l], [("default", .int d td)]⟩ = pure () := by
      have := args_max_dflt (.ref l) (.int d td)
      simpa only [argsOk, hsig] using this
    simp only [ha']
    exact wpAny_pure hc
end
end L2
set_option maxRecDepth 100000
set_option maxHeartbeats 1000000
namespace L2
open PySem PySem.Spec PyProof.Rows
section
variable {X : Cx} {G : Gam} {a b : Expr} {pos p kp : Pos} {ns : List Int} {d : Int}
theorem ev_maxDef (hcalm : X.calm = true) (ha : EV X G a (.list (ns.map PyData.int))) (hb : EV X G b (.int d)) (hg : Gl X "max") (hm : X.mg "max" = none) (hs : starEach [a] X.env = (false, eval a X.env) :: starEach [] X.env := by rfl)
    (hbk : backTo pos (starEach [a] X.env) = (false, eval a X.env) :: backTo pos (starEach [] X.env) := by rfl) (hpl : (backTo pos (starEach [a] X.env)).any (·.1) = false := by rfl)
    (hall : (backToKw pos (keywordEach [⟨some "default", b, kp⟩] X.env)).all (·.1.isSome) = true := by rfl) (hkw : (backToKw pos (keywordEach [⟨some "default", b, kp⟩] X.env)).any (·.1.isNone) = false := by rfl)
    (hks : (backToKw pos (keywordEach [⟨some "default", b, kp⟩] X.env)).filterMap (·.1) = [("default" : Str)] := by rfl) :
    EV X G (.Call (.Name "max" p) [a] [⟨some "default", b, kp⟩] pos) (.int (maxD ns d)) := by
  intro pins s σ H Q I ⟨hσ, q⟩
  refine wpAny_Call_Name_kw (ld_blt I hg hm boot_max (PyProof.Rows.callWith_kw (thn (av_cons ha av_nil hs pos pins s σ H _ I ⟨hσ, fun vs H' s' dv => (⟨s', dv⟩ : Same H H' ∧ DVs X.K H' vs [.list (ns.map PyData.int)])⟩) fun us s1 ⟨vs, H1, I1, r1, sm, dv⟩ => ?_) hbk hpl hall hkw))
  obtain ⟨v1, rfl, d1⟩ := dv.one
  refine thn (pk_cons (nm := some "default") (kpos := kp) hb pk_nil pos pins s1 σ H1 (fun zs H' => Same H1 H' ∧ ∃ z, zs = [z] ∧ DV X.K H' z (.int d)) I1 ⟨hσ.mono sm, fun z H' s' dz => ⟨s', z, rfl, dz⟩⟩) fun ks s2 ⟨zs, H2, I2, r2, sm2, z, ez, dz⟩ => ?_
  subst ez
  have ez := dz.of_int
  subst ez
  obtain ⟨u2, rfl, t2, rfl⟩ := vals1 r2
  obtain ⟨u1, rfl, ru⟩ := vals1 r1
  obtain ⟨l, ys, rfl, hq, dys⟩ := (d1.mono sm2).of_lst
  have ru : u1 = Value.ref l := ru
  subst ru
  obtain ⟨its, rv, pl, _⟩ := I2.list hq
  rw [hks]
  show wpAny _ _ (call (.builtin "max") [.ref l] [("default", .int d t2)]) _ _ s2
  exact max_dflt (I2.ok.hd hcalm) pl.isList (ints_of dys rv) fun t' h' tk kp' => ⟨.int (maxD ns d), H2, I2.kept kp', ⟨_, rfl⟩, q _ H2 (sm.trans sm2) (.int _)⟩
end
end L2
set_option maxRecDepth 100000
set_option maxHeartbeats 4000000
namespace L2
open PySem PySem.Spec PyProof.Rows
section
variable {X : Cx} {G : Gam} {a b : Expr} {pos p : Pos}
end
end L2
set_option maxRecDepth 100000
set_option maxHeartbeats 1000000
namespace L2
open PySem PySem.Spec PyProof.Rows
theorem DVs.rev {K : PySem.W.Frag} {H : Hp} : ∀ {vs : List V} {ds : List PyData}, DVs K H vs ds → DVs K H vs.reverse ds.reverse
  | _, _, .nil => .nil
  | _, _, .cons h t => by
    rw [List.reverse_cons, List.reverse_cons]
    exact (DVs.rev t).append (.cons h .nil)
section
variable {X : Cx} {G : Gam} {a e : Expr} {pos p2 : Pos}
theorem evf_rev {ds : List PyData} (ha : EV X G a (.list ds)) (he : EV X G e (.int (-1))) (hs : ∀ l q : Addr, ∃ ops, subscripted (.Slice none none (some e) p2) false (.ref l) (.ref q) = operate ops (getItem (.ref l) (.ref q)) := by intro l q; exact ⟨_, by with_unfolding_all rfl⟩) : EVF X G (.Subscript a (.Slice none none (some e) p2) pos) ds.reverse := by
  intro pins s σ H Q I ⟨h, q⟩
  refine Subscript_ (thn (ha pins s σ H (fun v H1 => Same H H1 ∧ DV X.K H1 v (.list ds)) I ⟨h, fun v H1 s1 d1 => ⟨s1, d1⟩⟩) fun v s1 ⟨x, H1, I1, r1, q1, d1⟩ => ?_)
  refine wpAny_Slice ?_
  rw [evalPart_none]
  refine wpAny_pure (wpAny_pure ?_)
  rw [evalPart_some]
  refine thn (he pins s1 σ H1 (fun v H2 => Same H1 H2 ∧ DV X.K H2 v (.int (-1))) I1 ⟨h.mono q1, fun v H2 s2 d2 => ⟨s2, d2⟩⟩) fun u s2 ⟨y, H2, I2, r2, q2, d2⟩ => ?_
  cases d2.of_int
  obtain ⟨t, rfl⟩ := r2
  obtain ⟨l, us, rfl, hl, d3⟩ := (d1.mono q2).of_lst
  cases r1
  have I4 : Inv X pins σ H2 { s2 with heap := s2.heap.push { cls := .type "slice", data := .fields #[.none, .none, .int (-1) t] } } := I2.kept (t' := s2.toks) fun b ob q => Heap.get?_push_of_some _ q
  obtain ⟨its, r, ht, hz⟩ := I4.list hl
  have hlen := r.length
  show wpAny (model X.prog X.w) X.A (subscriptTail a (.Slice none none (some e) p2) (.ref l) (.ref s2.heap.objs.size)) (EP X pins σ Q) X.xe { s2 with heap := s2.heap.push { cls := .type "slice", data := .fields #[.none, .none, .int (-1) t] } }
  obtain ⟨ops, hops⟩ := hs l s2.heap.objs.size
  refine tail_any (ops := ops) ht.isList.typeIs slot_list_getitem.lookup (wpAny_getItem_list_slice ht.isList (Heap.IsSliceOf.new ..) .none .none (.int _ _) (by decide) ?_ (by rw [List.size_toArray]; omega)) hops
  rw [PySem.W.krv_pick]
  have hn := I4.hok.fresh (Nat.le_refl _)
  refine ⟨.ref (s2.heap.push { cls := .type "slice", data := .fields #[.none, .none, .int (-1) t] }).objs.size, _, I4.laid (t' := s2.toks) (o := .lst us.reverse) (fun b ob q => Heap.get?_push_of_some _ q) (Nat.le_refl _) ?_, rfl, ?_⟩
  · exact ⟨by rw [List.length_reverse]; exact hz, _, 0, r.reverse, Heap.get?_push_size _ rfl⟩
  · exact q _ _ _ ((q1.trans q2).free hn) ((q1.trans q2).trans (Same.new hn)) upd_same ((DVs.rev d3).mono (Same.new hn))
end
end L2
set_option maxRecDepth 100000
set_option maxHeartbeats 1000000
namespace L2
open PySem PySem.Spec PyProof.Rows
theorem qz_ok {P : Program} {w : World} {K : PySem.W.Frag} {R : Reg} {T : List PyData} : ZOk R.L (Tb P w K R T) where
  step := fun t s => t.step s
  notup := fun ⟨_, _, _, t⟩ b hb xs r => t.notup b hb xs r
  free := fun t hp => tb_free t hp
section
variable {X : Cx} {L : List Addr} {I I1 I2 : Hp → Prop} {rs : List (Nat × Addr)} {G G1 G2 : Gam} {e c a b : Expr} {es : List Expr} {d : PyData} {ds ws : List PyData} {k : Bool} {pos pos' pos2 apos : Pos} {x f m : Str} {i j : Nat}
theorem ze_fresh (ok : ZOk L I) (h : EVF X G e ws) (hn : noLs ws = true) : ZE X L I rs G e (.list ws) I := h.imp fun σ H Q ⟨r, q⟩ => ⟨r.sd, fun p us H' hp s' hl dv => by
  have i' := ok.step r.2.1 s'
  have hpL : p ∉ L := ok.free r.2.1 hp
  exact q _ H' i' s'.lef (.lst (SqL.of (by rw [lef_ne hpL]; exact hl)) (DVs.lef (ok.notup i') dv hn))⟩
theorem ze_ixL {z : Int} (ok : ZOk L I) (ha : ZE X L I rs G a (.list ds) I) (hb : EV X G b (.int z)) (he : atI ds z = some d) (hs : PlainIx b := by intro _ _; rfl) : ZE X L I rs G (.Subscript a b pos) d I :=
  (pe_ix ix_list ha hb hs).imp fun σ H Q ⟨r, q⟩ => ⟨r, fun v H1 i1 s1 d1 => ⟨(r.next i1 s1).sd, fun y H2 s2 d2 => by
    obtain ⟨l, us, rfl, hl, d3⟩ := d1.of_lst
    obtain ⟨v, e1, e2⟩ := d3.atI he
    exact ⟨l, us, z, v, rfl, d2.of_int, s2.seq (lef_same.seq hl), e1, q v H2 (ok.step i1 s2) (s1.trans s2.lef) (e2.mono s2.lef)⟩⟩⟩
theorem zr_weak {sts : List Stmt} (h : PSs X sts (zR X.K L I rs G d I1)) : PSs X sts (zR X.K L I rs G d fun _ => True) := h.imp fun D σ H ⟨r, q⟩ => ⟨r, fun v H' _ s' dv => q v H' True.intro s' dv⟩
theorem zn_two {tg : Expr} {d1 d2 : PyData} (h : ZE X L I rs G e (.list [d1, d2]) I1) (hpg : PG X tg (gLst X.K 2 (gNames [i, j]))) (hi : ∀ q ∈ rs, q.1 ≠ i) (hj : ∀ q ∈ rs, q.1 ≠ j)
    (hs : swapsWithSole [tg] e pos.line X.env = pure false := by rfl) (hw : swappedStores [tg] e X.env = pure none := by rfl) (h1 : (assignEach [tg] X.env).map (·.2) = [assign tg X.env] := by rfl) :
    PS X (.Assign [tg] e pos) (zN X.K L I rs G ((G.set i (some d1)).set j (some d2)) I1) :=
  (ps_asg h hpg hs hw h1).imp fun D σ H ⟨r, q⟩ => ⟨r, fun v H1 t1 s1 dv => by
    obtain ⟨l, ys, rfl, hq, dys⟩ := dv.of_lst
    obtain ⟨v1, v2, rfl, dv1, dv2⟩ := dys.two
    refine ⟨l, [v1, v2], rfl, lef_same.seq hq, rfl, v1, [v2], rfl, v2, [], rfl, rfl, ?_⟩
    refine q _ H1 ⟨fun z hz => ?_, t1, ((r.2.2.mono s1).set dv1).set dv2⟩ s1
    rw [List.getElem?_set_ne (hj z hz).symm, List.getElem?_set_ne (hi z hz).symm]
    exact r.1 z hz⟩
theorem zn_if0 {A : List Stmt} (ok : ZOk L I) (h : ZT X L I rs G c false) : PS X (.If c A [] pos) (zN X.K L I rs G G I) := zn_if h (fun z => by cases z) (fun _ => zn_nil)
end
section
variable {X : Cx} {R : Reg} {rs : List (Nat × Addr)} {G G1 G2 : Gam} {T T1 T2 : List PyData} {e c a b : Expr} {es : List Expr} {d : PyData} {ds : List PyData} {k i j : Nat} {pos pos' pos2 apos p1 : Pos} {x f m : Str}
theorem qe_meth {F : List PyData → List PyData → PyData → List PyData → Prop} {pl : Sem Bool} (cl : Cls X.K R.C) (D : TFn X.prog X.w X.K X.mg X.base k R.C m F) (hr : Room k X.A) (hi : (i, R.a) ∈ rs) (hv : PE X (.Name x pos2) (tVar i)) (ha : AV X G (e :: es) ds) (hn : noLs ds = true) (hF : F T ds d T2) (h1 : m ≠ "atoms" := by decide) (h2 : m ≠ "numbers" := by decide)
    (hst : starEach (e :: es) X.env = (false, eval e X.env) :: starEach es X.env := by rfl) (hpl : (backTo pos (starEach es X.env)).any (·.1) = false := by rfl)
    (ht : eval (.Call (.Attribute (.Name x pos2) m apos) (e :: es) [] pos) X.env = (do
      let ov ← eval (.Name x pos2) X.env
      standAt apos.atName
      let (f, first) ← holding [ov] (getMethod ov m pl)
      callWith pos f first (backTo pos (starEach (e :: es) X.env)) (backToKw pos (keywordEach [] X.env))) := by rfl) :
    ZE X R.L (Tb X.prog X.w X.K R T) rs G (.Call (.Attribute (.Name x pos2) m apos) (e :: es) [] pos) d (Tb X.prog X.w X.K R T2) := by
  obtain ⟨f, fd, ps, ok, hm, hb⟩ := D
  refine (pe_meth (E := E0) (dvs := []) (ds := []) hv cl hm ok hr hb .nil pass0 ha hst hpl ht).imp fun σ H Q ⟨r, q⟩ => ?_
  obtain ⟨fs, vs, xs, t⟩ := id r.2.1
  refine ⟨.ref R.a, r.1 _ hi, R.a, R.dx, fs, rfl, t.obj, t.fn m h1 h2, r.sd, fun vs' H' s' dv => ?_⟩
  show spT X.prog X.w X.K R.C F (V.ref R.a :: (vs' ++ [])) H' Q E0
  rw [List.append_nil]
  have t' := Tb.step r.2.1 s'
  exact ⟨R, T, ds, d, T2, vs', rfl, rfl, t', DVs.lef (qz_ok.notup t') dv hn, hF, fun v H2 t2 s2 d2 => q v H2 t2 (s'.lef.trans s2) d2⟩
theorem qe_call {F : List PyData → List PyData → PyData → List PyData → Prop} (D : AFn X.prog X.w X.K X.mg X.base k R.C f F) (hr : Room k X.A) (hg : Gl X f) (hi : (i, R.a) ∈ rs) (hv : PE X (.Name x pos2) (tVar i)) (ha : ZA X R.L (Tb X.prog X.w X.K R T) rs G es ds (Tb X.prog X.w X.K R T1)) (hF : F T1 ds d T2) (hdb : (f == ("__debug__" : Str)) = false := by decide)
    (he : starEach (.Name x pos2 :: es) X.env = (false, eval (.Name x pos2) X.env) :: starEach es X.env := by rfl) (hpl : (backTo pos (starEach es X.env)).any (·.1) = false := by rfl) :
    ZE X R.L (Tb X.prog X.w X.K R T) rs G (.Call (.Name f p1) (.Name x pos2 :: es) [] pos) d (Tb X.prog X.w X.K R T2) := by
  obtain ⟨fa, fd, ps, ok, hm, hk, hb⟩ := D
  refine (pe_call (E := E0) (dvs := []) (ds := []) ok hr hg hm hk hb .nil pass0 (pa_cons hv ha he) hdb he hpl).imp fun σ H Q ⟨r, q⟩ => ⟨.ref R.a, r.1 _ hi, r, fun vs H1 i1 s1 dvs => ?_⟩
  show spT X.prog X.w X.K R.C F ((.ref R.a :: vs) ++ []) H1 Q E0
  rw [List.append_nil]
  exact ⟨R, T1, ds, d, T2, vs, rfl, rfl, i1, dvs, hF, fun v H2 t2 s2 d2 => q v H2 t2 (s1.trans s2) d2⟩
abbrev viewT (C : Addr) (T : List PyData) (i : Nat) (G : Gam) : Gam := G.set i (some (objD C [(.str "atoms", .list T)]))
theorem RZ.view {P : Program} {w : World} {K : PySem.W.Frag} {σ : St} {H : Hp} (r : RZ K R.L (Tb P w K R T) rs G σ H) (hi : (i, R.a) ∈ rs) : SD K H σ (viewT R.C T i G) := by
  obtain ⟨fs, vs, xs, t⟩ := id r.2.1
  have dob : DV K H (.ref R.a) (objD R.C [(.str "atoms", .list T)]) := .obj t.obj (fun m hm => t.fn m (fun z => hm (by rw [z]; decide)) (fun z => hm (by rw [z]; decide))) (.cons t.f1 (.lst (SqL.of t.lst) (t.atoms.mono lef_same)) .nil)
  have h1 := r.sd.set (i := i) dob
  rw [set_selfS (r.1 _ hi)] at h1
  exact h1
theorem qt_view {kb : Bool} (hi : (i, R.a) ∈ rs) (h : TV X (viewT R.C T i G) c kb) : ZT X R.L (Tb X.prog X.w X.K R T) rs G c kb := h.imp fun σ H Q ⟨r, q⟩ => ⟨r.view hi, fun H' s' => q H' (r.step qz_ok s') s'.lef⟩
theorem qr_forR {tg : Expr} {body sts : List Stmt} {n : Nat} {I1 : Hp → Prop} {p2 p3 : Pos} (W : Nat → Gam → List PyData → Prop) (hp : PassesOwn (model X.prog X.w) X.A X.env X.xe) (hcalm : X.calm = true) (hj : ∀ q ∈ rs, q.1 ≠ j) (hg : PG X tg (gName j)) (hc : EV X G c (.int n)) (hn : n < 1000) (hgr : Gl X "range") (hmr : X.mg "range" = none) (h0 : W 0 G T)
    (hs : ∀ k G T, k < n → W k G T → ∃ G' T', W (k + 1) G' T' ∧ PSs X body (zN X.K R.L (Tb X.prog X.w X.K R T) rs (G.set j (some (.int (0 + (k : Int))))) G' (Tb X.prog X.w X.K R T')))
    (hd : ∀ G T, W n G T → PSs X sts (zR X.K R.L (Tb X.prog X.w X.K R T) rs G d I1))
    (hsr : starEach [c] X.env = [(false, eval c X.env)] := by rfl) (hfs : ∀ y, foldedSetIterable (.Call (.Name "range" p2) [c] [] p3) X.env y = pure y := by intro _; rfl) :
    PSs X (.For tg (.Call (.Name "range" p2) [c] [] p3) body [] pos :: sts) (zR X.K R.L (Tb X.prog X.w X.K R T) rs G d I1) := by
  have hbody : PSs X body (fun D σ H => ∃ (k : Nat) (G : Gam) (T : List PyData), k < n ∧ W k G T ∧ RZ X.K R.L (Tb X.prog X.w X.K R T) rs (G.set j (some (.int (0 + (k : Int))))) σ H ∧ ∀ σ' H' G' T', W (k + 1) G' T' → RZ X.K R.L (Tb X.prog X.w X.K R T') rs G' σ' H' → Same (lef R.L H) (lef R.L H') → D.nx σ' H') := by
    intro pins s σ H D I ⟨k, G, T, hk, hW, r, q⟩
    obtain ⟨G', T', hW', hps⟩ := hs k G T hk hW
    exact hps pins s σ H D I ⟨r, fun σ' H' r' s' => q σ' H' G' T' hW' r' s'⟩
  have h2 : PSs X sts (fun D σ H => ∃ (G : Gam) (T : List PyData), W n G T ∧ zR X.K R.L (Tb X.prog X.w X.K R T) rs G d I1 D σ H) := fun pins s σ H D I ⟨G, T, hW, q⟩ => hd G T hW pins s σ H D I q
  refine (pss_cons (ps_for hp hcalm (pi_range1 hgr hmr (av_cons hc av_nil hsr) hsr) hg hbody hfs) h2).imp fun D σ H ⟨r, q⟩ => ⟨r.sd, fun vs H1 s1 d1 => ?_⟩
  obtain ⟨v1, rfl, dv1⟩ := d1.one
  refine ⟨n, by rw [dv1.of_int], by omega, by omega, ?_⟩
  rw [Int.toNat_natCast]
  have r1 := r.step qz_ok s1
  refine for_range (lo := 0) (n := n) (g := gName j) (tb := fun D σ H => ∃ (k : Nat) (G : Gam) (T : List PyData), k < n ∧ W k G T ∧ RZ X.K R.L (Tb X.prog X.w X.K R T) rs (G.set j (some (.int (0 + (k : Int))))) σ H ∧ ∀ σ' H' G' T', W (k + 1) G' T' → RZ X.K R.L (Tb X.prog X.w X.K R T') rs G' σ' H' → Same (lef R.L H) (lef R.L H') → D.nx σ' H')
    (fun k σ2 H2 => ∃ G T, W k G T ∧ RZ X.K R.L (Tb X.prog X.w X.K R T) rs G σ2 H2 ∧ Same (lef R.L H1) (lef R.L H2)) ⟨G, T, h0, r1, Same.refl _⟩ (fun k σ2 H2 hk ⟨G2, T2, hW, r2, sm⟩ => ?_) (fun σ2 H2 ⟨G2, T2, hW, r2, sm⟩ => ?_)
  · refine ⟨k, G2, T2, hk, hW, ⟨fun z hz => ?_, r2.2.1, r2.2.2.set (.int _)⟩, fun σ3 H3 G3 T3 hW3 r3 s3 => ⟨G3, T3, hW3, r3, sm.trans s3⟩⟩
    rw [List.getElem?_set_ne (hj z hz).symm]
    exact r2.1 z hz
  · exact ⟨G2, T2, hW, r2, fun v H3 i3 s3 dv => q v H3 i3 (s1.lef.trans (sm.trans s3)) dv⟩
end
theorem Fun.tabZ {P : Program} {w : World} {K : PySem.W.Frag} {mg : Str → Option Value} {base : Heap} {x qual n0 : Str} {st : Stmt} {f : Addr} {fd : FuncData} {N ps : List Str} {k : Nat} {C : Addr} {F : List PyData → List PyData → PyData → List PyData → Prop} (F0 : Fun K x qual st f fd) (hm : mg x = some (.ref f)) (hb : Binds K fd ps []) (S0 : FnScope (n0 :: N) ps (defScope st)) (len : ∀ T ds d T', F T ds d T' → ds.length + 1 = ps.length)
    (hbody : ∀ (cdv : Value) (A : Around) (outer : List Env) (s : Shared) (H : Hp) (E : XK) (R : Reg) (T ds : List PyData) (d : PyData) (T' : List PyData), Room k (A.deeper (envOfC qual (defScope st) s.heap.objs.size f cdv)) → R.C = C → F T ds d T' →
      PSs (cxOf CX0 P w K mg base (n0 :: N) qual (defScope st) f cdv A outer s H E).nox (defBody st) (zR K R.L (Tb P w K R T) [(0, R.a)] (none :: startG N ds) d (Tb P w K R T'))) : AFn P w K mg base (k + 1) C x F := by
  refine ⟨f, fd, ps, F0.ok S0 (fun vs H Q E ⟨R, T, ds, d, T', vr, _, e, _, dv, hF, _⟩ => by rw [e, List.length_cons, dv.length]; exact len T ds d T' hF) (fun cdv A outer s H vs Q E hr ⟨R, T, ds, d, T', vr, hC, e, tb, dv, hF, q⟩ => ?_), hm, F0.kp, hb⟩
  subst e
  refine ⟨_, hbody cdv A outer s H E R T ds d T' hr hC hF, ⟨fun z hz => ?_, tb, ?_⟩, q⟩
  · have := List.mem_singleton.mp hz
    subst this
    rw [start_cons]
    rfl
  · rw [start_cons]; exact (SD.start dv).cons0 _
section
variable {X : Cx} {C : Addr} {G : Gam} {k i : Nat} {sts : List Stmt} {d : PyData} {p1 p2 p3 p4 : Pos} {x xt : Str}
theorem svs_zone (hN : X.N.Nodup) (h1 : X.N[i]? = some xt) (x1 : Loc X.env.scope xt) (hl : i < G.length) (hG : G[i]? = some none) (D0 : IFn X.prog X.w X.K X.mg X.base k C) (hr : Room (k + 1) X.A) (hg : Gl X x) (hm : X.mg x = some (.ref C))
    (h : ∀ R : Reg, R.C = C → PSs X sts (zR X.K R.L (Tb X.prog X.w X.K R []) [(i, R.a)] G d fun _ => True))
    (hdb : (x == ("__debug__" : Str)) = false := by decide) (s1 : swapsWith (.Call (.Name x p2) [] [] p3) (some (.Name xt p1)) p4.line X.env = pure false := by rfl) (f1 : X.fn xt = true ∨ X.env.scope.names.lookup xt = some .local := by first | exact .inl rfl | exact .inr rfl | assumption) :
    SVs X G (.Assign [.Name xt p1] (.Call (.Name x p2) [] [] p3) p4 :: sts) (.ret d) := by
  obtain ⟨f0, fd0, ps0, ok0, M, hb0⟩ := D0
  intro pins s σ H D I ⟨hσ, q⟩
  have h2 : PSs X sts (fun D σ H => ∃ R : Reg, R.C = C ∧ zR X.K R.L (Tb X.prog X.w X.K R []) [(i, R.a)] G d (fun _ => True) D σ H) := fun pins s σ H D I ⟨R, hC, q⟩ => h R hC pins s σ H D I q
  refine pss_cons (ps_set hN h1 x1 (pe_make0 (E := E0) (dvs := []) (ds := []) M ok0 hr hg hm hb0 .nil pass0 hdb) s1 f1) h2 pins s σ H D I ?_
  intro a dx ha hdx hne
  refine ⟨a, dx, rfl, upd_same, fun H1 R hC hRa tb old hla hda => ⟨rfl, ?_⟩⟩
  subst hC hRa
  have keep : ∀ b o, H b = some o → b ∉ R.L ∧ H1 b = some o := fun b o e => by
    have n1 : b ≠ R.a := ne_of_none e ha
    have n2 : b ≠ dx := ne_of_none e hdx
    have e1 : upd (upd H dx (.own R.a)) R.a (.ins R.C dx []) b = some o := by rw [upd_ne n1, upd_ne n2]; exact e
    refine ⟨fun z => ?_, old b o n1 e1⟩
    simp only [Reg.L, List.mem_cons, List.not_mem_nil, or_false] at z
    rcases z with z | z | z
    · exact n1 z
    · exact ne_of_none e1 hla z
    · exact ne_of_none e1 hda z
  have sL : Same H (lef R.L H1) := fun b o e => by
    obtain ⟨k1, k2⟩ := keep b o e
    rw [lef_ne k1]
    exact k2
  refine ⟨R, rfl, ⟨fun z hz => ?_, tb, ⟨by rw [List.length_set]; exact hσ.1, fun j d ej => ?_⟩⟩, fun v H2 _ s2 dv => q v H2 ((sL.trans s2).trans lef_same) (dv.mono lef_same)⟩
  · have := List.mem_singleton.mp hz
    subst this
    exact List.getElem?_set_self (by rw [hσ.1]; exact hl)
  · by_cases hj : i = j
    · subst hj; rw [hG] at ej; cases ej
    · rw [List.getElem?_set_ne hj]
      exact (hσ.mono sL).2 j d ej
end
end L2
set_option maxRecDepth 100000
set_option maxHeartbeats 1000000
namespace L2
open PySem PySem.Spec PyProof.Rows
section
variable {X : Cx} {R : Reg} {rs : List (Nat × Addr)} {G : Gam} {T T1 : List PyData} {es : List Expr} {d : PyData} {ds : List PyData} {k i : Nat} {pos pos2 p1 : Pos} {x f : Str}
end
theorem cut_lastN {α : Type} (D : α → PyData) (xs : List α) (n : Nat) (hn : 0 < n) : cutD (xs.map D) (some (-(n : Int))) none = (xs.drop (xs.length - n)).map D := by
  unfold cutD
  rw [List.length_map, HT.sIx_none]
  have e : HT.sIx xs.length 0 (some (-(n : Int))) = xs.length - n := by
    show (if (-(n : Int)) < 0 then ((-(n : Int)) + (xs.length : Int)).toNat else min (-(n : Int)).toNat xs.length) = _
    rw [if_pos (by omega)]
    omega
  rw [e, List.take_of_length_le (by simp), List.map_drop]
end L2
set_option maxRecDepth 100000
set_option maxHeartbeats 4000000
namespace L2
open PySem PyProof.Rows
def hM : Nat := 2 ^ 64
def hP1 : Nat := 11400714785074694791
def hP2 : Nat := 14029467366897019727
def hQ1 : Nat := 614540362697595703
def hQ2 : Nat := 839798700976720815
def hC : Nat := 2 ^^^ (2870177450012600261 ^^^ 3527539)
def hRot (x : Nat) : Nat := (x * 2 ^ 31) % hM + x / 2 ^ 33
def hF (acc h : Nat) : Nat := (hRot ((acc + h * hP2) % hM) * hP1) % hM
def hG (a b : Nat) : Nat := (hF (hF 2870177450012600261 a) b + hC) % hM
theorem hRot_inj {x y : Nat} (hx : x < 2 ^ 64) (hy : y < 2 ^ 64) (h : hRot x = hRot y) : x = y := by
  have e : ∀ z : Nat, z * 2 ^ 31 % hM = z % 2 ^ 33 * 2 ^ 31 := fun z => Nat.mul_mod_mul_right (2 ^ 31) z (2 ^ 33)
  unfold hRot at h
  rw [e, e] at h
  omega
theorem hRot_lt {x : Nat} (hx : x < 2 ^ 64) : hRot x < 2 ^ 64 := by
  unfold hRot hM
  omega
theorem mul_inj {p q m x y : Nat} (hpq : p * q % m = 1) (hm : 1 < m) (hx : x < m) (hy : y < m) (h : x * p % m = y * p % m) : x = y := by
  have e : ∀ z, z < m → (z * p % m) * q % m = z := fun z hz => by
    rw [Nat.mod_mul_mod, Nat.mul_assoc, ← Nat.mul_mod_mod, hpq, Nat.mul_one, Nat.mod_eq_of_lt hz]
  rw [← e x hx, ← e y hy, h]
theorem hF_inj {x y h k : Nat} (e : hF x h = hF y k) : (x + h * hP2) % hM = (y + k * hP2) % hM := by
  unfold hF at e
  have hm : 0 < hM := by decide
  have l1 : (x + h * hP2) % hM < hM := Nat.mod_lt _ hm
  have l2 : (y + k * hP2) % hM < hM := Nat.mod_lt _ hm
  exact hRot_inj l1 l2 (mul_inj (q := hQ1) (by decide +kernel) (by decide) (hRot_lt l1) (hRot_lt l2) e)
def hB (a : Nat) : Nat := hF 2870177450012600261 a * hQ2 % hM
def chk : List Nat → Nat → Bool
  | [], _ => true
  | x :: r, s => !(s.testBit x) && chk r (s ||| 2 ^ x)
theorem chk_nodup : ∀ {l : List Nat} {s : Nat}, chk l s = true → l.Nodup ∧ ∀ x ∈ l, s.testBit x = false
  | [], _, _ => ⟨List.nodup_nil, fun x h => by cases h⟩
  | x :: r, s, h => by
    unfold chk at h
    rw [Bool.and_eq_true] at h
    obtain ⟨h1, h2⟩ := h
    obtain ⟨n, t⟩ := chk_nodup h2
    refine ⟨List.nodup_cons.mpr ⟨fun hx => ?_, n⟩, fun y hy => ?_⟩
    · have := t x hx
      rw [Nat.testBit_or, Nat.testBit_two_pow_self, Bool.or_true] at this
      cases this
    · rcases List.mem_cons.mp hy with rfl | hy
      · simpa using h1
      · have := t y hy
        rw [Nat.testBit_or, Bool.or_eq_false_iff] at this
        exact this.1
def hBs (n : Nat) : List Nat := (List.range n).map fun a => hB a / 2 ^ 44
def hIn : Nat → Bool
  | 0 => true
  | n + 1 => Nat.ble 10 (hB n % 2 ^ 44) && Nat.ble (hB n % 2 ^ 44) (2 ^ 44 - 10) && hIn n
def hNo (a : Nat) : Nat → Bool
  | 0 => true
  | n + 1 => !(Nat.beq (hG a n) (2 ^ 64 - 1)) && hNo a n
def hNos : Nat → Bool
  | 0 => true
  | n + 1 => hNo n 10 && hNos n
theorem chk_all : chk (hBs 4096) 0 = true := by decide +kernel
theorem in_all : hIn 4096 = true := by decide +kernel
theorem no_all : hNos 4096 = true := by decide +kernel
theorem hIn_at {a : Nat} : ∀ {n : Nat}, hIn n = true → a < n → 10 ≤ hB a % 2 ^ 44 ∧ hB a % 2 ^ 44 ≤ 2 ^ 44 - 10 := by
  intro n
  induction n with
  | zero => intro _ h; exact absurd h (Nat.not_lt_zero _)
  | succ n ih =>
    intro h hl
    have h : (Nat.ble 10 (hB n % 2 ^ 44) && Nat.ble (hB n % 2 ^ 44) (2 ^ 44 - 10) && hIn n) = true := h
    rw [Bool.and_eq_true, Bool.and_eq_true] at h
    by_cases e : a = n
    · rw [e]; exact ⟨Nat.le_of_ble_eq_true h.1.1, Nat.le_of_ble_eq_true h.1.2⟩
    · exact ih h.2 (by omega)
theorem hNo_at {a b : Nat} : ∀ {n : Nat}, hNo a n = true → b < n → hG a b ≠ 2 ^ 64 - 1 := by
  intro n
  induction n with
  | zero => intro _ h; exact absurd h (Nat.not_lt_zero _)
  | succ n ih =>
    intro h hl
    have h : (!(Nat.beq (hG a n) (2 ^ 64 - 1)) && hNo a n) = true := h
    rw [Bool.and_eq_true] at h
    by_cases e : b = n
    · have := h.1
      rw [Bool.not_eq_true'] at this
      rw [e]; exact Nat.ne_of_beq_eq_false this
    · exact ih h.2 (by omega)
theorem hNos_at {a : Nat} : ∀ {n : Nat}, hNos n = true → a < n → hNo a 10 = true := by
  intro n
  induction n with
  | zero => intro _ h; exact absurd h (Nat.not_lt_zero _)
  | succ n ih =>
    intro h hl
    have h : (hNo n 10 && hNos n) = true := h
    rw [Bool.and_eq_true] at h
    by_cases e : a = n
    · rw [e]; exact h.1
    · exact ih h.2 (by omega)
theorem hB_lt (a : Nat) : hB a < 2 ^ 64 := Nat.mod_lt _ (by decide)
theorem hBk_inj {a a' : Nat} (ha : a < 4096) (ha' : a' < 4096) (h : hB a / 2 ^ 44 = hB a' / 2 ^ 44) : a = a' := by
  have hn : (hBs 4096).Nodup := (chk_nodup chk_all).1
  have hl : (hBs 4096).length = 4096 := by unfold hBs; rw [List.length_map, List.length_range]
  have g : ∀ i (hi : i < 4096), (hBs 4096)[i]'(by rw [hl]; exact hi) = hB i / 2 ^ 44 := fun i hi => by
    unfold hBs
    rw [List.getElem_map, List.getElem_range]
  have pw := List.pairwise_iff_getElem.mp hn
  rcases Nat.lt_trichotomy a a' with hlt | e | hlt
  · exact absurd (by rw [g a ha, g a' ha', h]) (pw a a' (by rw [hl]; exact ha) (by rw [hl]; exact ha') hlt)
  · exact e
  · exact absurd (by rw [g a ha, g a' ha', h]) (pw a' a (by rw [hl]; exact ha') (by rw [hl]; exact ha) hlt)
theorem hG_inj {a b a' b' : Nat} (ha : a < 4096) (hb : b < 10) (ha' : a' < 4096) (hb' : b' < 10) (h : hG a b = hG a' b') : a = a' ∧ b = b' := by
  have l : ∀ x y, hF x y < hM := fun x y => Nat.mod_lt _ (by decide)
  have e1 : hF (hF 2870177450012600261 a) b = hF (hF 2870177450012600261 a') b' := by
    have l1 := l (hF 2870177450012600261 a) b
    have l2 := l (hF 2870177450012600261 a') b'
    unfold hG at h
    have hc : hC < 2 ^ 64 := by decide +kernel
    unfold hM at h l1 l2
    omega
  have e2 := hF_inj e1
  have e3 : ∀ x y : Nat, (x + y * hP2) % hM * hQ2 % hM = (x * hQ2 % hM + y) % hM := fun x y => by
    have q : hP2 * hQ2 % hM = 1 := by decide +kernel
    rw [Nat.mod_mul_mod, Nat.add_mul, Nat.mul_assoc, Nat.add_mod, ← Nat.mul_mod_mod y, q, Nat.mul_one, Nat.add_mod_mod]
  have e4 : (hB a + b) % hM = (hB a' + b') % hM := by
    unfold hB
    rw [← e3, ← e3, e2]
  have i1 := hIn_at in_all ha
  have i2 := hIn_at in_all ha'
  have b1 := hB_lt a
  have b2 := hB_lt a'
  unfold hM at e4
  have e5 : hB a + b = hB a' + b' := by omega
  have e6 : a = a' := hBk_inj ha ha' (by omega)
  subst e6
  exact ⟨rfl, by omega⟩
def hPr (a b : Int) : Int := reduceHash (Builtin.Tuple.tupleHashOf [hashInt a, hashInt b])
theorem hash_small {a : Int} (h0 : 0 ≤ a) (h1 : a < 4096) : hashInt a = a := by
  unfold hashInt rawHash
  have e : a.natAbs % (2 ^ 61 - 1) = a.toNat := by omega
  simp only [e]
  split <;> split <;> first | omega | (rename_i h h2; simp at h2; omega) | skip
  all_goals (simp_all; try omega)
theorem hG_lt (a b : Nat) : hG a b < 18446744073709551616 := Nat.mod_lt _ (by decide)
def sgn64 (g : Nat) : Int := if g < 9223372036854775808 then (g : Int) else (g : Int) - 18446744073709551616
def tStep (acc : Nat) (h : Int) : Nat :=
  let m : Nat := 2 ^ 64
  let prime1 : Nat := 11400714785074694791
  let prime2 : Nat := 14029467366897019727
  let acc := (acc + (h % (m : Int)).toNat * prime2) % m
  let acc := (acc * 2 ^ 31) % m + acc / 2 ^ 33
  (acc * prime1) % m
def tFin (n acc0 : Nat) : Int :=
  let m : Nat := 2 ^ 64
  let prime5 : Nat := 2870177450012600261
  let acc := (acc0 + (n ^^^ (prime5 ^^^ 3527539))) % m
  if acc == m - 1 then 1546275796 else if acc < 2 ^ 63 then acc else (acc : Int) - m
theorem tup_fold (x y : Int) : Builtin.Tuple.tupleHashOf [x, y] = tFin [x, y].length ([x, y].foldl tStep 2870177450012600261) := by
  unfold Builtin.Tuple.tupleHashOf tFin
  exact rfl
theorem tStep_eq (acc x : Nat) (hx : x < 18446744073709551616) : tStep acc (x : Int) = hF acc x := by
  have e : ((x : Int) % ((2 ^ 64 : Nat) : Int)).toNat = x := by
    rw [show ((2 ^ 64 : Nat) : Int) = 18446744073709551616 from rfl]
    omega
  unfold tStep
  dsimp only
  rw [e]
  unfold hF hRot hM hP2 hP1
  rfl
theorem tFin_eq (acc : Nat) (h : (acc + hC) % hM ≠ 18446744073709551615) : tFin 2 acc = sgn64 ((acc + hC) % hM) := by
  have e0 : (2 ^ 64 : Nat) = 18446744073709551616 := by decide
  have e1 : (2 ^ 63 : Nat) = 9223372036854775808 := by decide
  unfold tFin
  dsimp only
  unfold hC hM at h ⊢
  generalize (acc + (2 ^^^ (2870177450012600261 ^^^ 3527539))) % 2 ^ 64 = g at h ⊢
  rw [e0, e1]
  rw [if_neg (by simpa using h)]
  unfold sgn64
  rfl
theorem hPr_eq {a b : Int} (a0 : 0 ≤ a) (a1 : a < 4096) (b0 : 0 ≤ b) (b1 : b < 10) : hPr a b = sgn64 (hG a.toNat b.toNat) := by
  have hn : hG a.toNat b.toNat ≠ 18446744073709551615 := hNo_at (hNos_at no_all (a := a.toNat) (by omega)) (b := b.toNat) (by omega)
  have hl : hG a.toNat b.toNat < 18446744073709551616 := hG_lt _ _
  have e : Builtin.Tuple.tupleHashOf [a, b] = sgn64 (hG a.toNat b.toNat) := by
    rw [tup_fold]
    have ea : tStep 2870177450012600261 a = hF 2870177450012600261 a.toNat := by
      have := tStep_eq 2870177450012600261 a.toNat (by omega)
      rw [show ((a.toNat : Nat) : Int) = a by omega] at this
      exact this
    have eb : ∀ z, tStep z b = hF z b.toNat := fun z => by
      have := tStep_eq z b.toNat (by omega)
      rw [show ((b.toNat : Nat) : Int) = b by omega] at this
      exact this
    rw [List.foldl_cons, List.foldl_cons, List.foldl_nil, ea, eb]
    exact tFin_eq _ hn
  unfold hPr
  rw [hash_small a0 a1, hash_small b0 (by omega), e]
  generalize hG a.toNat b.toNat = g at hn hl
  have h1 : -9223372036854775808 ≤ sgn64 g ∧ sgn64 g < 9223372036854775808 ∧ sgn64 g ≠ -1 := by
    unfold sgn64
    split <;> omega
  generalize sgn64 g = z at h1
  unfold reduceHash
  rw [if_pos (by rw [Bool.and_eq_true, decide_eq_true_iff, decide_eq_true_iff]; exact ⟨h1.1, h1.2.1⟩), if_neg (by simpa using h1.2.2)]
theorem hPr_inj {a b a' b' : Int} (a0 : 0 ≤ a) (a1 : a < 4096) (b0 : 0 ≤ b) (b1 : b < 10) (a0' : 0 ≤ a') (a1' : a' < 4096) (b0' : 0 ≤ b') (b1' : b' < 10) (h : hPr a b = hPr a' b') : a = a' ∧ b = b' := by
  rw [hPr_eq a0 a1 b0 b1, hPr_eq a0' a1' b0' b1'] at h
  have l1 : hG a.toNat b.toNat < 18446744073709551616 := hG_lt _ _
  have l2 : hG a'.toNat b'.toNat < 18446744073709551616 := hG_lt _ _
  have e : hG a.toNat b.toNat = hG a'.toNat b'.toNat := by
    generalize hG a.toNat b.toNat = g at l1 h
    generalize hG a'.toNat b'.toNat = g' at l2 h
    unfold sgn64 at h
    split at h <;> split at h <;> omega
  have := hG_inj (by omega) (by omega) (by omega) (by omega) e
  omega
end L2
set_option maxRecDepth 100000
set_option maxHeartbeats 4000000
namespace L2
open PySem PyProof.Rows
section
variable {prog : Program} {w : World} {A : Around} {E : Value → Shared → Prop} {s : Shared} {K : Type} [DecidableEq K] {knd : KeyKind prog w K}
theorem qEq_tup {ks : List K} {a : Addr} {Q : Bool → Shared → Prop} (hk : IsTupleKey knd s.heap ks a) (h : Q false s) : wpAny (model prog w) A (Builtin.Dict.quietEq (.ref a)) Q E s := by
  unfold Builtin.Dict.quietEq
  refine wpAny_bind (wpAny_specialOf hk.typeIs PySem.F.slot_tuple_eq.lookup (wpAny_pure ?_))
  have e : (some (Value.builtin "tuple.__eq__") == some (Value.builtin "object.__eq__")) = false := by decide +kernel
  rw [e]
  exact h
theorem forEmpty {nm : String} {o : Addr} {xs : List (List K × Addr × Value)} {ob : Obj} {es : Array DictEntry} {ep : Nat} {Q : Array DictEntry → Shared → Prop} (ho : s.heap.get? o = some ob) (hd : ob.data = .dict es ep) (he : es.toList = xs.map (entryOfKey (tupleKind knd))) (his : ∀ x ∈ xs, IsTupleKey knd s.heap x.1 x.2.1)
    (hn : ∀ e ∈ es, (es.filter (·.hash == e.hash)).size ≤ 1) (h : Q es s) : wpAny (model prog w) A (Builtin.Dict.entriesForEmpty nm o) Q E s := by
  unfold Builtin.Dict.entriesForEmpty
  refine wpAny_bind (wpAny_dictEntries ho hd ?_)
  refine wpAny_bind ?_
  rw [← Array.forIn_toList]
  refine wpAny_forIn_list _ (fun rest r s' => s' = s ∧ ∀ e ∈ rest, e ∈ es) _ ?_ ?_ _ _ ⟨rfl, fun e he => by simpa using he⟩
  · rintro e rest r s' ⟨rfl, hall⟩
    have hm := hall e List.mem_cons_self
    have hz := hn e hm
    obtain ⟨x, hx, rfl⟩ : ∃ x ∈ xs, entryOfKey (tupleKind knd) x = e := by
      have : e ∈ es.toList := by simpa using hm
      rw [he] at this
      exact List.mem_map.mp this
    refine wpAny_bind (qEq_tup (his x hx) ?_)
    rw [if_pos (by decide), if_neg (by omega)]
    exact wpAny_pure ⟨rfl, fun e he => hall e (List.mem_cons_of_mem _ he)⟩
  · rintro r s' ⟨rfl, _⟩
    exact wpAny_pure h
theorem mergeEmpty {nm : String} {d o : Addr} {xs : List (List K × Addr × Value)} {ob od : Obj} {es : Array DictEntry} {ep epd : Nat} {Q : Unit → Shared → Prop} (hdo : d ≠ o) (hoS : (o == sysModules) = false) (ho : s.heap.get? o = some ob) (hd : ob.data = .dict es ep) (he : es.toList = xs.map (entryOfKey (tupleKind knd))) (his : ∀ x ∈ xs, IsTupleKey knd s.heap x.1 x.2.1)
    (hod : s.heap.get? d = some od) (hdd : od.data = .dict #[] epd)
    (hn : ∀ e ∈ es, (es.filter (·.hash == e.hash)).size ≤ 1) (hz : es.size ≤ sizeLine) (h : ∀ h', (es = #[] ∧ h' = s.heap) ∨ (h' = s.heap.update d (Obj.mapDictKeys fun _ => es)) → Q () { s with heap := h' }) : wpAny (model prog w) A (Builtin.Dict.mergeDict nm d o) Q E s := by
  unfold Builtin.Dict.mergeDict
  rw [if_neg (by simpa using hdo)]
  unfold Builtin.Dict.showsAll
  rw [if_neg (by rw [hoS]; exact Bool.false_ne_true)]
  refine wpAny_bind (wpAny_pure ?_)
  refine wpAny_bind (wpAny_dictEntries ho hd ?_)
  by_cases h0 : es = #[]
  · subst h0
    rw [if_neg (by simp)]
    refine wpAny_bind (wpAny_dictEpoch ho hd ?_)
    refine wpAny_bind (wpAny_dictEntries ho hd ?_)
    refine wpAny_bind ?_
    rw [Std.Legacy.Range.forIn_eq_forIn_range']
    exact wpAny_pure (wpAny_pure (h s.heap (.inl ⟨rfl, rfl⟩)))
  · have hpos : 0 < es.size := Nat.pos_of_ne_zero fun z => h0 (Array.eq_empty_of_size_eq_zero z)
    have hk : (es.all fun e => (keyPart e.key).isSome) = false := by
      rw [Array.all_eq_false]
      refine ⟨0, hpos, ?_⟩
      have hm : es[0] ∈ es.toList := by simp
      rw [he] at hm
      obtain ⟨x, _, ex⟩ := List.mem_map.mp hm
      rw [← ex]
      exact Bool.false_ne_true
    rw [hk, Bool.and_false, if_pos (by decide)]
    refine wpAny_bind (wpAny_dictEntries hod hdd ?_)
    rw [if_pos (by decide)]
    refine wpAny_bind (forEmpty ho hd he his hn ?_)
    rw [if_pos (by simpa using h0)]
    exact wpAny_bind (wpAny_updateDictKeysTo hod hdd (wpAny_pure (h _ (.inr rfl))) (by omega))
theorem call_dictH {o : Addr} {xs : List (List K × Addr × Value)} {ob : Obj} {es : Array DictEntry} {ep : Nat} {Q : Value → Shared → Prop} (hoS : (o == sysModules) = false) (ho : s.heap.get? o = some ob) (hc : ob.ExactDict) (hd : ob.data = .dict es ep) (he : es.toList = xs.map (entryOfKey (tupleKind knd))) (his : ∀ x ∈ xs, IsTupleKey knd s.heap x.1 x.2.1)
    (hn : ∀ e ∈ es, (es.filter (·.hash == e.hash)).size ≤ 1) (hz : es.size ≤ sizeLine)
    (h : ∀ h' on ep', h'.get? s.heap.objs.size = some on → on.ExactDict → on.data = .dict es ep' → (∀ b u, s.heap.get? b = some u → h'.get? b = some u) → Q (.ref s.heap.objs.size) { s with heap := h' }) :
    wpAny (model prog w) A (call (.type "dict") [.ref o]) Q E s := by
  refine callType_codes (Q₁ := fun obj s₁ => obj = .ref s.heap.objs.size ∧ s₁ = { s with heap := s.heap.push { cls := .type "dict", data := .dict #[] } }) PySem.F.kt_called_dict (PySem.F.kt_typeCall_dict_1 _) PySem.F.entry_dict_init (kt_code_dict_new _ ⟨rfl, rfl⟩) ?_
  rintro obj s₁ ⟨rfl, rfl⟩
  have ll : o < s.heap.objs.size := Heap.lt_size ho
  have hnew : (s.heap.push { cls := .type "dict", data := .dict #[] }).get? s.heap.objs.size = some { cls := .type "dict", data := .dict #[] } := Heap.get?_push_size _ rfl
  have ho' : (s.heap.push { cls := .type "dict", data := .dict #[] }).get? o = some ob := Heap.get?_push_of_some _ ho
  have tn : ({ s with heap := s.heap.push { cls := .type "dict", data := .dict #[] } } : Shared).TypeIs (.ref s.heap.objs.size) "dict" := ⟨_, hnew, rfl⟩
  have to : ({ s with heap := s.heap.push { cls := .type "dict", data := .dict #[] } } : Shared).TypeIs (.ref o) "dict" := ⟨_, ho', hc.1⟩
  refine ⟨tn, PySem.F.args_dict_init_2 _ _, ?_⟩
  unfold Builtin.«dict.__init__»
  refine wpAny_bind ?_
  unfold Builtin.Dict.selfAndRest
  refine wpAny_bind (wpAny_notOrdered_dict tn ?_)
  show wpAny _ _ (pure (s.heap.objs.size, [Value.ref o])) _ _ _
  refine wpAny_pure ?_
  show wpAny _ _ (Builtin.Dict.updateFrom "dict.__init__" s.heap.objs.size (.ref o) [] .none) _ _ _
  unfold Builtin.Dict.updateFrom
  refine wpAny_bind (wpAny_typeOf to ?_)
  rw [if_neg (by decide)]
  refine wpAny_bind ?_
  unfold Builtin.Dict.merge
  refine wpAny_bind ?_
  unfold Builtin.Dict.readDirectly
  refine wpAny_bind (wpAny_isInstance to isSubtype_dict_dict ?_)
  simp only [Bool.not_true, Bool.false_eq_true, if_false]
  refine wpAny_bind (wpAny_specialOf to PySem.F.slot_dict_iter.lookup (wpAny_pure ?_))
  simp only [beq_self_eq_true, if_true]
  refine wpAny_bind (wpAny_pure ?_)
  refine mergeEmpty (s := { s with heap := s.heap.push { cls := .type "dict", data := .dict #[] } }) (Nat.ne_of_gt ll) hoS ho' hd he (fun x hx => ?_) hnew rfl hn hz fun h' hh => ?_
  · obtain ⟨u, its, n, h1, r⟩ := his x hx
    exact ⟨u, its, n, Heap.get?_push_of_some _ h1, r⟩
  · show wpAny _ _ (Builtin.Dict.addKeywords s.heap.objs.size [] >>= _) _ _ _
    refine wpAny_bind (wpAny_pure (wpAny_pure ⟨rfl, ?_⟩))
    rcases hh with ⟨rfl, rfl⟩ | rfl
    · exact h _ _ _ hnew ⟨rfl, rfl, rfl⟩ rfl fun b u e => Heap.get?_push_of_some _ e
    · refine h _ _ 1 (Heap.get?_update_self _ hnew rfl) (Obj.ExactDict.mapDictKeys ⟨rfl, rfl, rfl⟩ _) rfl fun b u e => ?_
      have hb : b ≠ s.heap.objs.size := Nat.ne_of_lt (Heap.lt_size e)
      rw [(Heap.SameBut.update ..).2 b hb]
      exact Heap.get?_push_of_some _ e
end
end L2
set_option maxRecDepth 100000
set_option maxHeartbeats 4000000
namespace L2
open PySem PySem.Spec PyProof.Rows
abbrev SmallP (m : List ((Int × Int) × Int)) : Prop := ∀ q ∈ m, (0 ≤ q.1.1 ∧ q.1.1 < 4096) ∧ 0 ≤ q.1.2 ∧ q.1.2 < 10
theorem items_any {P P' : Program} {w w' : World} {ks : List Key} {vs : List Value} (h : ItemsAre (mixKind P w) ks vs) : ItemsAre (mixKind P' w') ks vs := by
  induction h with
  | nil => exact .nil
  | cons h _ ih => exact .cons h ih
theorem key_any {P P' : Program} {w w' : World} {h : Heap} {ks : List Key} {a : Addr} (x : IsTupleKey (mixKind P w) h ks a) : IsTupleKey (mixKind P' w') h ks a := by
  obtain ⟨o, its, n, h1, h2, h3, h4⟩ := x
  exact ⟨o, its, n, h1, h2, h3, items_any h4⟩
structure PPAt (h : Heap) (a : Addr) (m : List ((Int × Int) × Int)) (xs : List (List Key × Addr × Value)) : Prop where
  len : xs.length = m.length
  at_ : ∀ (i : Nat) q, m[i]? = some q → ∃ b t, xs[i]? = some ([.inl q.1.1, .inl q.1.2], b, .int q.2 t)
  dct : ∀ (P : Program) (w : World), h.DictOfH (tupleKind (mixKind P w)) a xs
theorem kt_len {H : Hp} {m : List ((Int × Int) × Int)} {xs : List (List Key × Addr × Value)} : ∀ (_ : KT H (ppK m) xs), xs.length = m.length := by
  intro r
  have : ∀ {l : List (List Key × V)} {ys : List (List Key × Addr × Value)}, KT H l ys → ys.length = l.length := by
    intro l ys r
    induction r with
    | nil => rfl
    | cons _ _ ih => rw [List.length_cons, List.length_cons, ih]
  rw [this r]
  unfold ppK
  rw [List.length_map]
theorem kt_at {H : Hp} {l : List (List Key × V)} {ys : List (List Key × Addr × Value)} (r : KT H l ys) : ∀ (i : Nat) p, l[i]? = some p → ∃ y, ys[i]? = some y ∧ p.1 = y.1 ∧ RelV p.2 y.2.2 := by
  induction r with
  | nil => intro i p h; cases h
  | cons h _ ih =>
    intro i p e
    cases i with
    | zero => cases e; exact ⟨_, rfl, h.1, h.2.2⟩
    | succ i => exact ih i p e
theorem pp_at {X : Cx} {pins : List (Addr × Obj)} {σ : St} {H : Hp} {s : Shared} {a : Addr} {m : List ((Int × Int) × Int)} (I : Inv X pins σ H s) (e : H a = some (.dT (ppK m))) : (a == sysModules) = false ∧ ∃ xs, KT H (ppK m) xs ∧ PPAt s.heap a m xs := by
  obtain ⟨z, y, xs, r, o, es, ep, h1, h2, h3, h4, h5, h6⟩ := dt_of I.hok e
  have at_ : ∀ (i : Nat) q, m[i]? = some q → ∃ b t, xs[i]? = some ([.inl q.1.1, .inl q.1.2], b, .int q.2 t) := fun i q hq => by
    obtain ⟨y, hy, e1, e2⟩ := kt_at r i ([.inl q.1.1, .inl q.1.2], V.int q.2) (by unfold ppK; rw [List.getElem?_map, hq]; rfl)
    obtain ⟨yk, yb, yv⟩ := y
    obtain ⟨t, et⟩ := e2
    subst e1 et
    exact ⟨yb, t, hy⟩
  refine ⟨y, xs, r, kt_len r, at_, fun P w => ⟨o, es, ep, h1, h2, h3, ?_, fun x hx => key_any (h5 x hx), h6⟩⟩
  rw [h4]
  refine List.map_congr_left fun x hx => ?_
  obtain ⟨i, hi, ex⟩ := List.getElem_of_mem hx
  have hi2 : i < m.length := by rw [← kt_len r]; exact hi
  obtain ⟨b, t, hb⟩ := at_ i m[i] (List.getElem?_eq_getElem hi2)
  rw [List.getElem?_eq_getElem hi, ex] at hb
  cases hb
  rfl
theorem one_at_most {α β : Type} {l : List α} {f : α → β} {p : α → Bool} (hn : (l.map f).Nodup) (h : ∀ x ∈ l, ∀ y ∈ l, p x = true → p y = true → f x = f y) : (l.filter p).length ≤ 1 := by
  have hs : ((l.filter p).map f).Nodup := hn.sublist ((List.filter_sublist (p := p) (l := l)).map f)
  cases e : l.filter p with
  | nil => exact Nat.zero_le _
  | cons x r =>
    cases r with
    | nil => exact Nat.le_refl _
    | cons y r =>
      have hx : x ∈ l.filter p := by rw [e]; exact List.mem_cons_self
      have hy : y ∈ l.filter p := by rw [e]; exact List.mem_cons_of_mem _ List.mem_cons_self
      rw [e, List.map_cons, List.map_cons, List.nodup_cons] at hs
      rw [List.mem_filter] at hx hy
      exact absurd (by rw [h x hx.1 y hy.1 hx.2 hy.2]; exact List.mem_cons_self) hs.1
theorem cd_dictPP {X : Cx} {m : List ((Int × Int) × Int)} (hm : SmallP m) : CD X (.type "dict") [.dict (ppE m)] (.dict (ppE m)) := by
  intro pins s σ H xs' us Q I r hq
  obtain ⟨hv, q⟩ := hq
  obtain ⟨v, rfl, dv⟩ := hv.one
  obtain ⟨a, m', rfl, ha, em⟩ := dv.of_pp
  have em := ppE_inj em
  subst em
  obtain ⟨u, rfl, rx⟩ := vals1 r
  cases rx
  obtain ⟨z, hb⟩ : (ppK m').length ≤ sizeLine ∧ True := ⟨(dt_of I.hok ha).1, trivial⟩
  obtain ⟨hS, xs, kt, pp⟩ := pp_at I ha
  obtain ⟨o, es, ep, h1, h2, h3, h4, h5, h6⟩ := pp.dct X.prog X.w
  have hkey : ∀ x ∈ xs, ∃ i j : Int, (0 ≤ i ∧ i < 4096) ∧ (0 ≤ j ∧ j < 10) ∧ x.1 = [.inl i, .inl j] := fun x hx => by
    obtain ⟨i, hi, ex⟩ := List.getElem_of_mem hx
    have hi2 : i < m'.length := by rw [← pp.len]; exact hi
    obtain ⟨b, t, hb⟩ := pp.at_ i m'[i] (List.getElem?_eq_getElem hi2)
    rw [List.getElem?_eq_getElem hi, ex] at hb
    cases hb
    have := hm _ (List.getElem_mem hi2)
    exact ⟨_, _, this.1, this.2, rfl⟩
  have hz : es.size ≤ sizeLine := by
    have e1 : es.size = xs.length := size_of_entries h4
    have e2 := pp.len
    unfold ppK at z
    rw [List.length_map] at z
    omega
  refine call_dictH (knd := mixKind X.prog X.w) hS h1 h2 h3 h4 h5 (fun e he => ?_) hz fun h' on ep' g1 g2 g3 kp => ?_
  · have e1 : (es.filter (·.hash == e.hash)).size = ((xs.map (entryOfKey (tupleKind (mixKind X.prog X.w)))).filter (·.hash == e.hash)).length := by
      rw [← h4, ← Array.length_toList, Array.toList_filter]
    rw [e1, List.filter_map, List.length_map]
    refine one_at_most h6 fun x hx y hy p1 p2 => ?_
    obtain ⟨i, j, hi, hj, ex⟩ := hkey x hx
    obtain ⟨i', j', hi', hj', ey⟩ := hkey y hy
    have q1 : tupleKeyHash (mixKind X.prog X.w) x.1 = e.hash := eq_of_beq p1
    have q2 : tupleKeyHash (mixKind X.prog X.w) y.1 = e.hash := eq_of_beq p2
    rw [ex] at q1
    rw [ey] at q2
    have q3 : hPr i j = hPr i' j' := q1.trans q2.symm
    obtain ⟨rfl, rfl⟩ := hPr_inj hi.1 hi.2 hj.1 hj.2 hi'.1 hi'.2 hj'.1 hj'.2 q3
    rw [ex, ey]
  · have hb := I.big
    have fr : H s.heap.objs.size = none := I.hok.fresh (Nat.le_refl _)
    refine ⟨.ref s.heap.objs.size, _, I.laid (a := s.heap.objs.size) (o := .dT (ppK m')) (t' := s.toks) kp (Nat.le_refl _) ⟨z, beq_eq_false_iff_ne.mpr (Ne.symm (Nat.ne_of_lt hb)), xs, KT.keeps kt fun b ys hh => ?_, on, es, ep', g1, g2, g3, h4, h6⟩, rfl, q _ _ (Same.new fr) (.dtt upd_same)⟩
    rw [upd_ne (ne_of_none hh fr)]
    exact hh
section
variable {prog : Program} {w : World} {A : Around} {E : Value → Shared → Prop} {s : Shared}
theorem samePP {nm : String} {a b : Addr} {m : List ((Int × Int) × Int)} {xs ys : List (List Key × Addr × Value)} {Q : Bool → Shared → Prop} (ha : (a == sysModules) = false) (hb : (b == sysModules) = false) (hu : A.units < cLine)
    (da : PPAt s.heap a m xs) (db : PPAt s.heap b m ys) (h : Q true s) : wpAny (model prog w) A (Builtin.Dict.samePairs nm a b) Q E s := by
  obtain ⟨oa, es, ep, hoa, _, hda, hea, hka, hna⟩ := da.dct prog w
  obtain ⟨ob, es', ep', hob, _, hdb, heb, hkb, hnb⟩ := db.dct prog w
  have hla : es.size = m.length := by rw [size_of_entries hea, da.len]
  have hlb : es'.size = m.length := by rw [size_of_entries heb, db.len]
  unfold Builtin.Dict.samePairs Builtin.Dict.showsAll
  rw [if_neg (show ¬ (a == sysModules) = true by rw [ha]; exact Bool.false_ne_true), if_neg (show ¬ (b == sysModules) = true by rw [hb]; exact Bool.false_ne_true)]
  refine wpAny_bind (wpAny_pure (wpAny_bind (wpAny_pure ?_)))
  refine wpAny_bind (wpAny_dictEntries hoa hda ?_)
  dsimp only
  refine wpAny_bind (wpAny_dictEntries hob hdb ?_)
  rw [if_neg (by rw [hla, hlb]; simp)]
  refine wpAny_bind (wpAny_dictEpoch hoa hda ?_)
  refine wpAny_bind ?_
  rw [Std.Legacy.Range.forIn_eq_forIn_range']
  simp only [Std.Legacy.Range.size, Nat.sub_zero, Nat.add_sub_cancel, Nat.div_one]
  refine wpAny_forIn_list _ (fun rest q s' => s' = s ∧ q = (none, ()) ∧ ∃ i, rest = List.range' i (es.size - i) ∧ i ≤ es.size) _ ?_ ?_ _ _ ⟨rfl, rfl, 0, by simp, Nat.zero_le _⟩
  · rintro x rest q s' ⟨rfl, rfl, i, hr, hi⟩
    have hlt : i < es.size := by
      rcases Nat.lt_or_ge i es.size with h | h
      · exact h
      · rw [Nat.sub_eq_zero_of_le h] at hr; simp at hr
    obtain ⟨rfl, hrest⟩ : x = i ∧ rest = List.range' (i + 1) (es.size - (i + 1)) := by
      have e : es.size - i = (es.size - (i + 1)) + 1 := by omega
      rw [e, List.range'_succ] at hr
      injection hr with h1 h2
      exact ⟨h1, h2⟩
    have hlm : x < m.length := by omega
    obtain ⟨b1, t1, g1⟩ := da.at_ x m[x] (List.getElem?_eq_getElem hlm)
    obtain ⟨b2, t2, g2⟩ := db.at_ x m[x] (List.getElem?_eq_getElem hlm)
    have ex : es[x]? = some (entryOfKey (tupleKind (mixKind prog w)) ([.inl m[x].1.1, .inl m[x].1.2], b1, .int m[x].2 t1)) := by rw [entry_at hea x, g1]; rfl
    refine wpAny_bind (wpAny_dictEntries hoa hda ?_)
    rw [ex]
    show wpAny _ _ (holding [Value.ref b1, Value.int m[x].2 t1] _ >>= _) _ _ _
    refine wpAny_bind (wpAny_holding (wpAny_bind (wpAny_dictFind_heap (knd := tupleKind (mixKind prog w)) (k := [.inl m[x].1.1, .inl m[x].1.2]) hu (hka _ (List.mem_of_getElem? g1)) hob hdb heb hkb hnb (fun no => absurd g2 (no x _)) fun j p hj => ?_)))
    have ej : j = x := idxH_unique hnb hj g2
    subst ej
    rw [g2] at hj
    injection hj with hj
    injection hj with _ hj
    subst hj
    have ey : es'[j]? = some (entryOfKey (tupleKind (mixKind prog w)) ([.inl m[j].1.1, .inl m[j].1.2], b2, .int m[j].2 t2)) := by rw [entry_at heb j, g2]; rfl
    refine wpAny_bind (wpAny_dictEntries hob hdb ?_)
    rw [ey]
    refine wpAny_holding (SeqAt.EqAt.int_int m[j].2 t1 m[j].2 t2 prog w _ _ ?_)
    rw [beq_self_eq_true]
    show wpAny _ _ (if (!true) = true then _ else _) _ _ _
    rw [if_neg (by decide)]
    refine wpAny_bind (wpAny_dictEpoch hoa hda ?_)
    rw [if_neg (by simp)]
    exact wpAny_pure ⟨rfl, rfl, j + 1, hrest, hlt⟩
  · rintro q s' ⟨rfl, rfl, i, hr, hi⟩
    exact wpAny_pure h
end
theorem rc_PP {A : Around} {s : Shared} {a b : Addr} {m : List ((Int × Int) × Int)} {xs ys : List (List Key × Addr × Value)} (ha : (a == sysModules) = false) (hb : (b == sysModules) = false) (hu : A.units + 1 < cLine)
    (da : PPAt s.heap a m xs) (db : PPAt s.heap b m ys) : SeqAt.RcAt A s (.ref a) (.ref b) true := fun prog w E Q h => by
  have ta := (da.dct prog w).typeIs
  have tb := (db.dct prog w).typeIs
  refine wpAny_richCompare_same_room (op := .Eq) ta tb PySem.F.slot_dict_eq (wpAny_call_entry PySem.F.slot_dict_eq ta PySem.F.entry_dict_eq ?_ (PySem.F.args_dict_eq_2 _ _)) (by omega)
  show wpAny _ _ (Builtin.Dict.dictSlotArgs "__eq__" ⟨[.ref a, .ref b], []⟩ >>= _) _ _ s
  refine wpAny_bind ?_
  unfold Builtin.Dict.dictSlotArgs
  refine wpAny_bind (wpAny_notOrdered_dict ta ?_)
  show wpAny _ _ (pure (Value.ref a, Value.ref b)) _ _ s
  refine wpAny_pure ?_
  refine wpAny_bind (wpAny_isInstance (T := "dict") tb PySem.F.sub_dict_dict ?_)
  simp only [Bool.not_true, Bool.false_eq_true, if_false]
  refine wpAny_bind (wpAny_pure (wpAny_bind (wpAny_pure ?_)))
  refine wpAny_bind (samePP ha hb hu da db ?_)
  refine wpAny_pure ⟨_, rfl, ?_, ?_⟩
  · exact fun x => nomatch x
  · exact h
theorem eq_PP {A : Around} {s : Shared} {a b : Addr} {m : List ((Int × Int) × Int)} {xs ys : List (List Key × Addr × Value)} (ha : (a == sysModules) = false) (hb : (b == sysModules) = false) (hu : A.units + 1 < cLine)
    (da : PPAt s.heap a m xs) (db : PPAt s.heap b m ys) : SeqAt.EqAt A s (.ref a) (.ref b) true := by
  by_cases e : a = b
  · subst e; exact SeqAt.EqAt.same _
  · exact SeqAt.EqAt.of_refs e (rc_PP ha hb hu da db)
theorem three {K : PySem.W.Frag} {H : Hp} {vs : List V} {d1 d2 d3 : PyData} (h : DVs K H vs [d1, d2, d3]) : ∃ x y z, vs = [x, y, z] ∧ DV K H x d1 ∧ DV K H y d2 ∧ DV K H z d3 := by
  cases h with
  | cons h t =>
    obtain ⟨y, z, rfl, h2, h3⟩ := t.two
    exact ⟨_, y, z, rfl, h, h2, h3⟩
theorem valsT3 {a b c : V} {us : List Value} (r : Vals [a, b, c] us) : ∃ x y z, us = [x, y, z] ∧ RelV a x ∧ RelV b y ∧ RelV c z := by
  cases r with
  | cons h t =>
    obtain ⟨y, z, rfl, h2, h3⟩ := vals2 t
    exact ⟨_, y, z, rfl, h, h2, h3⟩
theorem od_eqPP {X : Cx} {d1 d2 : PyData} {m : List ((Int × Int) × Int)} (hu : X.A.units + 64 < cLine) (h1 : d1.canLay0 = true) (h2 : d2.canLay0 = true) (p1 : d1.depth ≤ 60) (p2 : d2.depth ≤ 60) (e1 : PyData.eqv d1 d1 = true) (e2 : PyData.eqv d2 d2 = true) : OD X (compareOp .Eq) (.list [d1, d2, .dict (ppE m)]) (.list [d1, d2, .dict (ppE m)]) (.bool true) := by
  intro pins s σ H x y v u Q I rx ry ⟨dx, dy, q⟩
  obtain ⟨a, vs, rfl, ha, da⟩ := dx.of_lst
  obtain ⟨b, ws, rfl, hb, db⟩ := dy.of_lst
  cases rx
  cases ry
  obtain ⟨x1, x2, x3, rfl, dx1, dx2, dx3⟩ := three da
  obtain ⟨y1, y2, y3, rfl, dy1, dy2, dy3⟩ := three db
  obtain ⟨its, r, pl, _⟩ := I.list ha
  obtain ⟨its', r', pl', _⟩ := I.list hb
  obtain ⟨u1, u2, u3, rfl, r1, r2, r3⟩ := valsT3 r
  obtain ⟨w1, w2, w3, rfl, q1, q2, q3⟩ := valsT3 r'
  obtain ⟨as1, rd1⟩ := dx1.reads I r1 h1
  obtain ⟨as2, rd2⟩ := dx2.reads I r2 h2
  obtain ⟨bs1, rd3⟩ := dy1.reads I q1 h1
  obtain ⟨bs2, rd4⟩ := dy2.reads I q2 h2
  obtain ⟨a3, m3, rfl, k3, em3⟩ := dx3.of_pp
  obtain ⟨b3, m4, rfl, k4, em4⟩ := dy3.of_pp
  have em3 := ppE_inj em3
  have em4 := ppE_inj em4
  subst em3
  subst em4
  cases r3
  cases q3
  obtain ⟨sa, xs, _, pa⟩ := pp_at I k3
  obtain ⟨sb, ys, _, pb⟩ := pp_at I k4
  refine SeqAt.eq_listAt (e := fun _ => true) pl.isList pl'.isList rfl (by omega) (fun j j1 j2 => ?_) ⟨.bl true, H, I, ?_, q _ H (Same.refl H) (.bl true)⟩
  · have hA : X.A.in1.units = X.A.units + 1 := rfl
    match j, j1 with
    | 0, _ => exact e1 ▸ SeqAt.eqAt_reads d1 d1 X.A.in1 s u1 w1 as1 bs1 rd1 rd3 h1 h1 (by rw [hA]; omega)
    | 1, _ => exact e2 ▸ SeqAt.eqAt_reads d2 d2 X.A.in1 s u2 w2 as2 bs2 rd2 rd4 h2 h2 (by rw [hA]; omega)
    | 2, _ => exact eq_PP sa sb (by rw [hA]; omega) pa pb
  · rfl
end L2
set_option maxRecDepth 100000
set_option maxHeartbeats 1000000
namespace My
open PySem L2
local macro_rules | `(tactic| walk_at "dn") => `(tactic| first | decide | omega)
local macro_rules | `(tactic| walk_at "od") => `(tactic| first
  | exact od_add | exact od_sub | exact od_xor | exact od_lt | exact od_le | exact od_gt | exact od_ge
  | exact od_mod (by walk_at "dn") | exact od_fdiv ⟨by walk_at "dn", by walk_at "dn"⟩
  | exact od_mul (by first | exact Or.inl ⟨by walk_at "dn", by walk_at "dn"⟩ | exact Or.inr ⟨by walk_at "dn", by walk_at "dn"⟩)
  | exact od_pow ⟨by decide, by decide, by decide⟩
  | exact od_catL (by walk_at "sz") | exact od_catT (by simp) (by walk_at "sz")
  | exact od_in (.inl rfl) (by rfl) (by rfl) (by rfl) | exact od_in (.inr rfl) (by rfl) (by rfl) (by rfl)
  | exact od_notIn (.inl rfl) (by rfl) (by rfl) (by rfl) | exact od_notIn (.inr rfl) (by rfl) (by rfl) (by rfl)
  | exact od_eq (by walk_at "un") (by walk_at "cl") (by walk_at "cl") (by walk_at "dp") (by rfl)
  | exact od_ne (by walk_at "un") (by walk_at "cl") (by walk_at "cl") (by walk_at "dp") (by rfl))
local macro_rules | `(tactic| walk_at "sz") => `(tactic| first | decide | (rw [sizeLine_eq]; decide) | (rw [sizeLine_eq]; simp; done) | (rw [sizeLine_eq]; simp; omega) | (rw [sizeLine_eq]; omega))
local macro_rules | `(tactic| walk_at "bf") => `(tactic| (intro h; first | rfl | cases h))
local macro_rules | `(tactic| walk_at "rm") => `(tactic| exact Room.mono (by assumption) (by decide))
local macro_rules | `(tactic| walk_at "un") => `(tactic| exact Room.units (by assumption))
local macro_rules | `(tactic| walk_at "cl") => `(tactic| first | rfl | decide +kernel | (simp [PyData.canLay0, PyData.canLayAll0]; done))
local macro_rules | `(tactic| walk_at "dp") => `(tactic| first | (simp [PyData.depth, PyData.depthAll]; done) | decide)
local macro_rules | `(tactic| walk_at "rg") => `(tactic| first | decide | omega)
local macro_rules | `(tactic| walk_at "at") => `(tactic| first | rfl | exact atI_of (by walk_at "dn") (by rfl) | exact at_ints (by walk_at "dn") (by walk_at "dn"))
local macro_rules | `(tactic| walk_at "cd") => `(tactic| first | exact cd_lenL | exact cd_lenT | exact cd_lenS (by decide) | exact cd_all rfl | exact cd_tupleL | exact cd_listL | exact cd_listT | exact cd_intB | exact cd_max rfl | exact cd_min rfl | exact cd_sum rfl)
local macro_rules | `(tactic| walk_at "fn") => `(tactic| first | exact ⟨_, rfl, rfl⟩ | exact ⟨_, _, rfl, rfl⟩ | exact ⟨_, _, _, rfl, rfl⟩)
def top (i : Nat) : Stmt := PySem.Challenge.pw_likewise_k21_whole_worths.main.body.getD i (.Pass ⟨0, 0, 0, 0⟩)
abbrev s_number_term : Stmt := top 4
abbrev s_is_number : Stmt := top 5
abbrev s_term_of : Stmt := top 6
abbrev s_plus : Stmt := top 7
abbrev s_so_many : Stmt := top 8
abbrev s_minus : Stmt := top 9
abbrev s_added_up : Stmt := top 10
abbrev s_atom_worth : Stmt := top 11
abbrev s_law_whole : Stmt := top 14
abbrev s_law_cell : Stmt := top 15
abbrev s_law_word : Stmt := top 16
abbrev s_law_state : Stmt := top 17
abbrev s_law_step : Stmt := top 18
abbrev s_law_right : Stmt := top 19
abbrev s_law : Stmt := top 20
theorem sc_number_term : FnScope ["n"] ["n"] (defScope s_number_term) := ⟨rfl, rfl, rfl, by decide +kernel, rfl, by decide +kernel, by decide +kernel⟩
theorem sc_is_number : FnScope ["t"] ["t"] (defScope s_is_number) := ⟨rfl, rfl, rfl, by decide +kernel, rfl, by decide +kernel, by decide +kernel⟩
theorem sc_term_of : FnScope ["number", "counted", "parts"] ["number", "counted"] (defScope s_term_of) := ⟨rfl, rfl, rfl, by decide +kernel, rfl, by decide +kernel, by decide +kernel⟩
theorem sc_plus : FnScope ["t", "u", "counted", "atom", "many"] ["t", "u"] (defScope s_plus) := ⟨rfl, rfl, rfl, by decide +kernel, rfl, by decide +kernel, by decide +kernel⟩
theorem sc_so_many : FnScope ["t", "n", "counted"] ["t", "n"] (defScope s_so_many) := ⟨rfl, rfl, rfl, by decide +kernel, rfl, by decide +kernel, by decide +kernel⟩
theorem sc_minus : FnScope ["t", "u"] ["t", "u"] (defScope s_minus) := ⟨rfl, rfl, rfl, by decide +kernel, rfl, by decide +kernel, by decide +kernel⟩
theorem sc_added_up : FnScope ["t", "words"] ["t", "words"] (defScope s_added_up) := ⟨rfl, rfl, rfl, by decide +kernel, rfl, by decide +kernel, by decide +kernel⟩
theorem sc_atom_worth : FnScope ["atom", "words", "boxes", "truths", "reads", "kind", "one", "two"] ["atom", "words", "boxes", "truths", "reads"] (defScope s_atom_worth) := ⟨rfl, rfl, rfl, by decide +kernel, rfl, by decide +kernel, by decide +kernel⟩
theorem sc_law_whole : FnScope ["found"] ["found"] (defScope s_law_whole) := ⟨rfl, rfl, rfl, by decide +kernel, rfl, by decide +kernel, by decide +kernel⟩
theorem sc_law_cell : FnScope ["script", "k", "cell", "stir", "other", "more"] ["script", "k"] (defScope s_law_cell) := ⟨rfl, rfl, rfl, by decide +kernel, rfl, by decide +kernel, by decide +kernel⟩
theorem sc_law_word : FnScope ["cell", "k"] ["cell", "k"] (defScope s_law_word) := ⟨rfl, rfl, rfl, by decide +kernel, rfl, by decide +kernel, by decide +kernel⟩
theorem sc_law_state : FnScope ["script", "boxes", "truths", "reads", "k", "cell"] ["script"] (defScope s_law_state) := ⟨rfl, rfl, rfl, by decide +kernel, rfl, by decide +kernel, by decide +kernel⟩
theorem sc_law_step : FnScope ["table", "told", "worths", "cell", "state", "way", "j", "i", "one", "other", "n"] ["table", "told", "worths", "cell", "state"] (defScope s_law_step) := ⟨rfl, rfl, rfl, by decide +kernel, rfl, by decide +kernel, by decide +kernel⟩
theorem sc_law_right : FnScope ["table", "t", "state", "due", "handed", "found"] ["table", "t", "state", "due"] (defScope s_law_right) := ⟨rfl, rfl, rfl, by decide +kernel, rfl, by decide +kernel, by decide +kernel⟩
theorem sc_law : FnScope ["script", "states", "table", "told", "worths", "k", "cell", "t", "due", "again", "other"] ["script"] (defScope s_law) := ⟨rfl, rfl, rfl, by decide +kernel, rfl, by decide +kernel, by decide +kernel⟩
abbrev s_Table_init : Stmt := inClass (top 12) 0
theorem sc_Table_init : FnScope ["self"] ["self"] (defScope s_Table_init) := ⟨rfl, rfl, rfl, by decide +kernel, rfl, by decide +kernel, by decide +kernel⟩
abbrev s_Table_many : Stmt := inClass (top 12) 1
abbrev s_Table_atom_term : Stmt := inClass (top 12) 2
theorem sc_Table_atom_term : FnScope ["self", "atom"] ["self", "atom"] (defScope s_Table_atom_term) := ⟨rfl, rfl, rfl, by decide +kernel, rfl, by decide +kernel, by decide +kernel⟩
abbrev s_Table_atom_of_two : Stmt := inClass (top 12) 3
theorem sc_Table_atom_of_two : FnScope ["self", "kind", "t", "u"] ["self", "kind", "t", "u"] (defScope s_Table_atom_of_two) := ⟨rfl, rfl, rfl, by decide +kernel, rfl, by decide +kernel, by decide +kernel⟩
abbrev s_Table_box : Stmt := inClass (top 12) 4
theorem sc_Table_box : FnScope ["self", "k"] ["self", "k"] (defScope s_Table_box) := ⟨rfl, rfl, rfl, by decide +kernel, rfl, by decide +kernel, by decide +kernel⟩
abbrev s_Table_truth : Stmt := inClass (top 12) 5
theorem sc_Table_truth : FnScope ["self", "k"] ["self", "k"] (defScope s_Table_truth) := ⟨rfl, rfl, rfl, by decide +kernel, rfl, by decide +kernel, by decide +kernel⟩
abbrev s_Table_cell : Stmt := inClass (top 12) 7
theorem sc_Table_cell : FnScope ["self", "t", "stores"] ["self", "t", "stores"] (defScope s_Table_cell) := ⟨rfl, rfl, rfl, by decide +kernel, rfl, by decide +kernel, by decide +kernel⟩
abbrev s_Table_both : Stmt := inClass (top 12) 8
theorem sc_Table_both : FnScope ["self", "t", "u"] ["self", "t", "u"] (defScope s_Table_both) := ⟨rfl, rfl, rfl, by decide +kernel, rfl, by decide +kernel, by decide +kernel⟩
abbrev s_Table_unlike : Stmt := inClass (top 12) 9
theorem sc_Table_unlike : FnScope ["self", "t", "u"] ["self", "t", "u"] (defScope s_Table_unlike) := ⟨rfl, rfl, rfl, by decide +kernel, rfl, by decide +kernel, by decide +kernel⟩
abbrev s_Table_product : Stmt := inClass (top 12) 10
theorem sc_Table_product : FnScope ["self", "t", "u"] ["self", "t", "u"] (defScope s_Table_product) := ⟨rfl, rfl, rfl, by decide +kernel, rfl, by decide +kernel, by decide +kernel⟩
abbrev s_Table_worth : Stmt := inClass (top 12) 11
theorem sc_Table_worth : FnScope ["self", "t", "boxes", "truths", "reads", "needed", "words", "atom"] ["self", "t", "boxes", "truths", "reads"] (defScope s_Table_worth) := ⟨rfl, rfl, rfl, by decide +kernel, rfl, by decide +kernel, by decide +kernel⟩
structure Txt (mg : Str → Option Value) : Prop where
  b_len : mg "len" = none
  b_isinstance : mg "isinstance" = none
  b_int : mg "int" = none
  b_bool : mg "bool" = none
  b_list : mg "list" = none
  b_tuple : mg "tuple" = none
  b_range : mg "range" = none
  b_sorted : mg "sorted" = none
  b_dict : mg "dict" = none
  b_min : mg "min" = none
  b_max : mg "max" = none
  b_sum : mg "sum" = none
section
variable {P : Program} {w : World} {K : PySem.W.Frag} {mg : Str → Option Value} {base : Heap}
local macro_rules | `(tactic| walk_at "u1") => `(tactic| exact Nat.lt_of_le_of_lt (Nat.add_le_add_left (by decide) _) (Room.units (by assumption)))
theorem eqv_i (a b : Int) : PyData.eqv (.int a) (.int b) = decide (a = b) := by
  show PyData.eqv (keyD (.inl a)) (keyD (.inl b)) = _
  rw [keyD_eqv]
  by_cases h : a = b
  · subst h; simp
  · rw [decide_eq_false h, decide_eq_false fun z => h (Sum.inl.inj z)]
theorem insI_len (x : Int) : ∀ l : List Int, (insI x l).length ≤ l.length + 1
  | [] => Nat.le_refl _
  | a :: r => by
    unfold insI
    split
    · exact Nat.le_refl _
    · split
      · exact Nat.le_succ _
      · have := insI_len x r
        simp only [List.length_cons]
        omega
theorem srtI_len : ∀ l : List Int, (srtI l).length ≤ l.length
  | [] => Nat.le_refl _
  | a :: r => by
    have h1 := insI_len a (srtI r)
    have h2 := srtI_len r
    show (insI a (srtI r)).length ≤ r.length + 1
    omega
def F_num (ds : List PyData) (d : PyData) : Prop := ∃ n : Int, ds = [.int n] ∧ d = tmD (numT n)
theorem d_number_term {f : Addr} {fd : FuncData} (F : Fun K "number_term" "number_term" s_number_term f fd) (hm : mg "number_term" = some (.ref f)) : DFn P w K mg base 1 "number_term" F_num := by
  refine F.data hm (F.binds fun _ _ _ _ _ _ us hl => match us, hl with | [_], _ => rfl) sc_number_term (fun ds d ⟨_, e, _⟩ => by rw [e]; rfl) fun cdv A outer s H E ds d hr ⟨n, e, e2⟩ => ?_
  subst e e2
  show SVs _ _ _ (.ret (.tuple [.int (n % 4096), .tuple []]))
  exact svs_ret (sv_ret (ev_tup (av_cons (ev_bin (ev_var 0 (by rfl) (pv 0)) ev_int (by walk_at "od")) (av_cons (ev_tup av_nil (by walk_at "sz")) av_nil)) (by walk_at "sz")))
def F_isn (ds : List PyData) (d : PyData) : Prop := ∃ (t : Tm) (k : Bool), ds = [tmD t] ∧ (k = true ↔ t.2 = []) ∧ d = .bool k
theorem d_is_number (T : Txt mg) {f : Addr} {fd : FuncData} (F : Fun K "is_number" "is_number" s_is_number f fd) (hm : mg "is_number" = some (.ref f)) : DFn P w K mg base 1 "is_number" F_isn := by
  refine F.data hm (F.binds fun _ _ _ _ _ _ us hl => match us, hl with | [_], _ => rfl) sc_is_number (fun ds d ⟨_, _, e, _⟩ => by rw [e]; rfl) fun cdv A outer s H E ds d hr ⟨t, k, e, hk, e2⟩ => ?_
  subst e e2
  obtain ⟨w0, m⟩ := t
  have e : PyData.bool (PyData.eqv (.int ((m.map pairD).length : Nat)) (.int 0)) = .bool k := by
    rw [eqv_i, List.length_map]
    congr 1
    rw [Bool.eq_iff_iff, decide_eq_true_iff, hk]
    constructor
    · intro h
      have h : (m.length : Int) = 0 := h
      exact List.eq_nil_of_length_eq_zero (l := m) (by omega)
    · intro h
      simp only at h
      rw [h]; rfl
  exact svs_ret (sv_ret (ev_eq (ev_cmp (ev_callB2 "len" (av_cons (ev_ixT (ds := [.int w0, .tuple (m.map pairD)]) (ev_var 0 (by rfl) (pv 0)) ev_int rfl) av_nil) cd_lenT rfl T.b_len (by decide +kernel)) ev_int (od_eq (by walk_at "un") rfl rfl (by walk_at "dp") rfl) (nomark _)) e))
def F_tof (ds : List PyData) (d : PyData) : Prop := ∃ (n : Int) (m : List (Int × Int)), ds = [.int n, .dict (dI m)] ∧ m.length < 64 ∧ d = tmD (made n m)
theorem has_of {m : List (Int × Int)} {a : Int} (h : a ∈ srtI (kys m)) : hasI m a = true := (hasI_iff m a).mpr ((srtI_mem a _).mp h)
theorem d_term_of (T : Txt mg) {f : Addr} {fd : FuncData} (F : Fun K "term_of" "term_of" s_term_of f fd) (hm : mg "term_of" = some (.ref f)) : DFn P w K mg base 1 "term_of" F_tof := by
  refine F.data hm (F.binds fun _ _ _ _ _ _ us hl => match us, hl with | [_, _], _ => rfl) sc_term_of (fun ds d ⟨_, _, e, _⟩ => by rw [e]; rfl) fun cdv A outer s H E ds d hr ⟨n, m, e, hl, e2⟩ => ?_
  subst e e2
  have hz : (dI m).length < 64 := by rw [dI_len]; exact hl
  have hsl : (srtI (kys m)).length ≤ 63 := by
    have := srtI_len (kys m)
    rw [List.length_map] at this
    omega
  refine svs_cons (sv_setComp (ix := [1]) (N := ["atom", "counted"]) (B := bind1) (as := srtI (kys m)) (D := PyData.int) (fun a => !decide (getI m a % 4096 = 0)) (fun a => pairD (a, getI m a % 4096)) rfl sc_term_of.nd (i := 2) rfl rfl (of_decide_eq_true (by kernel_rfl)) (own_name (by decide))
    (iv_list (ev_eq (evf_ev (evf_sortedD rfl (ev_var 1 (by rfl) (pv 1)) (dI_ints m) (dI_exc m) hz rfl T.b_sorted)) (by rw [dI_keys]))) (by rw [sizeLine_eq]; omega) (fun _ _ => bindD1 _) (fun _ _ _ _ _ => pg_name (i := 0) (show List.Nodup (["atom", "counted"] : List Str) by decide +kernel) rfl (Or.inl rfl))
    (fun a ha cl C s H fp => pf_D1 (tv_cmp (ev_bin (ev_atI (m := m) (by walk_at "u1") (ev_var 1 (by rfl) (pv 1)) (ev_var 0 (by rfl) (pv 0)) (has_of ha) (fun _ _ => rfl)) ev_int (by walk_at "od")) ev_int (od_ne (by walk_at "un") rfl rfl (by walk_at "dp") (by rw [eqv_i])) (nomark _)))
    (fun a ha hP cl C s H fp => ev_tup (av_cons (ev_var 0 (by rfl) (pv 0)) (av_cons (ev_bin (ev_atI (m := m) (by walk_at "u1") (ev_var 1 (by rfl) (pv 1)) (ev_var 0 (by rfl) (pv 0)) (has_of ha) (fun _ _ => rfl)) ev_int (by walk_at "od")) av_nil)) (by walk_at "sz"))) ?_
  refine svs_ret (sv_ret (ev_eq (ev_tup (av_cons (ev_bin (ev_var 0 (by rfl) (pv 0)) ev_int (by walk_at "od")) (av_cons (ev_callTy2 "tuple" (av_cons (ev_var 2 (by rfl) (pv 2)) av_nil) (by walk_at "cd") rfl T.b_tuple (by decide +kernel)) av_nil)) (by walk_at "sz")) ?_))
  unfold made tmD
  rw [List.map_map]
  rfl
end
section
variable {P : Program} {w : World} {K : PySem.W.Frag} {mg : Str → Option Value} {base : Heap}
local macro_rules | `(tactic| walk_at "u1") => `(tactic| exact Nat.lt_of_le_of_lt (Nat.add_le_add_left (by decide) _) (Room.units (by assumption)))
theorem addI_take {m u : List (Int × Int)} {k : Nat} {q : Int × Int} {n : Int} (h : u[k]? = some q) : addI m (u.take (k + 1)) n = L2.stepI n (addI m (u.take k) n) q := by
  unfold addI
  rw [List.take_add_one, h, List.foldl_append]
  rfl
theorem mem_take_kys {u : List (Int × Int)} {k : Nat} {x : Int} (h : x ∈ kys (u.take k)) : x ∈ kys u := by
  obtain ⟨q, hq, e⟩ := List.mem_map.mp h
  exact List.mem_map.mpr ⟨q, List.mem_of_mem_take hq, e⟩
theorem addI_few {t u : Tm} {n : Int} (ht : Wf t) (hu : Wf u) (k : Nat) : (addI t.2 (u.2.take k) n).length ≤ 63 := few_keys (addI_nodup n _ _ ht.nodup) fun a ha => by
  rcases addI_mem n _ _ ha with h | h
  · exact ht.at_ a h
  · exact hu.at_ a (mem_take_kys h)
theorem pairs_map (m : List (Int × Int)) : m.map pairD = (m.map fun q => [PyData.int q.1, .int q.2]).map PyData.tuple := by
  rw [List.map_map]
  rfl
theorem noKs_pairs : ∀ m : List (Int × Int), noKs (m.map pairD) = true
  | [] => rfl
  | q :: m => by
    rw [List.map_cons]
    unfold noKs
    rw [noKs_pairs m]
    rfl
theorem pairs_at {m : List (Int × Int)} {k : Nat} {l : List PyData} (h : (m.map fun q => [PyData.int q.1, .int q.2])[k]? = some l) : ∃ q, m[k]? = some q ∧ l = [.int q.1, .int q.2] := by
  rw [List.getElem?_map] at h
  obtain ⟨q, e1, e2⟩ := Option.map_eq_some_iff.mp h
  exact ⟨q, e1, e2.symm⟩
def F_plus (ds : List PyData) (d : PyData) : Prop := ∃ t u : Tm, Wf t ∧ Wf u ∧ ds = [tmD t, tmD u] ∧ d = tmD (plusT t u)
theorem d_plus (T : Txt mg) (D_term_of : DFn P w K mg base 1 "term_of" F_tof) {f : Addr} {fd : FuncData} (F : Fun K "plus" "plus" s_plus f fd) (hm : mg "plus" = some (.ref f)) : DFn P w K mg base 2 "plus" F_plus := by
  refine F.data hm (F.binds fun _ _ _ _ _ _ us hl => match us, hl with | [_, _], _ => rfl) sc_plus (fun ds d ⟨_, _, _, _, e, _⟩ => by rw [e]; rfl) fun cdv A outer s H E ds d hr ⟨t, u, ht, hu, e, e2⟩ => ?_
  subst e e2
  obtain ⟨n, m⟩ := t
  obtain ⟨n2, m2⟩ := u
  refine svs_ownDP (i := 2) (m := m) sc_plus.nd rfl (Or.inl rfl) (show 2 < 5 by decide) (evk_dict rfl (ev_ixT (ds := [.int n, .tuple (m.map pairD)]) (ev_var 0 (by rfl) (pv 0)) ev_int rfl) (.inl rfl) ht.nodup (by have : m.length ≤ 63 := ht.few; rw [sizeLine_eq]; omega) rfl T.b_dict) fun H0 p => ?_
  refine krs_cons (Mid := fun G es => (∃ a b, G = [some (tmD (n, m)), some (tmD (n2, m2)), none, a, b]) ∧ es = dI (addI m m2 1)) (kt_forP (is := [3, 4]) (xs := m2.map fun q => [PyData.int q.1, .int q.2]) (fun k G es => (∃ a b, G = [some (tmD (n, m)), some (tmD (n2, m2)), none, a, b]) ∧ es = dI (addI m (m2.take k) 1)) PassesOwn.never rfl (by decide) (pg_tup rfl (pgs_cons (pg_name (i := 3) sc_plus.nd rfl (by first | exact Or.inl rfl | exact Or.inr rfl)) (pgs_cons (pg_name (i := 4) sc_plus.nd rfl (by first | exact Or.inl rfl | exact Or.inr rfl)) pgs_nil))) ?pre (by rw [← pairs_map]; exact noKs_pairs m2) (fun l hl => ?len) ?body ?post) (krs_out ?out)
  case len =>
    obtain ⟨q, _, rfl⟩ := List.mem_map.mp hl
    rfl
  case pre =>
    rintro G es ⟨rfl, rfl⟩
    refine ⟨⟨⟨_, _, rfl⟩, rfl⟩, ?_⟩
    rw [← pairs_map]
    exact ev_ixT (ds := [.int n2, .tuple (m2.map pairD)]) (ev_var 1 (by rfl) (pv 1)) ev_int rfl
  case post =>
    rintro G es ⟨h, rfl⟩
    rw [List.length_map, List.take_length]
    exact ⟨h, rfl⟩
  case body =>
    intro H1 k l hl
    obtain ⟨q, hq, rfl⟩ := pairs_at hl
    refine kts_cons (kt_put (by walk_at "u1") (fun G es h => ?_) (pv 2)) (kts_nil fun _ _ h => h)
    obtain ⟨G', ⟨⟨a, b, rfl⟩, rfl⟩, rfl⟩ := h
    refine ⟨.inl q.1, .int (getI (addI m (m2.take k) 1) q.1 + q.2), ev_var 3 (by rfl) (pv 3), ev_bin (ev_getI (m := addI m (m2.take k) 1) (z := q.1) (n := 0) (by walk_at "u1") (ev_var 2 (by rfl) (pv 2)) (ev_var 3 (by rfl) (pv 3)) ev_int ⟨rfl, rfl, rfl, rfl⟩) (ev_var 4 (by rfl) (pv 4)) (by walk_at "od"), rfl, ?_, ⟨_, _, rfl⟩, ?_⟩
    · rw [dI_len, sizeLine_eq]
      have : (addI m (m2.take k) 1).length ≤ 63 := addI_few (n := 1) ht hu k
      omega
    · rw [dI_put, addI_take hq]
      unfold L2.stepI
      rw [Int.one_mul]
  case out =>
    rintro G es ⟨⟨a, b, rfl⟩, rfl⟩
    refine svs_ret (sv_ret (ev_call D_term_of (by walk_at "rm") rfl (av_cons (ev_bin (ev_ixT (ds := [.int n, .tuple (m.map pairD)]) (ev_var 0 (by rfl) (pv 0)) ev_int rfl) (ev_ixT (ds := [.int n2, .tuple (m2.map pairD)]) (ev_var 1 (by rfl) (pv 1)) ev_int rfl) (by walk_at "od")) (av_cons (ev_var 2 (by rfl) (pv 2)) av_nil)) ⟨n + n2, addI m m2 1, rfl, ?_, ?_⟩))
    · have := addI_few (n := 1) ht hu m2.length
      rw [List.take_length] at this
      exact Nat.lt_succ_of_le this
    · unfold plusT lsum
      rw [Int.one_mul]
def F_many (ds : List PyData) (d : PyData) : Prop := ∃ (t : Tm) (n : Int), Wf t ∧ 0 ≤ n ∧ n < 4096 ∧ ds = [tmD t, .int n] ∧ d = tmD (manyT t n)
theorem filter_yes {α : Type} : ∀ l : List α, l.filter (fun _ => true) = l
  | [] => rfl
  | a :: r => by rw [List.filter_cons, if_pos rfl, filter_yes r]
theorem d_so_many (T : Txt mg) (D_term_of : DFn P w K mg base 1 "term_of" F_tof) {f : Addr} {fd : FuncData} (F : Fun K "so_many" "so_many" s_so_many f fd) (hm : mg "so_many" = some (.ref f)) : DFn P w K mg base 2 "so_many" F_many := by
  refine F.data hm (F.binds fun _ _ _ _ _ _ us hl => match us, hl with | [_, _], _ => rfl) sc_so_many (fun ds d ⟨_, _, _, _, _, e, _⟩ => by rw [e]; rfl) fun cdv A outer s H E ds d hr ⟨t, n, ht, h0, h1, e, e2⟩ => ?_
  subst e e2
  obtain ⟨w0, m⟩ := t
  have hfew : m.length ≤ 63 := ht.few
  have hl : (m.map fun q => (q.1, q.2 * n)).length = m.length := List.length_map ..
  refine svs_cons (sv_set (i := 2) (d := .dict (dI (m.map fun q => (q.1, q.2 * n)))) sc_so_many.nd rfl (Or.inl rfl) (ev_ofK (evk_dict (m := m.map fun q => (q.1, q.2 * n)) rfl (ev_comp (ix := [1]) (N := ["atom", "many", "n"]) (B := bind2) (as := m) (D := pairD) (fun _ => true) (fun q => pairD (q.1, q.2 * n)) rfl (of_decide_eq_true (by kernel_rfl)) (own_tup (own_cons (own_name (by decide)) (own_cons (own_name (by decide)) own_nil)))
    (iv_tup (ev_ixT (ds := [.int w0, .tuple (m.map pairD)]) (ev_var 0 (by rfl) (pv 0)) ev_int rfl)) (by rw [sizeLine_eq]; omega) (fun _ _ => bindD2 _ _) (fun _ _ _ _ _ => pg_tup rfl (pgs_cons (pg_name (i := 0) (show List.Nodup (["atom", "many", "n"] : List Str) by decide +kernel) rfl (Or.inl rfl)) (pgs_cons (pg_name (i := 1) (show List.Nodup (["atom", "many", "n"] : List Str) by decide +kernel) rfl (Or.inl rfl)) pgs_nil))) (fun a ha cl C s H fp => pf_D0)
    (fun a ha hP cl C s H fp => ev_tup (av_cons (ev_var 0 (by rfl) (pv 0)) (av_cons (ev_bin (ev_var 1 (by rfl) (pv 1)) (ev_var 2 (by rfl) (pv 2)) (od_mul (.inr ⟨by omega, by omega⟩))) av_nil)) (by walk_at "sz"))) (.inr (by rw [filter_yes, List.map_map]; rfl)) (show (kys (List.map (fun q => (q.1, q.2 * n)) (w0, m).2)).Nodup by rw [many_kys]; exact ht.nodup) (by rw [hl, sizeLine_eq]; omega) rfl T.b_dict))) ?_
  exact svs_ret (sv_ret (ev_call D_term_of (by walk_at "rm") rfl (av_cons (ev_bin (ev_ixT (ds := [.int w0, .tuple (m.map pairD)]) (ev_var 0 (by rfl) (pv 0)) ev_int rfl) (ev_var 1 (by rfl) (pv 1)) (od_mul (.inr ⟨by omega, by omega⟩))) (av_cons (ev_var 2 (by rfl) (pv 2)) av_nil)) ⟨w0 * n, _, rfl, by rw [hl]; omega, rfl⟩))
def F_minus (ds : List PyData) (d : PyData) : Prop := ∃ t u : Tm, Wf t ∧ Wf u ∧ ds = [tmD t, tmD u] ∧ d = tmD (minusT t u)
theorem d_minus (D_plus : DFn P w K mg base 2 "plus" F_plus) (D_so_many : DFn P w K mg base 2 "so_many" F_many) {f : Addr} {fd : FuncData} (F : Fun K "minus" "minus" s_minus f fd) (hm : mg "minus" = some (.ref f)) : DFn P w K mg base 3 "minus" F_minus := by
  refine F.data hm (F.binds fun _ _ _ _ _ _ us hl => match us, hl with | [_, _], _ => rfl) sc_minus (fun ds d ⟨_, _, _, _, e, _⟩ => by rw [e]; rfl) fun cdv A outer s H E ds d hr ⟨t, u, ht, hu, e, e2⟩ => ?_
  subst e e2
  exact svs_ret (sv_ret (ev_call D_plus (by walk_at "rm") rfl (av_cons (ev_var 0 (by rfl) (pv 0)) (av_cons (ev_call D_so_many (d := tmD (manyT u 4095)) (by walk_at "rm") rfl (av_cons (ev_var 1 (by rfl) (pv 1)) (av_cons ev_int av_nil)) ⟨u, 4095, hu, by decide, by decide, rfl, rfl⟩) av_nil)) ⟨t, manyT u 4095, ht, many_wf hu, rfl, rfl⟩))
end
section
variable {P : Program} {w : World} {K : PySem.W.Frag} {mg : Str → Option Value} {base : Heap}
local macro_rules | `(tactic| walk_at "u1") => `(tactic| exact Nat.lt_of_le_of_lt (Nat.add_le_add_left (by decide) _) (Room.units (by assumption)))
variable {C : Addr}
theorem od_and {X : Cx} {i j : Int} : OD X (binaryOp .BitAnd) (.int i) (.int j) (.int (Builtin.bitAnd i j)) := od_rI0 op_and fun H => .int _
def Kb (n : Nat) (t : Tm) : Prop := ∀ a ∈ kys t.2, a < n
def kdS (o : Nat) : Str := if o = 0 then "and" else if o = 1 then "xor" else "mul"
def aD : Atm → PyData
  | .box k => .tuple [.str "box", .int k]
  | .tru k => .tuple [.str "truth", .int k]
  | .cel t n => .tuple [.str "cell", tmD t, .int n]
  | .two o t u => .tuple [.str (kdS o), tmD t, tmD u]
def aOk (n : Nat) : Atm → Prop
  | .box k => 0 ≤ k ∧ k < 4
  | .tru k => 0 ≤ k ∧ k < 2
  | .cel t _ => Wf t ∧ Kb n t
  | .two o t u => o < 3 ∧ Wf t ∧ Wf u ∧ Kb n t ∧ Kb n u
structure StOk (s : Sta) : Prop where
  b : s.bx.length = 4
  t : s.tr.length = 2
  bw : ∀ x ∈ s.bx, 0 ≤ x ∧ x < 4096
  rw_ : ∀ q ∈ s.rd, 0 ≤ q.2 ∧ q.2 < 4096
abbrev bxD (s : Sta) : PyData := .list (s.bx.map PyData.int)
abbrev trD (s : Sta) : PyData := .tuple (s.tr.map PyData.bool)
abbrev rdD (s : Sta) : PyData := .dict (ppE s.rd)
def F_add (ds : List PyData) (d : PyData) : Prop := ∃ (t : Tm) (ws : List Int), ds = [tmD t, .list (ws.map PyData.int)] ∧ Wf t ∧ Kb ws.length t ∧ d = .int (valT (atW ws) t)
theorem filter_yes2 {α : Type} : ∀ l : List α, l.filter (fun _ => true) = l
  | [] => rfl
  | a :: r => by rw [List.filter_cons, if_pos rfl, filter_yes2 r]
theorem d_added_up (T : Txt mg) {f : Addr} {fd : FuncData} (F : Fun K "added_up" "added_up" s_added_up f fd) (hm : mg "added_up" = some (.ref f)) : DFn P w K mg base 1 "added_up" F_add := by
  refine F.data hm (F.binds fun _ _ _ _ _ _ us hl => match us, hl with | [_, _], _ => rfl) sc_added_up (fun ds d ⟨_, _, e, _⟩ => by rw [e]; rfl) fun cdv A outer s H E ds d hr ⟨t, ws, e, hw, hk, e2⟩ => ?_
  subst e e2
  have hfew := hw.few
  have hmany := hw.many
  have hat := hw.at_
  obtain ⟨n, m⟩ := t
  have hfew : m.length ≤ 63 := hfew
  refine svs_ret (sv_ret (ev_eq (d := .int ((n + (m.map fun q => q.2 * atW ws q.1).sum) % 4096)) (ev_bin (ev_bin (ev_ixT (ds := [.int n, .tuple (m.map pairD)]) (ev_var 0 (by rfl) (pv 0)) ev_int rfl) (ev_callB2 "sum" (ds := [.list ((m.map fun q => q.2 * atW ws q.1).map PyData.int)]) (av_cons (ev_eq (ev_comp (ix := [1]) (N := ["atom", "many", "words"]) (B := bind2) (as := m) (D := pairD) (fun _ => true) (fun q => PyData.int (q.2 * atW ws q.1)) rfl (of_decide_eq_true (by kernel_rfl)) (own_tup (own_cons (own_name (by decide)) (own_cons (own_name (by decide)) own_nil)))
    (iv_tup (ev_ixT (ds := [.int n, .tuple (m.map pairD)]) (ev_var 0 (by rfl) (pv 0)) ev_int rfl)) (by rw [sizeLine_eq]; omega) (fun _ _ => bindD2 _ _) (fun _ _ _ _ _ => pg_tup rfl (pgs_cons (pg_name (i := 0) (show List.Nodup (["atom", "many", "words"] : List Str) by decide +kernel) rfl (Or.inl rfl)) (pgs_cons (pg_name (i := 1) (show List.Nodup (["atom", "many", "words"] : List Str) by decide +kernel) rfl (Or.inl rfl)) pgs_nil))) (fun a ha cl C s H fp => pf_D0)
    (fun q hq hP cl C s H fp => ?el)) ?ee) av_nil) (cd_sum rfl) rfl T.b_sum (by decide +kernel)) (by walk_at "od")) ev_int (by walk_at "od")) rfl))
  case el =>
    have h1 : 0 ≤ q.1 := (hat q.1 (List.mem_map.mpr ⟨q, hq, rfl⟩)).1
    have h2 : q.1 < ws.length := hk q.1 (List.mem_map.mpr ⟨q, hq, rfl⟩)
    have h3 := hmany q hq
    exact ev_bin (ev_var 1 (by rfl) (pv 1)) (ev_ixL (d := .int (atW ws q.1)) (ev_var 2 (by rfl) (pv 2)) (ev_var 0 (by rfl) (pv 0)) (at_ints h1 h2)) (od_mul (.inl ⟨by omega, by omega⟩))
  case ee =>
    rw [filter_yes2, List.map_map]
    rfl
def F_aw (ds : List PyData) (d : PyData) : Prop := ∃ (x : Atm) (ws : List Int) (st : Sta), StOk st ∧ aOk ws.length x ∧ ds = [aD x, .list (ws.map PyData.int), bxD st, trD st, rdD st] ∧ d = .int (awd st (atW ws) x)
theorem at_bools {l : List Bool} {i : Int} (h0 : 0 ≤ i) (h : i < l.length) : atI (l.map PyData.bool) i = some (.bool (l.getD i.toNat false)) := by
  refine atI_of h0 ?_
  rw [List.getElem?_map, List.getElem?_eq_getElem (by omega), List.getD_eq_getElem?_getD, List.getElem?_eq_getElem (by omega)]
  rfl
set_option maxHeartbeats 10000000 in
theorem d_atom_worth (D_added_up : DFn P w K mg base 1 "added_up" F_add) {f : Addr} {fd : FuncData} (F : Fun K "atom_worth" "atom_worth" s_atom_worth f fd) (hm : mg "atom_worth" = some (.ref f)) : DFn P w K mg base 2 "atom_worth" F_aw := by
  refine F.data hm (F.binds fun _ _ _ _ _ _ us hl => match us, hl with | [_, _, _, _, _], _ => rfl) sc_atom_worth (fun ds d ⟨_, _, _, _, _, e, _⟩ => by rw [e]; rfl) fun cdv A outer s H E ds d hr ⟨x, ws, st, hst, hx, e, e2⟩ => ?_
  subst e e2
  have kd : ∀ (k : Str) (rest : List PyData) (o : Out), SVs (cxOf CX0 P w K mg base ["atom", "words", "boxes", "truths", "reads", "kind", "one", "two"] "atom_worth" (defScope s_atom_worth) f cdv A outer s H E).nox [some (.tuple (.str k :: rest)), some (.list (ws.map PyData.int)), some (bxD st), some (trD st), some (rdD st), some (.str k), none, none] ((defBody s_atom_worth).drop 1) o → SVs (cxOf CX0 P w K mg base ["atom", "words", "boxes", "truths", "reads", "kind", "one", "two"] "atom_worth" (defScope s_atom_worth) f cdv A outer s H E).nox [some (.tuple (.str k :: rest)), some (.list (ws.map PyData.int)), some (bxD st), some (trD st), some (rdD st), none, none, none] (defBody s_atom_worth) o := fun k rest o h =>
    svs_cons (sv_set (i := 5) (d := .str k) sc_atom_worth.nd rfl (Or.inl rfl) (ev_ixT (ds := .str k :: rest) (ev_var 0 (by rfl) (pv 0)) ev_int (atI_of (by decide) rfl))) h
  cases x with
  | box k =>
    have hx : 0 ≤ k ∧ k < 4 := hx
    refine kd "box" [.int k] _ ?_
    exact svs_ret (sv_if (k := true) (tv_cmp (ev_var 5 (by rfl) (pv 5)) ev_str (od_eq (by walk_at "un") (by decide +kernel) (by decide +kernel) (by walk_at "dp") (by decide +kernel)) (nomark _)) (fun _ => svs_ret (sv_ret (ev_ixL (ev_var 2 (by rfl) (pv 2)) (ev_ixT (ds := [.str "box", .int k]) (ev_var 0 (by rfl) (pv 0)) ev_int rfl) (at_ints hx.1 (by rw [hst.b]; exact hx.2))))) (fun z => by cases z))
  | tru k =>
    have hx : 0 ≤ k ∧ k < 2 := hx
    refine kd "truth" [.int k] _ ?_
    refine svs_cons (sv_if (k := false) (tv_cmp (ev_var 5 (by rfl) (pv 5)) ev_str (od_eq (by walk_at "un") (by decide +kernel) (by decide +kernel) (by walk_at "dp") (by decide +kernel)) (nomark _)) (fun z => by cases z) (fun _ => svs_nil)) ?_
    refine svs_ret (sv_if (k := true) (tv_cmp (ev_var 5 (by rfl) (pv 5)) ev_str (od_eq (by walk_at "un") (by decide +kernel) (by decide +kernel) (by walk_at "dp") (by decide +kernel)) (nomark _)) (fun _ => svs_ret (sv_ret ?_)) (fun z => by cases z))
    show EV _ _ _ (.int (if st.tr.getD k.toNat false = true then 1 else 0))
    refine ev_ife (k := st.tr.getD k.toNat false) (tv_val (ev_ixT (ev_var 3 (by rfl) (pv 3)) (ev_ixT (ds := [.str "truth", .int k]) (ev_var 0 (by rfl) (pv 0)) ev_int rfl) (at_bools hx.1 (by rw [hst.t]; exact hx.2)))) (fun h => ?_) (fun h => ?_)
    · rw [if_pos h]; exact ev_int
    · rw [if_neg (by rw [h]; simp)]; exact ev_int
  | cel t n =>
    have hx : Wf t ∧ Kb ws.length t := hx
    refine kd "cell" [tmD t, .int n] _ ?_
    refine svs_cons (sv_if (k := false) (tv_cmp (ev_var 5 (by rfl) (pv 5)) ev_str (od_eq (by walk_at "un") (by decide +kernel) (by decide +kernel) (by walk_at "dp") (by decide +kernel)) (nomark _)) (fun z => by cases z) (fun _ => svs_nil)) ?_
    refine svs_cons (sv_if (k := false) (tv_cmp (ev_var 5 (by rfl) (pv 5)) ev_str (od_eq (by walk_at "un") (by decide +kernel) (by decide +kernel) (by walk_at "dp") (by decide +kernel)) (nomark _)) (fun z => by cases z) (fun _ => svs_nil)) ?_
    refine svs_cons (sv_set (i := 6) (d := .int (valT (atW ws) t)) sc_atom_worth.nd rfl (Or.inl rfl) (ev_call D_added_up (by walk_at "rm") rfl (av_cons (ev_ixT (ds := [.str "cell", tmD t, .int n]) (ev_var 0 (by rfl) (pv 0)) ev_int rfl) (av_cons (ev_var 1 (by rfl) (pv 1)) av_nil)) ⟨t, ws, rfl, hx.1, hx.2, rfl⟩)) ?_
    exact svs_ret (sv_if (k := true) (tv_cmp (ev_var 5 (by rfl) (pv 5)) ev_str (od_eq (by walk_at "un") (by decide +kernel) (by decide +kernel) (by walk_at "dp") (by decide +kernel)) (nomark _)) (fun _ => svs_ret (sv_ret (ev_getPP (by walk_at "u1") (ev_var 4 (by rfl) (pv 4)) (ev_var 6 (by rfl) (pv 6)) (ev_ixT (ds := [.str "cell", tmD t, .int n]) (ev_var 0 (by rfl) (pv 0)) ev_int rfl) ev_int ⟨rfl, rfl, rfl, rfl⟩))) (fun z => by cases z))
  | two o t u =>
    have hx : o < 3 ∧ Wf t ∧ Wf u ∧ Kb ws.length t ∧ Kb ws.length u := hx
    obtain ⟨ho, wt, wu, kt, ku⟩ := hx
    refine kd (kdS o) [tmD t, tmD u] _ ?_
    have one : ∀ k : Str, EV (cxOf CX0 P w K mg base ["atom", "words", "boxes", "truths", "reads", "kind", "one", "two"] "atom_worth" (defScope s_atom_worth) f cdv A outer s H E).nox [some (.tuple [.str k, tmD t, tmD u]), some (.list (ws.map PyData.int)), some (bxD st), some (trD st), some (rdD st), some (.str k), none, none] (match (defBody s_atom_worth).getD 3 (.Pass ⟨0, 0, 0, 0⟩) with | .Assign _ e _ => e | _ => .Constant .none 0 ⟨0, 0, 0, 0⟩) (.int (valT (atW ws) t)) := fun k => ev_call D_added_up (by walk_at "rm") rfl (av_cons (ev_ixT (ds := [.str k, tmD t, tmD u]) (ev_var 0 (by rfl) (pv 0)) ev_int rfl) (av_cons (ev_var 1 (by rfl) (pv 1)) av_nil)) ⟨t, ws, rfl, wt, kt, rfl⟩
    have ho' : o = 0 ∨ o = 1 ∨ o = 2 := by omega
    rcases ho' with rfl | rfl | rfl
    · refine svs_cons (sv_if (k := false) (tv_cmp (ev_var 5 (by rfl) (pv 5)) ev_str (od_eq (by walk_at "un") (by decide +kernel) (by decide +kernel) (by walk_at "dp") (by decide +kernel)) (nomark _)) (fun z => by cases z) (fun _ => svs_nil)) ?_
      refine svs_cons (sv_if (k := false) (tv_cmp (ev_var 5 (by rfl) (pv 5)) ev_str (od_eq (by walk_at "un") (by decide +kernel) (by decide +kernel) (by walk_at "dp") (by decide +kernel)) (nomark _)) (fun z => by cases z) (fun _ => svs_nil)) ?_
      refine svs_cons (sv_set (i := 6) (d := .int (valT (atW ws) t)) sc_atom_worth.nd rfl (Or.inl rfl) (one "and")) ?_
      refine svs_cons (sv_if (k := false) (tv_cmp (ev_var 5 (by rfl) (pv 5)) ev_str (od_eq (by walk_at "un") (by decide +kernel) (by decide +kernel) (by walk_at "dp") (by decide +kernel)) (nomark _)) (fun z => by cases z) (fun _ => svs_nil)) ?_
      refine svs_cons (sv_set (i := 7) (d := .int (valT (atW ws) u)) sc_atom_worth.nd rfl (Or.inl rfl) (ev_call D_added_up (by walk_at "rm") rfl (av_cons (ev_ixT (ds := [.str "and", tmD t, tmD u]) (ev_var 0 (by rfl) (pv 0)) ev_int rfl) (av_cons (ev_var 1 (by rfl) (pv 1)) av_nil)) ⟨u, ws, rfl, wu, ku, rfl⟩)) ?_
      exact svs_ret (sv_if (k := true) (tv_cmp (ev_var 5 (by rfl) (pv 5)) ev_str (od_eq (by walk_at "un") (by decide +kernel) (by decide +kernel) (by walk_at "dp") (by decide +kernel)) (nomark _)) (fun _ => svs_ret (sv_ret (ev_bin (ev_var 6 (by rfl) (pv 6)) (ev_var 7 (by rfl) (pv 7)) od_and))) (fun z => by cases z))
    · refine svs_cons (sv_if (k := false) (tv_cmp (ev_var 5 (by rfl) (pv 5)) ev_str (od_eq (by walk_at "un") (by decide +kernel) (by decide +kernel) (by walk_at "dp") (by decide +kernel)) (nomark _)) (fun z => by cases z) (fun _ => svs_nil)) ?_
      refine svs_cons (sv_if (k := false) (tv_cmp (ev_var 5 (by rfl) (pv 5)) ev_str (od_eq (by walk_at "un") (by decide +kernel) (by decide +kernel) (by walk_at "dp") (by decide +kernel)) (nomark _)) (fun z => by cases z) (fun _ => svs_nil)) ?_
      refine svs_cons (sv_set (i := 6) (d := .int (valT (atW ws) t)) sc_atom_worth.nd rfl (Or.inl rfl) (one "xor")) ?_
      refine svs_cons (sv_if (k := false) (tv_cmp (ev_var 5 (by rfl) (pv 5)) ev_str (od_eq (by walk_at "un") (by decide +kernel) (by decide +kernel) (by walk_at "dp") (by decide +kernel)) (nomark _)) (fun z => by cases z) (fun _ => svs_nil)) ?_
      refine svs_cons (sv_set (i := 7) (d := .int (valT (atW ws) u)) sc_atom_worth.nd rfl (Or.inl rfl) (ev_call D_added_up (by walk_at "rm") rfl (av_cons (ev_ixT (ds := [.str "xor", tmD t, tmD u]) (ev_var 0 (by rfl) (pv 0)) ev_int rfl) (av_cons (ev_var 1 (by rfl) (pv 1)) av_nil)) ⟨u, ws, rfl, wu, ku, rfl⟩)) ?_
      refine svs_cons (sv_if (k := false) (tv_cmp (ev_var 5 (by rfl) (pv 5)) ev_str (od_eq (by walk_at "un") (by decide +kernel) (by decide +kernel) (by walk_at "dp") (by decide +kernel)) (nomark _)) (fun z => by cases z) (fun _ => svs_nil)) ?_
      exact svs_ret (sv_if (k := true) (tv_cmp (ev_var 5 (by rfl) (pv 5)) ev_str (od_eq (by walk_at "un") (by decide +kernel) (by decide +kernel) (by walk_at "dp") (by decide +kernel)) (nomark _)) (fun _ => svs_ret (sv_ret (ev_bin (ev_var 6 (by rfl) (pv 6)) (ev_var 7 (by rfl) (pv 7)) od_xor))) (fun z => by cases z))
    · have hv1 := val_in (atW ws) t
      refine svs_cons (sv_if (k := false) (tv_cmp (ev_var 5 (by rfl) (pv 5)) ev_str (od_eq (by walk_at "un") (by decide +kernel) (by decide +kernel) (by walk_at "dp") (by decide +kernel)) (nomark _)) (fun z => by cases z) (fun _ => svs_nil)) ?_
      refine svs_cons (sv_if (k := false) (tv_cmp (ev_var 5 (by rfl) (pv 5)) ev_str (od_eq (by walk_at "un") (by decide +kernel) (by decide +kernel) (by walk_at "dp") (by decide +kernel)) (nomark _)) (fun z => by cases z) (fun _ => svs_nil)) ?_
      refine svs_cons (sv_set (i := 6) (d := .int (valT (atW ws) t)) sc_atom_worth.nd rfl (Or.inl rfl) (one "mul")) ?_
      refine svs_cons (sv_if (k := false) (tv_cmp (ev_var 5 (by rfl) (pv 5)) ev_str (od_eq (by walk_at "un") (by decide +kernel) (by decide +kernel) (by walk_at "dp") (by decide +kernel)) (nomark _)) (fun z => by cases z) (fun _ => svs_nil)) ?_
      refine svs_cons (sv_set (i := 7) (d := .int (valT (atW ws) u)) sc_atom_worth.nd rfl (Or.inl rfl) (ev_call D_added_up (by walk_at "rm") rfl (av_cons (ev_ixT (ds := [.str "mul", tmD t, tmD u]) (ev_var 0 (by rfl) (pv 0)) ev_int rfl) (av_cons (ev_var 1 (by rfl) (pv 1)) av_nil)) ⟨u, ws, rfl, wu, ku, rfl⟩)) ?_
      refine svs_cons (sv_if (k := false) (tv_cmp (ev_var 5 (by rfl) (pv 5)) ev_str (od_eq (by walk_at "un") (by decide +kernel) (by decide +kernel) (by walk_at "dp") (by decide +kernel)) (nomark _)) (fun z => by cases z) (fun _ => svs_nil)) ?_
      refine svs_cons (sv_if (k := false) (tv_cmp (ev_var 5 (by rfl) (pv 5)) ev_str (od_eq (by walk_at "un") (by decide +kernel) (by decide +kernel) (by walk_at "dp") (by decide +kernel)) (nomark _)) (fun z => by cases z) (fun _ => svs_nil)) ?_
      exact svs_ret (sv_ret (ev_bin (ev_bin (ev_var 6 (by rfl) (pv 6)) (ev_var 7 (by rfl) (pv 7)) (od_mul (.inl ⟨by omega, by omega⟩))) ev_int (by walk_at "od")))
end
section
variable {P : Program} {w : World} {K : PySem.W.Frag} {mg : Str → Option Value} {base : Heap}
theorem kTs_pairs : ∀ m : List (Int × Int), kTs (m.map pairD) = true
  | [] => rfl
  | q :: m => by
    rw [List.map_cons]
    unfold kTs
    rw [kTs_pairs m]
    rfl
theorem tm_kT (t : Tm) : kT (tmD t) = true := by
  show kTs [.int t.1, .tuple (t.2.map pairD)] = true
  unfold kTs
  show (true && kTs [.tuple (t.2.map pairD)]) = true
  unfold kTs
  show (true && (kTs (t.2.map pairD) && true)) = true
  rw [kTs_pairs]
  rfl
theorem tm_lay (t : Tm) : (tmD t).canLay0 = true := kT_lay (tm_kT t)
theorem depth_pairs : ∀ m : List (Int × Int), PyData.depthAll (m.map pairD) ≤ 1
  | [] => Nat.zero_le _
  | q :: m => by
    rw [List.map_cons]
    show max (PyData.depth (pairD q)) (PyData.depthAll (m.map pairD)) ≤ 1
    exact Nat.max_le.mpr ⟨Nat.le_refl _, depth_pairs m⟩
theorem tm_depth (t : Tm) : (tmD t).depth ≤ 3 := by
  show PyData.depthAll [.int t.1, .tuple (t.2.map pairD)] + 1 ≤ 3
  show max 0 (max (PyData.depthAll (t.2.map pairD) + 1) 0) + 1 ≤ 3
  have := depth_pairs t.2
  omega
theorem pairD_inj {p q : Int × Int} (h : pairD p = pairD q) : p = q := by
  unfold pairD at h
  injection h with h
  injection h with h1 h2
  injection h1 with h1
  injection h2 with h2
  injection h2 with h2
  exact Prod.ext h1 h2
theorem tmD_inj {t u : Tm} (h : tmD t = tmD u) : t = u := by
  unfold tmD at h
  injection h with h
  injection h with h1 h2
  injection h1 with h1
  injection h2 with h2
  injection h2 with h2
  have : ∀ {l m : List (Int × Int)}, l.map pairD = m.map pairD → l = m := by
    intro l
    induction l with
    | nil => intro m h; cases m with
      | nil => rfl
      | cons a r => cases h
    | cons a r ih => intro m h; cases m with
      | nil => cases h
      | cons b r2 =>
        rw [List.map_cons, List.map_cons] at h
        injection h with h1 h2
        rw [pairD_inj h1, ih h2]
  exact Prod.ext h1 (this h2)
open Classical in
theorem tm_same (t : Tm) : PyData.eqv (tmD t) (tmD t) = true := (eqv_kT _ _ (tm_kT t) (tm_kT t)).mpr rfl
theorem tm_other {t u : Tm} (h : t ≠ u) : PyData.eqv (tmD t) (tmD u) = false := by
  cases e : PyData.eqv (tmD t) (tmD u) with
  | false => rfl
  | true => exact absurd (tmD_inj ((eqv_kT _ _ (tm_kT t) (tm_kT u)).mp e)) h
theorem tm_min (t u : Tm) : min (tmD t).depth (tmD u).depth ≤ 60 := by
  have := tm_depth t
  omega
local macro_rules | `(tactic| walk_at "u1") => `(tactic| exact Nat.lt_of_le_of_lt (Nat.add_le_add_left (by decide) _) (Room.units (by assumption)))
variable {C : Addr}
theorem tm_noL (t : Tm) : noL (tmD t) = true := kT_noL (tm_kT t)
theorem upTo_ge (ns : Nat → Int) : ∀ (k j : Nat) (b : Int), b ≤ upTo ns b j k ∧ ∀ i, j ≤ i → i < j + k → ns i ≤ upTo ns b j k
  | 0, j, b => ⟨Int.le_refl _, fun i h1 h2 => by omega⟩
  | k + 1, j, b => by
    rw [L2.upTo]
    obtain ⟨h1, h2⟩ := upTo_ge ns k (j + 1) (if ns j > b then ns j else b)
    have hb : b ≤ (if ns j > b then ns j else b) ∧ ns j ≤ (if ns j > b then ns j else b) := by split <;> omega
    refine ⟨Int.le_trans hb.1 h1, fun i hi hk => ?_⟩
    by_cases e : i = j
    · rw [e]; exact Int.le_trans hb.2 h1
    · exact h2 i (by omega) (by omega)
theorem upTo_le (ns : Nat → Int) (M : Int) : ∀ (k j : Nat) (b : Int), b ≤ M → (∀ i, j ≤ i → i < j + k → ns i ≤ M) → upTo ns b j k ≤ M
  | 0, j, b, h, _ => h
  | k + 1, j, b, h, g => by
    rw [L2.upTo]
    refine upTo_le ns M k (j + 1) _ ?_ fun i h1 h2 => g i (by omega) (by omega)
    have := g j (Nat.le_refl _) (by omega)
    split <;> omega
theorem maxD_ge {ns : List Int} {d x : Int} (h : x ∈ ns) : x ≤ maxD ns d := by
  cases ns with
  | nil => cases h
  | cons y r =>
    show x ≤ upTo (fun i => (y :: r).getD i 0) y 1 ((y :: r).length - 1)
    obtain ⟨h1, h2⟩ := upTo_ge (fun i => (y :: r).getD i 0) ((y :: r).length - 1) 1 y
    obtain ⟨i, hi, e⟩ := List.getElem_of_mem h
    cases i with
    | zero =>
      have e : y = x := e
      rw [← e]; exact h1
    | succ i =>
      have := h2 (i + 1) (by omega) (by omega)
      have e2 : (y :: r).getD (i + 1) 0 = x := by rw [List.getD_eq_getElem?_getD, List.getElem?_eq_getElem hi]; exact e
      rw [← e2]; exact this
theorem maxD_le {ns : List Int} {d M : Int} (hd : d ≤ M) (h : ∀ x ∈ ns, x ≤ M) : maxD ns d ≤ M := by
  cases ns with
  | nil => exact hd
  | cons y r =>
    show upTo (fun i => (y :: r).getD i 0) y 1 ((y :: r).length - 1) ≤ M
    refine upTo_le _ M _ 1 y (h y List.mem_cons_self) fun i h1 h2 => ?_
    have hi : i < (y :: r).length := by simp only [List.length_cons] at h2 ⊢; omega
    show (y :: r).getD i 0 ≤ M
    rw [List.getD_eq_getElem?_getD, List.getElem?_eq_getElem hi]
    exact h _ (List.getElem_mem hi)
def AsOk (as : List Atm) : Prop := ∀ (i : Nat) x, as[i]? = some x → aOk i x
def need (t : Tm) : Int := maxD (t.2.map fun q => q.1 + 1) 0
theorem need_in {t : Tm} (hw : Wf t) {n : Nat} (hk : Kb n t) : 0 ≤ need t ∧ need t ≤ n ∧ ∀ a ∈ kys t.2, a < need t := by
  have h1 : ∀ a ∈ kys t.2, a < need t := fun a ha => by
    obtain ⟨q, hq, e⟩ := List.mem_map.mp ha
    have := maxD_ge (d := 0) (List.mem_map.mpr ⟨q, hq, rfl⟩ : q.1 + 1 ∈ t.2.map fun q => q.1 + 1)
    unfold need
    omega
  refine ⟨?_, maxD_le (by omega) fun x hx => ?_, h1⟩
  · unfold need
    cases e : t.2 with
    | nil => exact Int.le_refl _
    | cons q r =>
      have h2 : q.1 ∈ kys t.2 := by rw [e]; exact List.mem_cons_self
      have h3 := h1 q.1 h2
      have h4 := (hw.at_ q.1 h2).1
      unfold need at h3
      rw [e] at h3
      omega
  · obtain ⟨q, hq, e⟩ := List.mem_map.mp hx
    have := hk q.1 (List.mem_map.mpr ⟨q, hq, rfl⟩)
    omega
theorem aD_noL (x : Atm) : noL (aD x) = true := by
  cases x with
  | box k => rfl
  | tru k => rfl
  | cel t n =>
    show (noL (.str "cell") && (noL (tmD t) && (noL (.int n) && true))) = true
    rw [tm_noL]; rfl
  | two o t u =>
    show (noL (.str (kdS o)) && (noL (tmD t) && (noL (tmD u) && true))) = true
    rw [tm_noL, tm_noL]; rfl
theorem as_noL : ∀ as : List Atm, noLs (as.map aD) = true
  | [] => rfl
  | x :: r => by
    rw [List.map_cons]
    unfold noLs
    rw [aD_noL, as_noL r]
    rfl
theorem cut_take {α : Type} (D : α → PyData) (xs : List α) {n : Int} (h : 0 ≤ n) : cutD (xs.map D) none (some n) = (xs.take n.toNat).map D := by
  unfold cutD
  rw [List.length_map, HT.sIx_none]
  have e : HT.sIx xs.length xs.length (some n) = min n.toNat xs.length := by
    show (if n < 0 then (n + (xs.length : Int)).toNat else min n.toNat xs.length) = _
    rw [if_neg (by omega)]
  rw [e, List.drop_zero, Nat.sub_zero, ← List.map_take]
  congr 1
  by_cases hl : n.toNat ≤ xs.length
  · rw [Nat.min_eq_left hl]
  · rw [Nat.min_eq_right (by omega), List.take_of_length_le (Nat.le_refl _), List.take_of_length_le (by omega)]
abbrev tbD (C : Addr) (as : List Atm) : PyData := objD C [(.str "atoms", .list (as.map aD))]
def F_wor (C : Addr) (ds : List PyData) (d : PyData) : Prop := ∃ (as : List Atm) (t : Tm) (st : Sta), StOk st ∧ AsOk as ∧ as.length ≤ 100 ∧ Wf t ∧ Kb as.length t ∧ ds = [tbD C as, tmD t, bxD st, trD st, rdD st] ∧ d = .int (valT (atW (wds st as)) t)
set_option maxHeartbeats 10000000 in
theorem m_worth (T : Txt mg) (CT : ClsT K C) (D_added_up : DFn P w K mg base 1 "added_up" F_add) (D_atom_worth : DFn P w K mg base 2 "atom_worth" F_aw) {f : Addr} {fd : FuncData} (F : Fun K "worth" "Table.worth" s_Table_worth f fd) (hm : Meth K C "worth" f) : MFn P w K mg base 3 C "worth" (F_wor C) := by
  refine F.dataM hm (F.binds fun _ _ _ _ _ _ us hl => match us, hl with | [_, _, _, _, _], _ => rfl) sc_Table_worth (fun ds d ⟨_, _, _, _, _, _, _, _, e, _⟩ => by rw [e]; rfl) fun cdv A outer s H E ds d hr ⟨as, t, st, hst, has, hal, hw, hk, e, e2⟩ => ?_
  subst e e2
  obtain ⟨n0, n1, n2⟩ := need_in hw hk
  have hfew := hw.few
  have epre : valT (atW (wds st as)) t = valT (atW (wds st (as.take (need t).toNat))) t := by
    have h := val_pre (s := st) (as := as.take (need t).toNat) (bs := as.drop (need t).toNat) (t := t) fun a ha => ⟨(hw.at_ a ha).1, by
      have := n2 a ha
      rw [List.length_take]
      omega⟩
    rw [List.take_append_drop] at h
    exact h
  have hkb : Kb (wds st (as.take (need t).toNat)).length t := fun a ha => by
    have := n2 a ha
    rw [wds_len, List.length_take]
    omega
  rw [epre]
  refine svs_cons (sv_set (i := 5) (d := .int (need t)) sc_Table_worth.nd rfl (Or.inl rfl) (ev_maxDef rfl (ev_eq (d := .list ((t.2.filter fun _ => true).map fun q => PyData.int (q.1 + 1))) (ev_comp (ix := []) (N := ["atom", "many"]) (B := bind2) (as := t.2) (D := pairD) (fun _ => true) (fun q => PyData.int (q.1 + 1)) rfl (of_decide_eq_true (by kernel_rfl)) (own_tup (own_cons (own_name (by decide)) (own_cons (own_name (by decide)) own_nil)))
    (iv_tup (ev_ixT (ds := [.int t.1, .tuple (t.2.map pairD)]) (ev_var 1 (by rfl) (pv 1)) ev_int rfl)) (by rw [sizeLine_eq]; omega) (fun _ _ => bindD2 _ _) (fun _ _ _ _ _ => pg_tup rfl (pgs_cons (pg_name (i := 0) (show List.Nodup (["atom", "many"] : List Str) by decide +kernel) rfl (Or.inl rfl)) (pgs_cons (pg_name (i := 1) (show List.Nodup (["atom", "many"] : List Str) by decide +kernel) rfl (Or.inl rfl)) pgs_nil))) (fun a ha cl C s H fp => pf_D0)
    (fun q hq hP cl C s H fp => ev_bin (ev_var 0 (by rfl) (pv 0)) ev_int (by walk_at "od"))) (by rw [filter_yes2, List.map_map]; rfl)) ev_int rfl T.b_max)) ?_
  refine svs_own (i := 6) sc_Table_worth.nd rfl (Or.inl rfl) (show 6 < 8 by decide) fun H0 p => ?_
  generalize hN : (need t).toNat = N at *
  refine hrs_cons (Mid := fun G ds => (∃ a, G = [some (tbD C as), some (tmD t), some (bxD st), some (trD st), some (rdD st), some (.int (need t)), none, a]) ∧ ds = (wds st (as.take N)).map PyData.int)
    (ht_forF (j := 7) (xs := (as.take N).map aD) (fun k G ds => (∃ a, G = [some (tbD C as), some (tmD t), some (bxD st), some (trD st), some (rdD st), some (.int (need t)), none, a]) ∧ ds = (wds st ((as.take N).take k)).map PyData.int) PassesOwn.never rfl (by decide) (pg_name (i := 7) sc_Table_worth.nd rfl (Or.inl rfl)) ?pre (as_noL _) ?body ?post) (hrs_out ?out)
  case pre =>
    rintro G ds ⟨rfl, rfl⟩
    refine ⟨⟨⟨_, rfl⟩, rfl⟩, ?_⟩
    have ec : (as.take N).map aD = cutD (as.map aD) none (some (need t)) := by rw [cut_take aD as n0, hN]
    rw [ec]
    exact evf_slL (ds := as.map aD) (ev_fldD CT.cl CT.n1 (ev_var 0 (by rfl) (pv 0)) List.mem_cons_self) ov_none (ov_some (ev_var 5 (by rfl) (pv 5)))
  case post =>
    rintro G ds ⟨h, rfl⟩
    rw [List.length_map, List.take_length]
    exact ⟨h, rfl⟩
  case body =>
    intro H1 k d hd
    rw [List.getElem?_map] at hd
    obtain ⟨x, hx, rfl⟩ := Option.map_eq_some_iff.mp hd
    have hkl : k < (as.take N).length := (List.getElem?_eq_some_iff.mp hx).1
    have hlen : (wds st ((as.take N).take k)).length = k := by
      rw [wds_len, List.length_take]
      omega
    have hax : aOk k x := has k x (by
      rw [List.getElem?_take] at hx
      split at hx
      · exact hx
      · cases hx)
    refine hts_cons (ht_append (fun G ds h => ?_) (pv 6)) (hts_nil fun _ _ h => h)
    obtain ⟨G', ⟨⟨a, rfl⟩, rfl⟩, rfl⟩ := h
    refine ⟨.int (awd st (atW (wds st ((as.take N).take k))) x), ev_call D_atom_worth (by walk_at "rm") rfl (av_cons (ev_var 7 (by rfl) (pv 7)) (av_cons (ev_var 6 (by rfl) (pv 6)) (av_cons (ev_var 2 (by rfl) (pv 2)) (av_cons (ev_var 3 (by rfl) (pv 3)) (av_cons (ev_var 4 (by rfl) (pv 4)) av_nil))))) ⟨x, _, st, hst, by rw [hlen]; exact hax, rfl, rfl⟩, rfl, ?_, ⟨_, rfl⟩, ?_⟩
    · rw [List.length_map, hlen, sizeLine_eq]
      rw [List.length_take] at hkl
      omega
    · rw [List.take_add_one, hx]
      show _ = (wds st (_ ++ [x])).map PyData.int
      rw [wds_app, List.map_append]
      rfl
  case out =>
    rintro G ds ⟨⟨a, rfl⟩, rfl⟩
    exact svs_ret (sv_ret (ev_call D_added_up (by walk_at "rm") rfl (av_cons (ev_var 1 (by rfl) (pv 1)) (av_cons (ev_var 6 (by rfl) (pv 6)) av_nil)) ⟨t, _, rfl, hw, hkb, rfl⟩))
end
section
variable {P : Program} {w : World} {K : PySem.W.Frag} {mg : Str → Option Value} {base : Heap}
variable {C : Addr}
def ltP : List (Int × Int) → List (Int × Int) → Bool
  | [], [] => false
  | [], _ :: _ => true
  | _ :: _, [] => false
  | p :: ps, q :: qs => if p = q then ltP ps qs else if p.1 = q.1 then decide (p.2 < q.2) else decide (p.1 < q.1)
def ltT (t u : Tm) : Bool := if t.1 = u.1 then ltP t.2 u.2 else decide (t.1 < u.1)
theorem ltP_irr : ∀ ps : List (Int × Int), ltP ps ps = false
  | [] => rfl
  | p :: ps => by rw [ltP, if_pos rfl, ltP_irr ps]
theorem dec_flip {a b : Int} (h : a ≠ b) : decide (a < b) = !decide (b < a) := by
  by_cases h1 : a < b
  · rw [decide_eq_true h1, decide_eq_false (show ¬ b < a by omega)]; rfl
  · rw [decide_eq_false h1, decide_eq_true (show b < a by omega)]; rfl
theorem ltP_tri : ∀ ps qs : List (Int × Int), ps ≠ qs → ltP ps qs = !ltP qs ps
  | [], [], h => absurd rfl h
  | [], _ :: _, _ => rfl
  | _ :: _, [], _ => rfl
  | p :: ps, q :: qs, h => by
    rw [ltP, ltP]
    by_cases e : p = q
    · subst e
      rw [if_pos rfl, if_pos rfl]
      exact ltP_tri ps qs fun z => h (by rw [z])
    · rw [if_neg e, if_neg (Ne.symm e)]
      by_cases e1 : p.1 = q.1
      · rw [if_pos e1, if_pos e1.symm]
        exact dec_flip fun z => e (Prod.ext e1 z)
      · rw [if_neg e1, if_neg (Ne.symm e1)]
        exact dec_flip e1
theorem ltT_irr (t : Tm) : ltT t t = false := by
  unfold ltT
  rw [if_pos rfl, ltP_irr]
theorem ltT_tri {t u : Tm} (h : t ≠ u) : ltT t u = !ltT u t := by
  unfold ltT
  by_cases e : t.1 = u.1
  · rw [if_pos e, if_pos e.symm]
    exact ltP_tri _ _ fun z => h (Prod.ext e z)
  · rw [if_neg e, if_neg (Ne.symm e)]
    exact dec_flip e
theorem pair_eqv (p q : Int × Int) : PyData.eqv (pairD p) (pairD q) = decide (p = q) := by
  rw [Bool.eq_iff_iff, eqv_kT (pairD p) (pairD q) rfl rfl, decide_eq_true_iff]
  exact ⟨pairD_inj, fun h => by rw [h]⟩
theorem ltO_pair {p q : Int × Int} (h : p ≠ q) : ltO (pairD p) (pairD q) = some (if p.1 = q.1 then decide (p.2 < q.2) else decide (p.1 < q.1)) := by
  unfold pairD
  rw [ltO, ltOs, eqv_i]
  by_cases e1 : p.1 = q.1
  · have e2 : p.2 ≠ q.2 := fun z => h (Prod.ext e1 z)
    rw [if_pos (decide_eq_true e1), if_pos e1, ltOs, eqv_i, if_neg (by simp [e2]), ltO]
  · rw [if_neg (by simp [e1]), if_neg e1, ltO]
theorem ltOs_pairs : ∀ ps qs : List (Int × Int), ltOs (ps.map pairD) (qs.map pairD) = some (ltP ps qs)
  | [], [] => rfl
  | [], _ :: _ => rfl
  | _ :: _, [] => rfl
  | p :: ps, q :: qs => by
    rw [List.map_cons, List.map_cons, ltOs, pair_eqv, ltP]
    by_cases e : p = q
    · rw [if_pos (decide_eq_true e), if_pos e]
      exact ltOs_pairs ps qs
    · rw [if_neg (by simp [e]), if_neg e, ltO_pair e]
theorem tup_kT (m : List (Int × Int)) : kT (.tuple (m.map pairD)) = true := by
  unfold kT
  exact kTs_pairs m
theorem ltO_tm (t u : Tm) : ltO (tmD t) (tmD u) = some (ltT t u) := by
  unfold tmD ltT
  rw [ltO, ltOs, eqv_i]
  by_cases e : t.1 = u.1
  · rw [if_pos (decide_eq_true e), if_pos e, ltOs]
    by_cases e2 : t.2 = u.2
    · have : PyData.eqv (.tuple (t.2.map pairD)) (.tuple (u.2.map pairD)) = true := by
        rw [e2]
        exact (eqv_kT (.tuple (u.2.map pairD)) (.tuple (u.2.map pairD)) (tup_kT u.2) (tup_kT u.2)).mpr rfl
      rw [if_pos this, ltOs, e2, ltP_irr]
    · have : ¬ PyData.eqv (.tuple (t.2.map pairD)) (.tuple (u.2.map pairD)) = true := fun z => by
        have z := (eqv_kT (.tuple (t.2.map pairD)) (.tuple (u.2.map pairD)) (tup_kT t.2) (tup_kT u.2)).mp z
        have : tmD t = tmD u := by unfold tmD; rw [e, z]
        exact e2 (by rw [tmD_inj this])
      rw [if_neg this, ltO, ltOs_pairs]
  · rw [if_neg (by simp [e]), if_neg e, ltO]
theorem made_mem {n : Int} {m : List (Int × Int)} {a : Int} (h : a ∈ kys (made n m).2) : a ∈ kys m := by
  rw [made_kys] at h
  exact (srtI_mem a _).mp (List.mem_filter.mp h).1
theorem lsumK {n : Nat} {t u : Tm} {k : Int} (ht : Kb n t) (hu : Kb n u) : Kb n (lsum t u k) := fun a ha => by
  rcases addI_mem k _ _ (made_mem ha) with h | h
  · exact ht a h
  · exact hu a h
theorem minusK {n : Nat} {t u : Tm} (wt : Wf t) (wu : Wf u) (ht : Kb n t) (hu : Kb n u) : Kb n (minusT t u) := by
  rw [minus_lsum wt wu]
  exact lsumK ht hu
theorem tm_kTs (t : Tm) : kTs [.int t.1, .tuple (t.2.map pairD)] = true := tm_kT t
abbrev vl (s : Sta) (as : List Atm) (t : Tm) : Int := valT (atW (wds s as)) t
theorem wds_at (s : Sta) {as : List Atm} {i : Nat} {x : Atm} (h : as[i]? = some x) : (wds s as)[i]? = some (awd s (atW (wds s (as.take i))) x) := by
  have hi : i < as.length := (List.getElem?_eq_some_iff.mp h).1
  have e : as = (as.take i ++ [x]) ++ as.drop (i + 1) := by
    have h2 := List.take_append_drop (i + 1) as
    rw [List.take_add_one, h] at h2
    exact h2.symm
  have hl : (as.take i).length = i := by rw [List.length_take]; omega
  obtain ⟨cs, ec⟩ := wds_pre s (as.take i ++ [x]) (as.drop (i + 1))
  rw [← e, wds_app] at ec
  rw [ec, List.append_assoc, List.getElem?_append_right (by rw [wds_len, hl]; exact Nat.le_refl _), wds_len, hl, Nat.sub_self]
  rfl
theorem val_one (w : Int → Int) (n a c : Int) : valT w (n, [(a, c)]) = (n + c * w a) % 4096 := by
  unfold valT sumw
  simp
end
section
variable {P : Program} {w : World} {K : PySem.W.Frag} {mg : Str → Option Value} {base : Heap}
def cF4 (a b : Int) : Int := (a * 2147483629 + b) * 2147483587 + (b + a) * (b + 7) % 2147483587
def cF3 (a b : Int) : Int := cF4 a (b * b % 2147483629)
def cF2 (a k : Int) : Int := cF3 a ((a + 69621 * (k + 1)) * 40692 % 998244353)
def cF1 (a k : Int) : Int := cF2 (a * a % 1000000007) k
def cF0 (c k : Int) : Int := cF1 ((c % 2147483647 + 977 * k + 1) * 48271 % 2147483647) k
def cIn (ns : List Int) (k : Nat) : Int := if 0 < ns.length then ns.getD (k % ns.length) 0 % 10 ^ 60 else 0
def cellN (ns : List Int) (k : Nat) : Int := if 10 ^ 18 ≤ cIn ns k ∧ k < ns.length then cIn ns k else cF0 (cIn ns k) k
theorem cIn_range (ns : List Int) (k : Nat) : 0 ≤ cIn ns k ∧ cIn ns k < 10 ^ 60 := by
  unfold cIn
  split
  · omega
  · omega
theorem cF4_range {a b : Int} (a0 : 0 ≤ a) (a1 : a < 1000000007) (b0 : 0 ≤ b) (b1 : b < 2147483629) : 0 ≤ cF4 a b ∧ cF4 a b < 10 ^ 60 := by
  unfold cF4
  generalize (b + a) * (b + 7) = z
  omega
theorem cF0_range (c k : Int) : 0 ≤ cF0 c k ∧ cF0 c k < 10 ^ 60 := by
  unfold cF0 cF1 cF2 cF3
  exact cF4_range (by omega) (by omega) (by omega) (by omega)
theorem cellN_range (ns : List Int) (k : Nat) : 0 ≤ cellN ns k ∧ cellN ns k < 10 ^ 60 := by
  unfold cellN
  split
  · exact cIn_range ns k
  · exact cF0_range _ _
def F_cell (ds : List PyData) (d : PyData) : Prop := ∃ (ns : List Int) (k : Nat), ds = [.list (ns.map .int), .int (k : Int)] ∧ ns.length ≤ 64 ∧ k ≤ 1000 ∧ d = .int (cellN ns k)
theorem d_law_cell (T : Txt mg) {f : Addr} {fd : FuncData} (F : Fun K "_law_cell" "_law_cell" s_law_cell f fd) (hm : mg "_law_cell" = some (.ref f)) : DFn P w K mg base 1 "_law_cell" F_cell := by
  refine F.data hm (F.binds fun _ _ _ _ _ _ us hl => match us, hl with | [_, _], _ => rfl) sc_law_cell (fun ds d ⟨_, _, e, _⟩ => by rw [e]; rfl) fun cdv A outer s H E ds d hr ⟨ns, k, e, hns, hk, e2⟩ => ?_
  subst e e2
  have hlm : ((List.map PyData.int ns).length : Int) = ns.length := by rw [List.length_map]
  refine svs_cons (sv_set (i := 2) sc_law_cell.nd rfl (by first | exact Or.inl rfl | exact Or.inr rfl) ev_int) ?_
  refine svs_cons (G1 := [some (.list (ns.map PyData.int)), some (.int (k : Int)), some (.int (cIn ns k)), none, none, none]) ?_ ?_
  · by_cases hz : 0 < ns.length
    · have hp : 0 < ((List.map PyData.int ns).length : Int) := by omega
      have i0 : 0 ≤ (k : Int) % ((List.map PyData.int ns).length : Int) := Int.emod_nonneg _ (by omega)
      have i1 : (k : Int) % ((List.map PyData.int ns).length : Int) < ns.length := by rw [← hlm]; exact Int.emod_lt_of_pos _ hp
      have e : cIn ns k = ns.getD ((k : Int) % ((List.map PyData.int ns).length : Int)).toNat 0 % 10 ^ 60 := by
        unfold cIn
        rw [if_pos hz, hlm]
        congr 2
      refine sv_if (k := true) (tv_eq (tv_cmp (ev_callB2 "len" (av_cons (ev_var 0 (by rfl) (pv 0)) av_nil) (by walk_at "cd") rfl T.b_len (by decide +kernel)) ev_int (by walk_at "od") (nomark _)) (by simp; omega)) (fun _ => svs_cons (sv_set (i := 2) (d := .int (cIn ns k)) sc_law_cell.nd rfl (Or.inl rfl) (ev_eq (ev_bin (ev_ixL (ev_var 0 (by rfl) (pv 0)) (ev_bin (ev_var 1 (by rfl) (pv 1)) (ev_callB2 "len" (av_cons (ev_var 0 (by rfl) (pv 0)) av_nil) (by walk_at "cd") rfl T.b_len (by decide +kernel)) (by walk_at "od")) (at_ints i0 i1)) (ev_bin ev_int ev_int (by walk_at "od")) (by walk_at "od")) (by rw [e]; rfl))) svs_nil) (fun h => by cases h)
    · have e : cIn ns k = 0 := by unfold cIn; rw [if_neg hz]
      rw [e]
      exact sv_if (k := false) (tv_eq (tv_cmp (ev_callB2 "len" (av_cons (ev_var 0 (by rfl) (pv 0)) av_nil) (by walk_at "cd") rfl T.b_len (by decide +kernel)) ev_int (by walk_at "od") (nomark _)) (by simp; exact List.eq_nil_of_length_eq_zero (by omega))) (fun h => by cases h) (fun _ => svs_nil)
  have hc := cIn_range ns k
  unfold cellN
  generalize cIn ns k = c at hc
  by_cases hb : 10 ^ 18 ≤ c ∧ k < ns.length
  · rw [if_pos hb]
    refine svs_ret (sv_if (k := true) (tv_eq (tv_w (wv_and (tv_cmp (ev_var 2 (by rfl) (pv 2)) (ev_bin ev_int ev_int (by walk_at "od")) (by walk_at "od") (nomark _)) (fun _ => (wv_and1 (tv_cmp (ev_var 1 (by rfl) (pv 1)) (ev_callB2 "len" (av_cons (ev_var 0 (by rfl) (pv 0)) av_nil) (by walk_at "cd") rfl T.b_len (by decide +kernel)) (by walk_at "od") (nomark _)))))) ?_) (fun _ => svs_ret (sv_ret (ev_var 2 (by rfl) (pv 2)))) (fun h => by cases h))
    rw [hlm, decide_eq_true (show (k : Int) < ns.length by omega)]
    show (decide ((10 : Int) ^ 18 ≤ c) && true) = true
    rw [decide_eq_true hb.1]
    rfl
  · rw [if_neg hb]
    refine svs_cons (sv_if (k := false) (tv_eq (tv_w (wv_and (tv_cmp (ev_var 2 (by rfl) (pv 2)) (ev_bin ev_int ev_int (by walk_at "od")) (by walk_at "od") (nomark _)) (fun _ => (wv_and1 (tv_cmp (ev_var 1 (by rfl) (pv 1)) (ev_callB2 "len" (av_cons (ev_var 0 (by rfl) (pv 0)) av_nil) (by walk_at "cd") rfl T.b_len (by decide +kernel)) (by walk_at "od") (nomark _)))))) ?_) (fun h => by cases h) (fun _ => svs_nil)) ?_
    · rw [hlm]
      show (decide ((10 : Int) ^ 18 ≤ c) && decide ((k : Int) < ns.length)) = false
      by_cases h1 : (10 : Int) ^ 18 ≤ c
      · rw [decide_eq_false (show ¬ (k : Int) < ns.length by omega), Bool.and_false]
      · rw [decide_eq_false h1, Bool.false_and]
    unfold cF0
    refine svs_cons (sv_set (i := 3) (d := .int ((c % 2147483647 + 977 * (k : Int) + 1) * 48271 % 2147483647)) sc_law_cell.nd rfl (Or.inl rfl) (ev_eq (ev_bin (ev_bin (ev_bin (ev_bin (ev_bin (ev_var 2 (by rfl) (pv 2)) ev_int (by walk_at "od")) (ev_bin ev_int (ev_var 1 (by rfl) (pv 1)) (by walk_at "od")) (by walk_at "od")) ev_int (by walk_at "od")) ev_int (by walk_at "od")) ev_int (by walk_at "od")) rfl)) ?_
    have h1 : 0 ≤ (c % 2147483647 + 977 * (k : Int) + 1) * 48271 % 2147483647 ∧ (c % 2147483647 + 977 * (k : Int) + 1) * 48271 % 2147483647 < 2147483647 := by omega
    generalize (c % 2147483647 + 977 * (k : Int) + 1) * 48271 % 2147483647 = a at h1
    unfold cF1
    refine svs_cons (sv_set (i := 3) (d := .int (a * a % 1000000007)) sc_law_cell.nd rfl (Or.inl rfl) (ev_eq (ev_bin (ev_bin (ev_var 3 (by rfl) (pv 3)) (ev_var 3 (by rfl) (pv 3)) (by walk_at "od")) ev_int (by walk_at "od")) rfl)) ?_
    have h2 : 0 ≤ a * a % 1000000007 ∧ a * a % 1000000007 < 1000000007 := by omega
    generalize a * a % 1000000007 = a2 at h2
    unfold cF2
    refine svs_cons (sv_set (i := 4) (d := .int ((a2 + 69621 * ((k : Int) + 1)) * 40692 % 998244353)) sc_law_cell.nd rfl (Or.inl rfl) (ev_eq (ev_bin (ev_bin (ev_bin (ev_var 3 (by rfl) (pv 3)) (ev_bin ev_int (ev_bin (ev_var 1 (by rfl) (pv 1)) ev_int (by walk_at "od")) (by walk_at "od")) (by walk_at "od")) ev_int (by walk_at "od")) ev_int (by walk_at "od")) rfl)) ?_
    have h3 : 0 ≤ (a2 + 69621 * ((k : Int) + 1)) * 40692 % 998244353 ∧ (a2 + 69621 * ((k : Int) + 1)) * 40692 % 998244353 < 998244353 := by omega
    generalize (a2 + 69621 * ((k : Int) + 1)) * 40692 % 998244353 = b at h3
    unfold cF3
    refine svs_cons (sv_set (i := 4) (d := .int (b * b % 2147483629)) sc_law_cell.nd rfl (Or.inl rfl) (ev_eq (ev_bin (ev_bin (ev_var 4 (by rfl) (pv 4)) (ev_var 4 (by rfl) (pv 4)) (by walk_at "od")) ev_int (by walk_at "od")) rfl)) ?_
    have h4 : 0 ≤ b * b % 2147483629 ∧ b * b % 2147483629 < 2147483629 := by omega
    generalize b * b % 2147483629 = b2 at h4
    unfold cF4
    refine svs_cons (sv_set (i := 5) (d := .int ((b2 + a2) * (b2 + 7) % 2147483587)) sc_law_cell.nd rfl (Or.inl rfl) (ev_eq (ev_bin (ev_bin (ev_bin (ev_var 4 (by rfl) (pv 4)) (ev_var 3 (by rfl) (pv 3)) (by walk_at "od")) (ev_bin (ev_var 4 (by rfl) (pv 4)) ev_int (by walk_at "od")) (by walk_at "od")) ev_int (by walk_at "od")) rfl)) ?_
    exact svs_ret (sv_ret (ev_eq (ev_bin (ev_bin (ev_bin (ev_bin (ev_var 3 (by rfl) (pv 3)) ev_int (by walk_at "od")) (ev_var 4 (by rfl) (pv 4)) (by walk_at "od")) ev_int (by walk_at "od")) (ev_var 5 (by rfl) (pv 5)) (by walk_at "od")) rfl))
local macro_rules | `(tactic| walk_at "u1") => `(tactic| exact Nat.lt_of_le_of_lt (Nat.add_le_add_left (by decide) _) (Room.units (by assumption)))
variable {C : Addr}
def wrdL (c k : Int) : List Int := [c / (7 + 4096 * k) % 4096, 0, 1, 4095, 2048]
def wrdN (c k : Int) : Int := (wrdL c k).getD ((c + k) % 5).toNat 0
theorem wrd_in (c k : Int) : 0 ≤ wrdN c k ∧ wrdN c k < 4096 := by
  unfold wrdN wrdL
  have : ((c + k) % 5).toNat = 0 ∨ ((c + k) % 5).toNat = 1 ∨ ((c + k) % 5).toNat = 2 ∨ ((c + k) % 5).toNat = 3 ∨ ((c + k) % 5).toNat = 4 := by omega
  rcases this with h | h | h | h | h <;> rw [h]
  · show 0 ≤ c / (7 + 4096 * k) % 4096 ∧ c / (7 + 4096 * k) % 4096 < 4096
    generalize c / (7 + 4096 * k) = z
    omega
  · exact show (0 : Int) ≤ 0 ∧ (0 : Int) < 4096 by decide
  · exact show (0 : Int) ≤ 1 ∧ (1 : Int) < 4096 by decide
  · exact show (0 : Int) ≤ 4095 ∧ (4095 : Int) < 4096 by decide
  · exact show (0 : Int) ≤ 2048 ∧ (2048 : Int) < 4096 by decide
def F_word (ds : List PyData) (d : PyData) : Prop := ∃ c k : Int, 0 ≤ c ∧ c < 10 ^ 60 ∧ 0 ≤ k ∧ k < 8 ∧ ds = [.int c, .int k] ∧ d = .int (wrdN c k)
theorem d_law_word {f : Addr} {fd : FuncData} (F : Fun K "_law_word" "_law_word" s_law_word f fd) (hm : mg "_law_word" = some (.ref f)) : DFn P w K mg base 1 "_law_word" F_word := by
  refine F.data hm (F.binds fun _ _ _ _ _ _ us hl => match us, hl with | [_, _], _ => rfl) sc_law_word (fun ds d ⟨_, _, _, _, _, _, e, _⟩ => by rw [e]; rfl) fun cdv A outer s H E ds d hr ⟨c, k, c0, c1, k0, k1, e, e2⟩ => ?_
  subst e e2
  have h5 : 0 ≤ (c + k) % 5 ∧ (c + k) % 5 < 5 := by omega
  exact svs_ret (sv_ret (ev_ixL (ds := [.int (c / (7 + 4096 * k) % 4096), .int 0, .int 1, .int 4095, .int 2048]) (d := .int (wrdN c k)) (ev_lst (av_cons (ev_bin (ev_bin (ev_var 0 (by rfl) (pv 0)) (ev_bin ev_int (ev_bin ev_int (ev_var 1 (by rfl) (pv 1)) (by walk_at "od")) (by walk_at "od")) (by walk_at "od")) ev_int (by walk_at "od")) (av_cons ev_int (av_cons ev_int (av_cons ev_int (av_cons ev_int av_nil))))) (by walk_at "sz")) (ev_bin (ev_bin (ev_var 0 (by rfl) (pv 0)) (ev_var 1 (by rfl) (pv 1)) (by walk_at "od")) ev_int (by walk_at "od")) (show atI ((wrdL c k).map PyData.int) ((c + k) % 5) = _ from at_ints h5.1 h5.2)))
abbrev stD (s : Sta) : PyData := .list [bxD s, trD s, rdD s]
end
section
variable {P : Program} {w : World} {K : PySem.W.Frag} {mg : Str → Option Value} {base : Heap}
local macro_rules | `(tactic| walk_at "u1") => `(tactic| exact Nat.lt_of_le_of_lt (Nat.add_le_add_left (by decide) _) (Room.units (by assumption)))
variable {C : Addr}
def modN (k : Int) : Int := ([4096, 9] : List Int).getD (k % 2).toNat 0
theorem modN_in (k : Int) : 0 < modN k ∧ modN k ≤ 4096 := by
  unfold modN
  have : (k % 2).toNat = 0 ∨ (k % 2).toNat = 1 := by omega
  rcases this with h | h <;> rw [h]
  · exact show (0 : Int) < 4096 ∧ (4096 : Int) ≤ 4096 by decide
  · exact show (0 : Int) < 9 ∧ (9 : Int) ≤ 4096 by decide
def rdN (ns : List Int) : Nat → PM
  | 0 => []
  | k + 1 => putP (rdN ns k) (wrdN (cellN ns (50 + k)) (0 + (k : Int)) % modN (0 + (k : Int)), cellN ns (50 + k) % 10) (cellN ns (50 + k) / 77 % 4096)
def stN (ns : List Int) : Sta := ⟨(List.range (4 : Int).toNat).map fun (k : Nat) => wrdN (cellN ns 61) (0 + (k : Int)), [decide (cellN ns 62 % 2 = 1), decide (cellN ns 62 / 2 % 2 = 1)], rdN ns 8⟩
theorem put_mem {m : PM} {k : Int × Int} {n : Int} {q : (Int × Int) × Int} (h : q ∈ putP m k n) : q ∈ m ∨ q.2 = n := by
  unfold putP at h
  split at h
  · obtain ⟨r, hr, e⟩ := List.mem_map.mp h
    split at e
    · exact .inr (by rw [← e])
    · exact .inl (by rw [← e]; exact hr)
  · rcases List.mem_append.mp h with h | h
    · exact .inl h
    · exact .inr (by rw [List.mem_singleton.mp h])
theorem put_len (m : PM) (k : Int × Int) (n : Int) : (putP m k n).length ≤ m.length + 1 := by
  unfold putP
  split
  · rw [List.length_map]; omega
  · rw [List.length_append]; exact Nat.le_refl _
theorem rdN_len (ns : List Int) : ∀ k, (rdN ns k).length ≤ k
  | 0 => Nat.le_refl _
  | k + 1 => Nat.le_trans (put_len _ _ _) (Nat.succ_le_succ (rdN_len ns k))
theorem rdN_w (ns : List Int) : ∀ k, ∀ q ∈ rdN ns k, 0 ≤ q.2 ∧ q.2 < 4096
  | 0, q, h => by cases h
  | k + 1, q, h => by
    rcases put_mem h with h | h
    · exact rdN_w ns k q h
    · rw [h]
      generalize cellN ns (50 + k) / 77 = z
      omega
theorem stN_ok (ns : List Int) : StOk (stN ns) := ⟨rfl, rfl, fun x hx => by
  obtain ⟨k, _, e⟩ := List.mem_map.mp hx
  rw [← e]
  exact wrd_in _ _, rdN_w ns 8⟩
def F_state (ds : List PyData) (d : PyData) : Prop := ∃ ns : List Int, ns.length ≤ 64 ∧ ds = [.list (ns.map PyData.int)] ∧ d = stD (stN ns)
set_option maxHeartbeats 10000000 in
theorem d_law_state (T : Txt mg) (D_law_cell : DFn P w K mg base 1 "_law_cell" F_cell) (D_law_word : DFn P w K mg base 1 "_law_word" F_word) {f : Addr} {fd : FuncData} (F : Fun K "_law_state" "_law_state" s_law_state f fd) (hm : mg "_law_state" = some (.ref f)) : DFn P w K mg base 2 "_law_state" F_state := by
  refine F.data hm (F.binds fun _ _ _ _ _ _ us hl => match us, hl with | [_], _ => rfl) sc_law_state (fun ds d ⟨_, _, e, _⟩ => by rw [e]; rfl) fun cdv A outer s H E ds d hr ⟨ns, hns, e, e2⟩ => ?_
  subst e e2
  have c61 := cellN_range ns 61
  have c62 := cellN_range ns 62
  refine svs_cons (G1 := [some (.list (ns.map PyData.int)), some (bxD (stN ns)), none, none, none, none]) (sv_setComp (ix := [0]) (N := ["k", "script"]) (B := bind1) (as := List.range (4 : Int).toNat) (D := fun (k : Nat) => PyData.int (0 + (k : Int))) (fun _ => true) (fun (k : Nat) => PyData.int (wrdN (cellN ns 61) (0 + (k : Int)))) rfl sc_law_state.nd (i := 1) rfl rfl (of_decide_eq_true (by kernel_rfl)) (own_name (by decide)) (iv_range1 ev_int (by decide) (by decide) rfl T.b_range) (by rw [sizeLine_eq]; decide) (fun _ _ => bindD1 _) (fun _ _ _ _ _ => pg_name (i := 0) (show List.Nodup (["k", "script"] : List Str) by decide +kernel) rfl (Or.inl rfl)) (fun a ha cl C s H fp => pf_D0)
    (fun k hk _ cl C s H fp => ev_call D_law_word (d := .int (wrdN (cellN ns 61) (0 + (k : Int)))) (by walk_at "rm") rfl (av_cons (ev_call D_law_cell (d := .int (cellN ns 61)) (by walk_at "rm") rfl (av_cons (ev_var 1 (by rfl) (pv 1)) (av_cons ev_int av_nil)) ⟨ns, 61, rfl, hns, by decide, rfl⟩) (av_cons (ev_var 0 (by rfl) (pv 0)) av_nil)) ⟨_, _, c61.1, c61.2, by omega, by have := List.mem_range.mp hk; have e : (4 : Int).toNat = 4 := rfl; omega, rfl, rfl⟩)) ?_
  refine svs_cons (G1 := [some (.list (ns.map PyData.int)), some (bxD (stN ns)), some (trD (stN ns)), none, none, none]) (sv_set (i := 2) (d := trD (stN ns)) sc_law_state.nd rfl (Or.inl rfl) (ev_tup (ds := [.bool (decide (cellN ns 62 % 2 = 1)), .bool (decide (cellN ns 62 / 2 % 2 = 1))]) (av_cons (ev_cmp (ev_bin (ev_call D_law_cell (d := .int (cellN ns 62)) (by walk_at "rm") rfl (av_cons (ev_var 0 (by rfl) (pv 0)) (av_cons ev_int av_nil)) ⟨ns, 62, rfl, hns, by decide, rfl⟩) ev_int (by walk_at "od")) ev_int (od_eq (by walk_at "un") rfl rfl (by walk_at "dp") (eqv_i _ _)) (nomark _)) (av_cons (ev_cmp (ev_bin (ev_bin (ev_call D_law_cell (d := .int (cellN ns 62)) (by walk_at "rm") rfl (av_cons (ev_var 0 (by rfl) (pv 0)) (av_cons ev_int av_nil)) ⟨ns, 62, rfl, hns, by decide, rfl⟩) ev_int (by walk_at "od")) ev_int (by walk_at "od")) ev_int (od_eq (by walk_at "un") rfl rfl (by walk_at "dp") (eqv_i _ _)) (nomark _)) av_nil)) (by walk_at "sz"))) ?_
  refine svs_ownP (i := 3) sc_law_state.nd rfl (Or.inl rfl) (show 3 < 6 by decide) fun H0 p => ?_
  refine prs_cons (Mid := fun G m => (∃ a b, G = [some (.list (ns.map PyData.int)), some (bxD (stN ns)), some (trD (stN ns)), none, a, b]) ∧ m = rdN ns 8)
    (pt_forR (j := 4) (lo := 0) (n := 8) (fun k G m => (∃ a b, G = [some (.list (ns.map PyData.int)), some (bxD (stN ns)), some (trD (stN ns)), none, a, b]) ∧ m = rdN ns k) PassesOwn.never rfl (by decide) (pg_name (i := 4) sc_law_state.nd rfl (Or.inl rfl)) ?pre ?body (fun _ _ h => h)) (prs_out ?out)
  case pre =>
    rintro G m ⟨rfl, rfl⟩
    exact ⟨⟨⟨_, _, rfl⟩, rfl⟩, pi_r1 ev_int (by decide) (by decide) rfl T.b_range⟩
  case body =>
    intro k hk
    have hc := cellN_range ns (50 + k)
    have hm := modN_in (0 + (k : Int))
    refine pts_cons (Mid := fun G m => G = [some (.list (ns.map PyData.int)), some (bxD (stN ns)), some (trD (stN ns)), none, some (.int (0 + (k : Int))), some (.int (cellN ns (50 + k)))] ∧ m = rdN ns k) (pt_set (j := 5) sc_law_state.nd rfl (by decide) (Or.inl rfl) (fun G m h => ?_)) (pts_cons (pt_put (by walk_at "u1") (fun G m h => ?_) (pv 3)) (pts_nil fun _ _ h => h))
    · obtain ⟨G', ⟨⟨a, b, rfl⟩, rfl⟩, rfl⟩ := h
      exact ⟨.int (cellN ns (50 + k)), ev_call D_law_cell (by walk_at "rm") rfl (av_cons (ev_var 0 (by rfl) (pv 0)) (av_cons (ev_eq (d' := .int ((50 + k : Nat) : Int)) (ev_bin ev_int (ev_var 4 (by rfl) (pv 4)) (by walk_at "od")) (by congr 1; omega)) av_nil)) ⟨ns, 50 + k, rfl, hns, by omega, rfl⟩, rfl, rfl, rfl⟩
    · obtain ⟨rfl, rfl⟩ := h
      refine ⟨wrdN (cellN ns (50 + k)) (0 + (k : Int)) % modN (0 + (k : Int)), cellN ns (50 + k) % 10, cellN ns (50 + k) / 77 % 4096, ?_, ?_, ?_, by have := rdN_len ns k; rw [sizeLine_eq]; omega, ⟨_, _, rfl⟩, rfl⟩
      · exact ev_bin (ev_call D_law_word (by walk_at "rm") rfl (av_cons (ev_var 5 (by rfl) (pv 5)) (av_cons (ev_var 4 (by rfl) (pv 4)) av_nil)) ⟨_, _, hc.1, hc.2, by omega, by omega, rfl, rfl⟩) (ev_ixL (ds := ([4096, 9] : List Int).map PyData.int) (d := .int (modN (0 + (k : Int)))) (ev_lst (ds := [.int 4096, .int 9]) (av_cons ev_int (av_cons ev_int av_nil)) (by walk_at "sz")) (ev_bin (ev_var 4 (by rfl) (pv 4)) ev_int (by walk_at "od")) (at_ints (by omega) (by show (0 + (k : Int)) % 2 < 2; omega))) (od_mod hm.1)
      · exact ev_bin (ev_var 5 (by rfl) (pv 5)) ev_int (by walk_at "od")
      · exact ev_bin (ev_bin (ev_var 5 (by rfl) (pv 5)) ev_int (by walk_at "od")) ev_int (by walk_at "od")
  case out =>
    rintro G m ⟨⟨a, b, rfl⟩, rfl⟩
    exact svs_ret (sv_ret (ev_lst (ds := [bxD (stN ns), trD (stN ns), rdD (stN ns)]) (av_cons (ev_var 1 (by rfl) (pv 1)) (av_cons (ev_var 2 (by rfl) (pv 2)) (av_cons (ev_var 3 (by rfl) (pv 3)) av_nil))) (by walk_at "sz")))
theorem put_key {m : PM} {k : Int × Int} {n : Int} {q : (Int × Int) × Int} (h : q ∈ putP m k n) : (∃ r ∈ m, q.1 = r.1) ∨ q.1 = k := by
  unfold putP at h
  split at h
  · obtain ⟨r, hr, e⟩ := List.mem_map.mp h
    split at e
    · rename_i e1; exact .inr (by rw [← e]; exact e1)
    · exact .inl ⟨r, hr, by rw [← e]⟩
  · rcases List.mem_append.mp h with h | h
    · exact .inl ⟨q, h, rfl⟩
    · exact .inr (by rw [List.mem_singleton.mp h])
theorem rdN_small (ns : List Int) : ∀ k, SmallP (rdN ns k)
  | 0, q, h => by cases h
  | k + 1, q, h => by
    rcases put_key h with ⟨r, hr, e⟩ | e
    · rw [e]; exact rdN_small ns k r hr
    · rw [e]
      have h1 := modN_in (0 + (k : Int))
      have h2 := Int.emod_nonneg (wrdN (cellN ns (50 + k)) (0 + (k : Int))) (show modN (0 + (k : Int)) ≠ 0 by omega)
      have h3 := Int.emod_lt_of_pos (wrdN (cellN ns (50 + k)) (0 + (k : Int))) h1.1
      exact ⟨⟨h2, by show wrdN (cellN ns (50 + k)) (0 + (k : Int)) % modN (0 + (k : Int)) < 4096; omega⟩, by show 0 ≤ cellN ns (50 + k) % 10; omega, by show cellN ns (50 + k) % 10 < 10; omega⟩
theorem stN_small (ns : List Int) : SmallP (stN ns).rd := rdN_small ns 8
end
section
variable {P : Program} {w : World} {K : PySem.W.Frag} {mg : Str → Option Value} {base : Heap}
local macro_rules | `(tactic| walk_at "u1") => `(tactic| exact Nat.lt_of_le_of_lt (Nat.add_le_add_left (by decide) _) (Room.units (by assumption)))
variable {C : Addr}
def F_wholeI (ds : List PyData) (d : PyData) : Prop := ∃ i : Int, ds = [.int i] ∧ d = .bool true
theorem d_law_whole (T : Txt mg) {f : Addr} {fd : FuncData} (F : Fun K "_law_whole" "_law_whole" s_law_whole f fd) (hm : mg "_law_whole" = some (.ref f)) : DFn P w K mg base 1 "_law_whole" F_wholeI := by
  refine F.data hm (F.binds fun _ _ _ _ _ _ us hl => match us, hl with | [_], _ => rfl) sc_law_whole (fun ds d ⟨_, e, _⟩ => by rw [e]; rfl) fun cdv A outer s H E ds d hr ⟨t, e, e2⟩ => ?_
  subst e e2
  exact svs_ret (sv_ret (ev_eq (d := .bool true) (ev_and (ev_isi (n := "int") (ev_var 0 (by rfl) (pv 0)) rfl T.b_isinstance rfl T.b_int (by decide +kernel) (by rfl)) (fun _ => ev_one (ev_eq (ev_not (ev_isi (n := "bool") (ev_var 0 (by rfl) (pv 0)) rfl T.b_isinstance rfl T.b_bool (by decide +kernel) (by rfl))) rfl)) (fun h => by cases h)) rfl))
theorem bx_lay (st : Sta) : (bxD st).canLay0 = true := by
  show PyData.canLay0 (.list (st.bx.map PyData.int)) = true
  unfold PyData.canLay0
  exact PySem.W.canLayAll0_ints _
theorem tr_lays (l : List Bool) : PyData.canLayAll0 (l.map PyData.bool) = true := by
  induction l with
  | nil => rfl
  | cons x r ih => rw [List.map_cons]; unfold PyData.canLayAll0; rw [ih]; rfl
theorem tr_lay (st : Sta) : (trD st).canLay0 = true := by
  show PyData.canLay0 (.tuple (st.tr.map PyData.bool)) = true
  unfold PyData.canLay0
  exact tr_lays _
theorem flat_depth (l : List PyData) (h : ∀ d ∈ l, d.depth = 0) : PyData.depthAll l = 0 := by
  induction l with
  | nil => rfl
  | cons x r ih =>
    unfold PyData.depthAll
    rw [ih fun d hd => h d (List.mem_cons_of_mem _ hd), h x List.mem_cons_self]
    rfl
theorem bx_depth (st : Sta) : (bxD st).depth ≤ 60 := by
  show PyData.depth (.list (st.bx.map PyData.int)) ≤ 60
  unfold PyData.depth
  rw [flat_depth _ fun d hd => by obtain ⟨x, _, rfl⟩ := List.mem_map.mp hd; rfl]
  decide
theorem tr_depth (st : Sta) : (trD st).depth ≤ 60 := by
  show PyData.depth (.tuple (st.tr.map PyData.bool)) ≤ 60
  unfold PyData.depth
  rw [flat_depth _ fun d hd => by obtain ⟨x, _, rfl⟩ := List.mem_map.mp hd; rfl]
  decide
def F_right (C : Addr) (ds : List PyData) (d : PyData) : Prop := ∃ (as : List Atm) (t : Tm) (st : Sta), StOk st ∧ SmallP st.rd ∧ AsOk as ∧ as.length ≤ 100 ∧ Wf t ∧ Kb as.length t ∧ ds = [tbD C as, tmD t, stD st, .int (vl st as t)] ∧ d = .bool true
set_option maxHeartbeats 10000000 in
theorem d_law_right (T : Txt mg) (CT : ClsT K C) (Dw : MFn P w K mg base 3 C "worth" (F_wor C)) (D_law_whole : DFn P w K mg base 1 "_law_whole" F_wholeI) {f : Addr} {fd : FuncData} (F : Fun K "_law_right" "_law_right" s_law_right f fd) (hm : mg "_law_right" = some (.ref f)) : DFn P w K mg base 4 "_law_right" (F_right C) := by
  refine F.data hm (F.binds fun _ _ _ _ _ _ us hl => match us, hl with | [_, _, _, _], _ => rfl) sc_law_right (fun ds d ⟨_, _, _, _, _, _, _, _, _, e, _⟩ => by rw [e]; rfl) fun cdv A outer s H E ds d hr ⟨as, t, st, hst, hsm, has, hal, hw, hk, e, e2⟩ => ?_
  subst e e2
  refine svs_cons (sv_set (i := 4) (d := stD st) sc_law_right.nd rfl (Or.inl rfl) (ev_lst (ds := [bxD st, trD st, rdD st]) (av_cons (evf_ev (evf_listL (ev_ixL (ds := [bxD st, trD st, rdD st]) (ev_var 2 (by rfl) (pv 2)) ev_int rfl) rfl T.b_list)) (av_cons (ev_ixL (ds := [bxD st, trD st, rdD st]) (ev_var 2 (by rfl) (pv 2)) ev_int rfl) (av_cons (ev_callTy2 "dict" (av_cons (ev_ixL (ds := [bxD st, trD st, rdD st]) (ev_var 2 (by rfl) (pv 2)) ev_int rfl) av_nil) (cd_dictPP hsm) rfl T.b_dict (by decide +kernel)) av_nil))) (by walk_at "sz"))) ?_
  refine svs_cons (sv_set (i := 5) (d := .int (vl st as t)) sc_law_right.nd rfl (Or.inl rfl) (ev_methD CT.cl Dw (by walk_at "rm") (ev_var 0 (by rfl) (pv 0)) (av_cons (ev_var 1 (by rfl) (pv 1)) (av_cons (ev_ixL (ds := [bxD st, trD st, rdD st]) (ev_var 4 (by rfl) (pv 4)) ev_int rfl) (av_cons (ev_ixL (ds := [bxD st, trD st, rdD st]) (ev_var 4 (by rfl) (pv 4)) ev_int rfl) (av_cons (ev_ixL (ds := [bxD st, trD st, rdD st]) (ev_var 4 (by rfl) (pv 4)) ev_int rfl) av_nil)))) ⟨as, t, st, hst, has, hal, hw, hk, rfl, rfl⟩)) ?_
  refine svs_ret (sv_ret (ev_eq (d := .bool true) (ev_and (ev_call D_law_whole (d := .bool true) (by walk_at "rm") rfl (av_cons (ev_var 5 (by rfl) (pv 5)) av_nil) ⟨_, rfl, rfl⟩) (fun _ => ev_and (ev_cmp (d := .bool true) (ev_var 5 (by rfl) (pv 5)) (ev_var 3 (by rfl) (pv 3)) (od_eq (by walk_at "un") rfl rfl (by walk_at "dp") (by rw [eqv_i]; exact decide_eq_true rfl)) (nomark _)) (fun _ => ev_one (ev_cmp (d := .bool true) (ev_var 4 (by rfl) (pv 4)) (ev_var 2 (by rfl) (pv 2)) (od_eqPP ?hu (bx_lay st) (tr_lay st) (bx_depth st) (tr_depth st) (eqv_self _ (bx_lay st)) (eqv_self _ (tr_lay st))) (nomark _))) (fun h => by cases h)) (fun h => by cases h)) rfl))
  walk_at "un"
end
section
variable {P : Program} {w : World} {K : PySem.W.Frag} {mg : Str → Option Value} {base : Heap}
def atm (i : Nat) : Tm := (0, [((i : Int), 1)])
theorem atm_wf {i : Nat} (h : i < 63) : Wf (atm i) := ⟨show (0 : Int) ≤ 0 ∧ (0 : Int) < 4096 by decide, by unfold atm; exact List.pairwise_singleton _ _, (fun a ha => by
  have : a = (i : Int) := List.mem_singleton.mp ha
  subst this
  exact ⟨by omega, by omega⟩), fun q hq => by
  have : q = ((i : Int), 1) := List.mem_singleton.mp hq
  subst this
  exact show (0 : Int) < 1 ∧ (1 : Int) < 4096 by decide⟩
local macro_rules | `(tactic| walk_at "u1") => `(tactic| exact Nat.lt_of_le_of_lt (Nat.add_le_add_left (by decide) _) (Room.units (by assumption)))
variable {C : Addr}
theorem i_init (CT : ClsT K C) {f : Addr} {fd : FuncData} (F : Fun K "__init__" "Table.__init__" s_Table_init f fd) (M : Mk K C f) : IFn P w K mg base 1 C := by
  refine ⟨f, fd, ["self"], F.ok sc_Table_init (fun vs H Q E ⟨a, dx, e, _⟩ => by rw [e]; rfl) (fun cdv A outer s H vs Q E hr ⟨a, dx, e, ha, q⟩ => ⟨_, tab_init (H := H) (a := a) (dx := dx) CT (fun _ => pv 0), a, dx, by rw [e]; rfl, ha, fun H' R h1 h2 tb old hla hda => q H' R h1 h2 tb old hla hda⟩), M, F.binds fun _ _ _ _ _ _ us hl => match us, hl with | [_], _ => rfl⟩
def F_at (T ds : List PyData) (d : PyData) (T' : List PyData) : Prop := ∃ (as : List PyData) (i : Nat), ds = [.tuple as] ∧ keyT (.tuple as) ∧ T.length < 900 ∧ T'[i]? = some (.tuple as) ∧ d = tmD (atm i) ∧ ((PyData.tuple as ∈ T ∧ T' = T) ∨ (PyData.tuple as ∉ T ∧ T' = T ++ [.tuple as]))
theorem t_atom_term (T : Txt mg) (CT : ClsT K C) {f : Addr} {fd : FuncData} (F : Fun K "atom_term" "Table.atom_term" s_Table_atom_term f fd) (hm : Meth K C "atom_term" f) : TFn P w K mg base 1 C "atom_term" F_at := by
  refine F.tabM hm (F.binds fun _ _ _ _ _ _ us hl => match us, hl with | [_, _], _ => rfl) sc_Table_atom_term (fun T ds d T' ⟨_, _, e, _⟩ => by rw [e]; rfl) fun cdv A outer s H E R L ds d L' hr hC ⟨as, i, e, hk, hl, hi, e2, hc⟩ => ?_
  subst hC e e2
  refine tr_cons (G1 := [none, some (.tuple as)]) (T1 := L') ?one (tr_ret (te_eq (te_tup (ta_cons (te_of ev_int rfl) (ta_cons (te_tup (ta_cons (te_tup (ta_cons (te_numAt (by walk_at "u1") CT (pv 0) (ev_var 1 (by rfl) (pv 1)) hk hi (fun _ _ => rfl)) (ta_cons (te_of ev_int rfl) ta_nil)) (by walk_at "sz")) ta_nil) (by walk_at "sz")) ta_nil)) (by walk_at "sz")) rfl))
  case one =>
    rcases hc with ⟨h1, rfl⟩ | ⟨h1, rfl⟩
    · exact tn_if (k := false) (tt_notIn (by walk_at "u1") CT (pv 0) (ev_var 1 (by rfl) (pv 1)) hk (fun z => by cases z) (fun _ => h1)) (fun z => by cases z) (fun _ => tn_nil)
    · refine tn_if (k := true) (tt_notIn (by walk_at "u1") CT (pv 0) (ev_var 1 (by rfl) (pv 1)) hk (fun _ => h1) (fun z => by cases z)) (fun _ => ?_) (fun z => by cases z)
      refine PSs.imp (pss_cons (ps_new1 (j := 1) (G := [none, some (.tuple as)]) (by walk_at "u1") CT (fun _ => pv 0) (fun _ => pv 1) rfl hk h1 rfl T.b_len) (pss_cons (ps_new2 (j := 1) (T := L) (G := [none, some (.tuple as)]) CT (fun _ => pv 0) (fun _ => pv 1) rfl hk hl) pss_nil)) fun D σ H ⟨r, q⟩ => ⟨r, fun H' mid => ⟨H, mid, fun H2 r2 s2 => q σ H2 r2 s2⟩⟩
def F_a2 (T ds : List PyData) (d : PyData) (T' : List PyData) : Prop := ∃ (kd : Str) (t u : Tm) (k1 k2 : Bool), ds = [.str kd, tmD t, tmD u] ∧ ltO (tmD u) (tmD t) = some k1 ∧ gtO (tmD u) (tmD t) = some k2 ∧ F_at T [.tuple [.str kd, if k1 = true then tmD u else tmD t, if k2 = true then tmD u else tmD t]] d T'
theorem t_atom_of_two (T : Txt mg) (CT : ClsT K C) (D : TFn P w K mg base 1 C "atom_term" F_at) {f : Addr} {fd : FuncData} (F : Fun K "atom_of_two" "Table.atom_of_two" s_Table_atom_of_two f fd) (hm : Meth K C "atom_of_two" f) : TFn P w K mg base 2 C "atom_of_two" F_a2 := by
  refine F.tabM hm (F.binds fun _ _ _ _ _ _ us hl => match us, hl with | [_, _, _, _], _ => rfl) sc_Table_atom_of_two (fun T ds d T' ⟨_, _, _, _, _, e, _⟩ => by rw [e]; rfl) fun cdv A outer s H E R L ds d L' hr hC ⟨kd, t, u, k1, k2, e, h1, h2, hF⟩ => ?_
  subst hC e
  have hkey : noLs [PyData.tuple [.str kd, if k1 = true then tmD u else tmD t, if k2 = true then tmD u else tmD t]] = true := by
    obtain ⟨as, i, e, hk, _⟩ := hF
    injection e with e
    unfold noLs
    rw [e, kT_noL hk.1]
    rfl
  exact tr_ret (te_meth CT.cl D (by walk_at "rm") (pv 0) (ta_of (av_cons (ev_tup (av_cons (ev_var 1 (by rfl) (pv 1)) (av_cons (ev_callB2 "min" (av_cons (ev_var 2 (by rfl) (pv 2)) (av_cons (ev_var 3 (by rfl) (pv 3)) av_nil)) (cd_minT rfl (by walk_at "u1") (tm_kTs t) (tm_kTs u) (Nat.le_trans (tm_depth t) (by decide)) h1) rfl T.b_min (by decide +kernel)) (av_cons (ev_callB2 "max" (av_cons (ev_var 2 (by rfl) (pv 2)) (av_cons (ev_var 3 (by rfl) (pv 3)) av_nil)) (cd_maxT rfl (by walk_at "u1") (tm_kTs t) (tm_kTs u) (Nat.le_trans (tm_depth t) (by decide)) h2) rfl T.b_max (by decide +kernel)) av_nil))) (by walk_at "sz")) av_nil) hkey) hF)
def F_box (T ds : List PyData) (d : PyData) (T' : List PyData) : Prop := ∃ k : Int, ds = [.int k] ∧ F_at T [.tuple [.str "box", .int k]] d T'
theorem t_box (CT : ClsT K C) (D : TFn P w K mg base 1 C "atom_term" F_at) {f : Addr} {fd : FuncData} (F : Fun K "box" "Table.box" s_Table_box f fd) (hm : Meth K C "box" f) : TFn P w K mg base 2 C "box" F_box := by
  refine F.tabM hm (F.binds fun _ _ _ _ _ _ us hl => match us, hl with | [_, _], _ => rfl) sc_Table_box (fun T ds d T' ⟨_, e, _⟩ => by rw [e]; rfl) fun cdv A outer s H E R L ds d L' hr hC ⟨k, e, hF⟩ => ?_
  subst hC e
  exact tr_ret (te_meth CT.cl D (by walk_at "rm") (pv 0) (ta_of (av_cons (ev_tup (av_cons ev_str (av_cons (ev_var 1 (by rfl) (pv 1)) av_nil)) (by walk_at "sz")) av_nil) rfl) hF)
def F_truth (T ds : List PyData) (d : PyData) (T' : List PyData) : Prop := ∃ k : Int, ds = [.int k] ∧ F_at T [.tuple [.str "truth", .int k]] d T'
theorem t_truth (CT : ClsT K C) (D : TFn P w K mg base 1 C "atom_term" F_at) {f : Addr} {fd : FuncData} (F : Fun K "truth" "Table.truth" s_Table_truth f fd) (hm : Meth K C "truth" f) : TFn P w K mg base 2 C "truth" F_truth := by
  refine F.tabM hm (F.binds fun _ _ _ _ _ _ us hl => match us, hl with | [_, _], _ => rfl) sc_Table_truth (fun T ds d T' ⟨_, e, _⟩ => by rw [e]; rfl) fun cdv A outer s H E R L ds d L' hr hC ⟨k, e, hF⟩ => ?_
  subst hC e
  exact tr_ret (te_meth CT.cl D (by walk_at "rm") (pv 0) (ta_of (av_cons (ev_tup (av_cons ev_str (av_cons (ev_var 1 (by rfl) (pv 1)) av_nil)) (by walk_at "sz")) av_nil) rfl) hF)
def F_cel (T ds : List PyData) (d : PyData) (T' : List PyData) : Prop := ∃ (t : Tm) (k : Int), ds = [tmD t, .int k] ∧ F_at T [.tuple [.str "cell", tmD t, .int k]] d T'
theorem t_cell (CT : ClsT K C) (D : TFn P w K mg base 1 C "atom_term" F_at) {f : Addr} {fd : FuncData} (F : Fun K "cell" "Table.cell" s_Table_cell f fd) (hm : Meth K C "cell" f) : TFn P w K mg base 2 C "cell" F_cel := by
  refine F.tabM hm (F.binds fun _ _ _ _ _ _ us hl => match us, hl with | [_, _, _], _ => rfl) sc_Table_cell (fun T ds d T' ⟨_, _, e, _⟩ => by rw [e]; rfl) fun cdv A outer s H E R L ds d L' hr hC ⟨t, k, e, hF⟩ => ?_
  subst hC e
  have hkey : noLs [PyData.tuple [.str "cell", tmD t, .int k]] = true := by
    obtain ⟨as, i, e, hk, _⟩ := hF
    injection e with e
    unfold noLs
    rw [e, kT_noL hk.1]
    rfl
  exact tr_ret (te_meth CT.cl D (by walk_at "rm") (pv 0) (ta_of (av_cons (ev_tup (av_cons ev_str (av_cons (ev_var 1 (by rfl) (pv 1)) (av_cons (ev_var 2 (by rfl) (pv 2)) av_nil))) (by walk_at "sz")) av_nil) hkey) hF)
end
section
variable {P : Program} {w : World} {K : PySem.W.Frag} {mg : Str → Option Value} {base : Heap}
local macro_rules | `(tactic| walk_at "u1") => `(tactic| exact Nat.lt_of_le_of_lt (Nat.add_le_add_left (by decide) _) (Room.units (by assumption)))
variable {C : Addr}
theorem and_nn {x y : Int} (hx : 0 ≤ x) (hy : 0 ≤ y) : Builtin.bitAnd x y = ((x.toNat &&& y.toNat : Nat) : Int) := by
  rw [← PyProof.Rows.bitAnd_eq]
  unfold PySem.Spec.bitAnd
  rw [decide_eq_true hx, decide_eq_true hy]
theorem not_not_i (x : Int) : PySem.Spec.bitNot (PySem.Spec.bitNot x) = x := by
  unfold PySem.Spec.bitNot
  omega
theorem or_nn {x y : Int} (hx : 0 ≤ x) (hy : 0 ≤ y) : PySem.Spec.bitOr x y = ((x.toNat ||| y.toNat : Nat) : Int) := by
  unfold PySem.Spec.bitOr PySem.Spec.bitAnd
  have h1 : ¬ 0 ≤ PySem.Spec.bitNot x := by unfold PySem.Spec.bitNot; omega
  have h2 : ¬ 0 ≤ PySem.Spec.bitNot y := by unfold PySem.Spec.bitNot; omega
  rw [decide_eq_false h1, decide_eq_false h2]
  show PySem.Spec.bitNot (PySem.Spec.bitNot _) = _
  rw [not_not_i, not_not_i, not_not_i]
theorem xor_nn {x y : Int} (hx : 0 ≤ x) (hy : 0 ≤ y) : Builtin.bitXor x y = ((x.toNat ||| y.toNat : Nat) : Int) - ((x.toNat &&& y.toNat : Nat) : Int) := by
  rw [← PyProof.Rows.bitXor_eq]
  unfold PySem.Spec.bitXor
  rw [or_nn hx hy, PyProof.Rows.bitAnd_eq, and_nn hx hy]
theorem and_in {x y : Int} (hx : 0 ≤ x ∧ x < 4096) (hy : 0 ≤ y ∧ y < 4096) : 0 ≤ Builtin.bitAnd x y ∧ Builtin.bitAnd x y < 4096 := by
  rw [and_nn hx.1 hy.1]
  have := Nat.and_le_left (n := x.toNat) (m := y.toNat)
  omega
theorem and_self' {x : Int} (hx : 0 ≤ x) : Builtin.bitAnd x x = x := by
  rw [and_nn hx hx, Nat.and_self]
  omega
theorem xor_in {x y : Int} (hx : 0 ≤ x ∧ x < 4096) (hy : 0 ≤ y ∧ y < 4096) : 0 ≤ Builtin.bitXor x y ∧ Builtin.bitXor x y < 4096 := by
  rw [xor_nn hx.1 hy.1]
  have h1 := Nat.and_le_left (n := x.toNat) (m := y.toNat)
  have h2 := Nat.left_le_or (n := x.toNat) (m := y.toNat)
  have h3 : x.toNat ||| y.toNat < 2 ^ 12 := Nat.or_lt_two_pow (by omega) (by omega)
  omega
theorem xor_self' {x : Int} (hx : 0 ≤ x) : Builtin.bitXor x x = 0 := by
  rw [xor_nn hx hx, Nat.and_self, Nat.or_self]
  omega
def andS (t u : Tm) : Option Tm := if t.2 = [] ∧ u.2 = [] then some (numT (Builtin.bitAnd t.1 u.1)) else if t = u ∨ u = (4095, []) then some t else if t = (4095, []) then some u else if t = (0, []) ∨ u = (0, []) then some (0, []) else none
def xorS (t u : Tm) : Option Tm := if t.2 = [] ∧ u.2 = [] then some (numT (Builtin.bitXor t.1 u.1)) else if t = u then some (0, []) else if u = (0, []) then some t else if t = (0, []) then some u else none
def mulS (t u : Tm) : Option Tm := if t.2 = [] then some (manyT u t.1) else if u.2 = [] then some (manyT t u.1) else none
def F_bin (op : Tm → Tm → Option Tm) (kd : Str) (T ds : List PyData) (d : PyData) (T' : List PyData) : Prop := ∃ t u : Tm, Wf t ∧ Wf u ∧ ds = [tmD t, tmD u] ∧ ((∃ r, op t u = some r ∧ d = tmD r ∧ T' = T) ∨ (op t u = none ∧ F_a2 T [.str kd, tmD t, tmD u] d T'))
theorem isn_dec (x : Tm) : F_isn [tmD x] (.bool (decide (x.2 = []))) := ⟨x, _, rfl, decide_eq_true_iff, rfl⟩
theorem str3_noL (kd : Str) (t u : Tm) : noLs [.str kd, tmD t, tmD u] = true := by
  show (noL (.str kd) && (noL (tmD t) && (noL (tmD u) && true))) = true
  rw [tm_noL, tm_noL]
  rfl
section
variable {X : Cx} {G : Gam} {k : Nat} {a : Expr} {p1 pos : Pos}
theorem tv_isn {t : Tm} {kb : Bool} (D : DFn X.prog X.w X.K X.mg X.base k "is_number" F_isn) (hr : Room k X.A) (hg : Gl X "is_number") (ha : EV X G a (tmD t)) (hk : decide (t.2 = []) = kb) (he : starEach [a] X.env = (false, eval a X.env) :: starEach [] X.env := by rfl) (hpl : (backTo pos (starEach [] X.env)).any (·.1) = false := by rfl) : TV X G (.Call (.Name "is_number" p1) [a] [] pos) kb :=
  tv_val (ev_call D (d := .bool kb) hr hg (av_cons ha av_nil he) (by rw [← hk]; exact isn_dec t) (by decide) he hpl)
end
end
section
variable {P : Program} {w : World} {K : PySem.W.Frag} {mg : Str → Option Value} {base : Heap}
variable {C : Addr}
theorem g_both (CT : ClsT K C) (D_is_number : DFn P w K mg base 1 "is_number" F_isn) (D_number_term : DFn P w K mg base 1 "number_term" F_num) (g1 : GDat K mg "NOUGHT" (tmD (0, []))) (g2 : GDat K mg "ALL_BITS" (tmD (4095, []))) (D : TFn P w K mg base 2 C "atom_of_two" F_a2) {f : Addr} {fd : FuncData} (F : Fun K "both" "Table.both" s_Table_both f fd) (hm : Meth K C "both" f) : TFn P w K mg base 3 C "both" (F_bin andS "and") := by
  refine F.tabM hm (F.binds fun _ _ _ _ _ _ us hl => match us, hl with | [_, _, _], _ => rfl) sc_Table_both (fun T ds d T' ⟨_, _, _, _, e, _⟩ => by rw [e]; rfl) fun cdv A outer s H E R L ds d L' hr hC ⟨t, u, ht, hu, e, hF⟩ => ?_
  subst hC e
  unfold andS at hF
  by_cases h1 : t.2 = [] ∧ u.2 = []
  · rw [if_pos h1] at hF
    rcases hF with ⟨r, e1, rfl, rfl⟩ | ⟨e1, _⟩
    · have e1 := Option.some.inj e1
      subst e1
      refine tr_if (k := true) (tt_of (tv_w (wv_and (k := true) (k' := true) (tv_isn (t := t) D_is_number (by walk_at "rm") rfl (ev_var 1 (by rfl) (pv 1)) (decide_eq_true h1.1)) (fun _ => wv_and1 (tv_isn (t := u) D_is_number (by walk_at "rm") rfl (ev_var 2 (by rfl) (pv 2)) (decide_eq_true h1.2)))))) (fun _ => ?_) (fun z => by cases z)
      exact tr_ret (te_of (ev_call D_number_term (by walk_at "rm") rfl (av_cons (ev_bin (ev_ixT (ds := [.int t.1, .tuple (t.2.map pairD)]) (ev_var 1 (by rfl) (pv 1)) ev_int rfl) (ev_ixT (ds := [.int u.1, .tuple (u.2.map pairD)]) (ev_var 2 (by rfl) (pv 2)) ev_int rfl) od_and) av_nil) ⟨_, rfl, rfl⟩) (tm_noL _))
    · cases e1
  · rw [if_neg h1] at hF
    have rest : PSs (cxOf CX0 P w K mg base ["self", "t", "u"] "Table.both" (defScope s_Table_both) f cdv A outer s H E).nox ((defBody s_Table_both).drop 1) (tTR P w K R [none, some (tmD t), some (tmD u)] L d L') := by
      by_cases h2 : t = u
      · rw [if_pos (.inl h2)] at hF
        rcases hF with ⟨r, e1, rfl, rfl⟩ | ⟨e1, _⟩
        · have e1 := Option.some.inj e1
          subst e1
          exact tr_if (k := true) (tt_of (tv_w (wv_or (k := true) (k' := true) (tv_cmp (ev_var 1 (by rfl) (pv 1)) (ev_var 2 (by rfl) (pv 2)) (od_eq (by walk_at "un") (tm_lay t) (tm_lay u) (tm_min t u) (by rw [h2, tm_same])) (nomark _)) (fun z => by cases z)))) (fun _ => tr_ret (te_of (ev_var 1 (by rfl) (pv 1)) (tm_noL t))) (fun z => by cases z)
        · cases e1
      · by_cases h3 : u = (4095, [])
        · rw [if_pos (.inr h3)] at hF
          rcases hF with ⟨r, e1, rfl, rfl⟩ | ⟨e1, _⟩
          · have e1 := Option.some.inj e1
            subst e1
            exact tr_if (k := true) (tt_of (tv_w (wv_or (k := false) (k' := true) (tv_cmp (ev_var 1 (by rfl) (pv 1)) (ev_var 2 (by rfl) (pv 2)) (od_eq (by walk_at "un") (tm_lay t) (tm_lay u) (tm_min t u) (tm_other h2)) (nomark _)) (fun _ => wv_or1 (tv_cmp (ev_var 2 (by rfl) (pv 2)) (ev_gdat g2 rfl) (od_eq (by walk_at "un") (tm_lay u) (tm_lay _) (tm_min u _) (by rw [h3, tm_same])) (nomark _)))))) (fun _ => tr_ret (te_of (ev_var 1 (by rfl) (pv 1)) (tm_noL t))) (fun z => by cases z)
          · cases e1
        · rw [if_neg fun z => z.elim h2 h3] at hF
          refine tr_if (k := false) (tt_of (tv_w (wv_or (k := false) (k' := false) (tv_cmp (ev_var 1 (by rfl) (pv 1)) (ev_var 2 (by rfl) (pv 2)) (od_eq (by walk_at "un") (tm_lay t) (tm_lay u) (tm_min t u) (tm_other h2)) (nomark _)) (fun _ => wv_or1 (tv_cmp (ev_var 2 (by rfl) (pv 2)) (ev_gdat g2 rfl) (od_eq (by walk_at "un") (tm_lay u) (tm_lay _) (tm_min u _) (tm_other h3)) (nomark _)))))) (fun z => by cases z) fun _ => ?_
          by_cases h4 : t = (4095, [])
          · rw [if_pos h4] at hF
            rcases hF with ⟨r, e1, rfl, rfl⟩ | ⟨e1, _⟩
            · have e1 := Option.some.inj e1
              subst e1
              exact tr_if (k := true) (tt_of (tv_cmp (ev_var 1 (by rfl) (pv 1)) (ev_gdat g2 rfl) (od_eq (by walk_at "un") (tm_lay t) (tm_lay _) (tm_min t _) (by rw [h4, tm_same])) (nomark _))) (fun _ => tr_ret (te_of (ev_var 2 (by rfl) (pv 2)) (tm_noL u))) (fun z => by cases z)
            · cases e1
          · rw [if_neg h4] at hF
            refine tr_if (k := false) (tt_of (tv_cmp (ev_var 1 (by rfl) (pv 1)) (ev_gdat g2 rfl) (od_eq (by walk_at "un") (tm_lay t) (tm_lay _) (tm_min t _) (tm_other h4)) (nomark _))) (fun z => by cases z) fun _ => ?_
            have kk : kTs [tmD t, tmD u] = true := by
              show (kT (tmD t) && (kT (tmD u) && true)) = true
              rw [tm_kT, tm_kT]
              rfl
            by_cases h5 : t = (0, []) ∨ u = (0, [])
            · rw [if_pos h5] at hF
              rcases hF with ⟨r, e1, rfl, rfl⟩ | ⟨e1, _⟩
              · have e1 := Option.some.inj e1
                subst e1
                refine tr_if (k := true) (tt_of (tv_cmp (ev_gdat g1 rfl) (ev_tup (ds := [tmD t, tmD u]) (av_cons (ev_var 1 (by rfl) (pv 1)) (av_cons (ev_var 2 (by rfl) (pv 2)) av_nil)) (by rw [sizeLine_eq]; show 2 ≤ _; omega)) (od_inT (by walk_at "un") (tm_kT _) kk (Nat.le_trans (tm_depth _) (by decide)) ?kb) (by with_unfolding_all rfl))) (fun _ => tr_ret (te_of (ev_gdat g1 rfl) (tm_noL _))) (fun z => by cases z)
                show (PyData.eqv (tmD t) _ || (PyData.eqv (tmD u) _ || false)) = true
                rcases h5 with h5 | h5
                · rw [h5, tm_same]; rfl
                · rw [h5, tm_same]; simp
              · cases e1
            · rw [if_neg h5] at hF
              refine tr_if (k := false) (tt_of (tv_cmp (ev_gdat g1 rfl) (ev_tup (ds := [tmD t, tmD u]) (av_cons (ev_var 1 (by rfl) (pv 1)) (av_cons (ev_var 2 (by rfl) (pv 2)) av_nil)) (by rw [sizeLine_eq]; show 2 ≤ _; omega)) (od_inT (by walk_at "un") (tm_kT _) kk (Nat.le_trans (tm_depth _) (by decide)) ?kb2) (by with_unfolding_all rfl))) (fun z => by cases z) fun _ => ?_
              case kb2 =>
                show (PyData.eqv (tmD t) _ || (PyData.eqv (tmD u) _ || false)) = false
                rw [tm_other fun z => h5 (.inl z), tm_other fun z => h5 (.inr z)]
                rfl
              rcases hF with ⟨r, e1, _⟩ | ⟨_, hF⟩
              · cases e1
              · exact tr_ret (te_meth CT.cl D (by walk_at "rm") (pv 0) (ta_of (av_cons ev_str (av_cons (ev_var 1 (by rfl) (pv 1)) (av_cons (ev_var 2 (by rfl) (pv 2)) av_nil))) (str3_noL _ t u)) hF)
    by_cases h0 : t.2 = []
    · exact tr_if (k := false) (tt_of (tv_w (wv_and (k := true) (k' := false) (tv_isn (t := t) D_is_number (by walk_at "rm") rfl (ev_var 1 (by rfl) (pv 1)) (decide_eq_true h0)) (fun _ => wv_and1 (tv_isn (t := u) D_is_number (by walk_at "rm") rfl (ev_var 2 (by rfl) (pv 2)) (decide_eq_false fun z => h1 ⟨h0, z⟩)))))) (fun z => by cases z) (fun _ => rest)
    · exact tr_if (k := false) (tt_of (tv_w (wv_and (k := false) (k' := false) (tv_isn (t := t) D_is_number (by walk_at "rm") rfl (ev_var 1 (by rfl) (pv 1)) (decide_eq_false h0)) (fun z => by cases z)))) (fun z => by cases z) (fun _ => rest)
theorem g_unlike (CT : ClsT K C) (D_is_number : DFn P w K mg base 1 "is_number" F_isn) (D_number_term : DFn P w K mg base 1 "number_term" F_num) (g1 : GDat K mg "NOUGHT" (tmD (0, []))) (D : TFn P w K mg base 2 C "atom_of_two" F_a2) {f : Addr} {fd : FuncData} (F : Fun K "unlike" "Table.unlike" s_Table_unlike f fd) (hm : Meth K C "unlike" f) : TFn P w K mg base 3 C "unlike" (F_bin xorS "xor") := by
  refine F.tabM hm (F.binds fun _ _ _ _ _ _ us hl => match us, hl with | [_, _, _], _ => rfl) sc_Table_unlike (fun T ds d T' ⟨_, _, _, _, e, _⟩ => by rw [e]; rfl) fun cdv A outer s H E R L ds d L' hr hC ⟨t, u, ht, hu, e, hF⟩ => ?_
  subst hC e
  unfold xorS at hF
  by_cases h1 : t.2 = [] ∧ u.2 = []
  · rw [if_pos h1] at hF
    rcases hF with ⟨r, e1, rfl, rfl⟩ | ⟨e1, _⟩
    · have e1 := Option.some.inj e1
      subst e1
      refine tr_if (k := true) (tt_of (tv_w (wv_and (k := true) (k' := true) (tv_isn (t := t) D_is_number (by walk_at "rm") rfl (ev_var 1 (by rfl) (pv 1)) (decide_eq_true h1.1)) (fun _ => wv_and1 (tv_isn (t := u) D_is_number (by walk_at "rm") rfl (ev_var 2 (by rfl) (pv 2)) (decide_eq_true h1.2)))))) (fun _ => ?_) (fun z => by cases z)
      exact tr_ret (te_of (ev_call D_number_term (by walk_at "rm") rfl (av_cons (ev_bin (ev_ixT (ds := [.int t.1, .tuple (t.2.map pairD)]) (ev_var 1 (by rfl) (pv 1)) ev_int rfl) (ev_ixT (ds := [.int u.1, .tuple (u.2.map pairD)]) (ev_var 2 (by rfl) (pv 2)) ev_int rfl) od_xor) av_nil) ⟨_, rfl, rfl⟩) (tm_noL _))
    · cases e1
  · rw [if_neg h1] at hF
    have rest : PSs (cxOf CX0 P w K mg base ["self", "t", "u"] "Table.unlike" (defScope s_Table_unlike) f cdv A outer s H E).nox ((defBody s_Table_unlike).drop 1) (tTR P w K R [none, some (tmD t), some (tmD u)] L d L') := by
      by_cases h2 : t = u
      · rw [if_pos h2] at hF
        rcases hF with ⟨r, e1, rfl, rfl⟩ | ⟨e1, _⟩
        · have e1 := Option.some.inj e1
          subst e1
          exact tr_if (k := true) (tt_of (tv_cmp (ev_var 1 (by rfl) (pv 1)) (ev_var 2 (by rfl) (pv 2)) (od_eq (by walk_at "un") (tm_lay t) (tm_lay u) (tm_min t u) (by rw [h2, tm_same])) (nomark _))) (fun _ => tr_ret (te_of (ev_gdat g1 rfl) (tm_noL _))) (fun z => by cases z)
        · cases e1
      · rw [if_neg h2] at hF
        refine tr_if (k := false) (tt_of (tv_cmp (ev_var 1 (by rfl) (pv 1)) (ev_var 2 (by rfl) (pv 2)) (od_eq (by walk_at "un") (tm_lay t) (tm_lay u) (tm_min t u) (tm_other h2)) (nomark _))) (fun z => by cases z) fun _ => ?_
        by_cases h3 : u = (0, [])
        · rw [if_pos h3] at hF
          rcases hF with ⟨r, e1, rfl, rfl⟩ | ⟨e1, _⟩
          · have e1 := Option.some.inj e1
            subst e1
            exact tr_if (k := true) (tt_of (tv_cmp (ev_var 2 (by rfl) (pv 2)) (ev_gdat g1 rfl) (od_eq (by walk_at "un") (tm_lay u) (tm_lay _) (tm_min u _) (by rw [h3, tm_same])) (nomark _))) (fun _ => tr_ret (te_of (ev_var 1 (by rfl) (pv 1)) (tm_noL t))) (fun z => by cases z)
          · cases e1
        · rw [if_neg h3] at hF
          refine tr_if (k := false) (tt_of (tv_cmp (ev_var 2 (by rfl) (pv 2)) (ev_gdat g1 rfl) (od_eq (by walk_at "un") (tm_lay u) (tm_lay _) (tm_min u _) (tm_other h3)) (nomark _))) (fun z => by cases z) fun _ => ?_
          by_cases h4 : t = (0, [])
          · rw [if_pos h4] at hF
            rcases hF with ⟨r, e1, rfl, rfl⟩ | ⟨e1, _⟩
            · have e1 := Option.some.inj e1
              subst e1
              exact tr_if (k := true) (tt_of (tv_cmp (ev_var 1 (by rfl) (pv 1)) (ev_gdat g1 rfl) (od_eq (by walk_at "un") (tm_lay t) (tm_lay _) (tm_min t _) (by rw [h4, tm_same])) (nomark _))) (fun _ => tr_ret (te_of (ev_var 2 (by rfl) (pv 2)) (tm_noL u))) (fun z => by cases z)
            · cases e1
          · rw [if_neg h4] at hF
            refine tr_if (k := false) (tt_of (tv_cmp (ev_var 1 (by rfl) (pv 1)) (ev_gdat g1 rfl) (od_eq (by walk_at "un") (tm_lay t) (tm_lay _) (tm_min t _) (tm_other h4)) (nomark _))) (fun z => by cases z) fun _ => ?_
            rcases hF with ⟨r, e1, _⟩ | ⟨_, hF⟩
            · cases e1
            · exact tr_ret (te_meth CT.cl D (by walk_at "rm") (pv 0) (ta_of (av_cons ev_str (av_cons (ev_var 1 (by rfl) (pv 1)) (av_cons (ev_var 2 (by rfl) (pv 2)) av_nil))) (str3_noL _ t u)) hF)
    by_cases h0 : t.2 = []
    · exact tr_if (k := false) (tt_of (tv_w (wv_and (k := true) (k' := false) (tv_isn (t := t) D_is_number (by walk_at "rm") rfl (ev_var 1 (by rfl) (pv 1)) (decide_eq_true h0)) (fun _ => wv_and1 (tv_isn (t := u) D_is_number (by walk_at "rm") rfl (ev_var 2 (by rfl) (pv 2)) (decide_eq_false fun z => h1 ⟨h0, z⟩)))))) (fun z => by cases z) (fun _ => rest)
    · exact tr_if (k := false) (tt_of (tv_w (wv_and (k := false) (k' := false) (tv_isn (t := t) D_is_number (by walk_at "rm") rfl (ev_var 1 (by rfl) (pv 1)) (decide_eq_false h0)) (fun z => by cases z)))) (fun z => by cases z) (fun _ => rest)
theorem g_product (CT : ClsT K C) (D_is_number : DFn P w K mg base 1 "is_number" F_isn) (D_so_many : DFn P w K mg base 2 "so_many" F_many) (D : TFn P w K mg base 2 C "atom_of_two" F_a2) {f : Addr} {fd : FuncData} (F : Fun K "product" "Table.product" s_Table_product f fd) (hm : Meth K C "product" f) : TFn P w K mg base 3 C "product" (F_bin mulS "mul") := by
  refine F.tabM hm (F.binds fun _ _ _ _ _ _ us hl => match us, hl with | [_, _, _], _ => rfl) sc_Table_product (fun T ds d T' ⟨_, _, _, _, e, _⟩ => by rw [e]; rfl) fun cdv A outer s H E R L ds d L' hr hC ⟨t, u, ht, hu, e, hF⟩ => ?_
  subst hC e
  unfold mulS at hF
  have nt := ht.n
  have nu := hu.n
  by_cases h1 : t.2 = []
  · rw [if_pos h1] at hF
    rcases hF with ⟨r, e1, rfl, rfl⟩ | ⟨e1, _⟩
    · have e1 := Option.some.inj e1
      subst e1
      exact tr_if (k := true) (tt_of (tv_isn (t := t) D_is_number (by walk_at "rm") rfl (ev_var 1 (by rfl) (pv 1)) (decide_eq_true h1))) (fun _ => tr_ret (te_of (ev_call D_so_many (by walk_at "rm") rfl (av_cons (ev_var 2 (by rfl) (pv 2)) (av_cons (ev_ixT (ds := [.int t.1, .tuple (t.2.map pairD)]) (ev_var 1 (by rfl) (pv 1)) ev_int rfl) av_nil)) ⟨u, t.1, hu, nt.1, nt.2, rfl, rfl⟩) (tm_noL _))) (fun z => by cases z)
    · cases e1
  · rw [if_neg h1] at hF
    refine tr_if (k := false) (tt_of (tv_isn (t := t) D_is_number (by walk_at "rm") rfl (ev_var 1 (by rfl) (pv 1)) (decide_eq_false h1))) (fun z => by cases z) fun _ => ?_
    by_cases h2 : u.2 = []
    · rw [if_pos h2] at hF
      rcases hF with ⟨r, e1, rfl, rfl⟩ | ⟨e1, _⟩
      · have e1 := Option.some.inj e1
        subst e1
        exact tr_if (k := true) (tt_of (tv_isn (t := u) D_is_number (by walk_at "rm") rfl (ev_var 2 (by rfl) (pv 2)) (decide_eq_true h2))) (fun _ => tr_ret (te_of (ev_call D_so_many (by walk_at "rm") rfl (av_cons (ev_var 1 (by rfl) (pv 1)) (av_cons (ev_ixT (ds := [.int u.1, .tuple (u.2.map pairD)]) (ev_var 2 (by rfl) (pv 2)) ev_int rfl) av_nil)) ⟨t, u.1, ht, nu.1, nu.2, rfl, rfl⟩) (tm_noL _))) (fun z => by cases z)
      · cases e1
    · rw [if_neg h2] at hF
      refine tr_if (k := false) (tt_of (tv_isn (t := u) D_is_number (by walk_at "rm") rfl (ev_var 2 (by rfl) (pv 2)) (decide_eq_false h2))) (fun z => by cases z) fun _ => ?_
      rcases hF with ⟨r, e1, _⟩ | ⟨_, hF⟩
      · cases e1
      · exact tr_ret (te_meth CT.cl D (by walk_at "rm") (pv 0) (ta_of (av_cons ev_str (av_cons (ev_var 1 (by rfl) (pv 1)) (av_cons (ev_var 2 (by rfl) (pv 2)) av_nil))) (str3_noL _ t u)) hF)
end
section
variable {P : Program} {w : World} {K : PySem.W.Frag} {mg : Str → Option Value} {base : Heap}
def gtP : List (Int × Int) → List (Int × Int) → Bool
  | [], [] => false
  | [], _ :: _ => false
  | _ :: _, [] => true
  | p :: ps, q :: qs => if p = q then gtP ps qs else if p.1 = q.1 then decide (p.2 > q.2) else decide (p.1 > q.1)
def gtT (t u : Tm) : Bool := if t.1 = u.1 then gtP t.2 u.2 else decide (t.1 > u.1)
theorem gtP_irr : ∀ ps : List (Int × Int), gtP ps ps = false
  | [] => rfl
  | p :: ps => by rw [gtP, if_pos rfl, gtP_irr ps]
theorem gtO_pair {p q : Int × Int} (h : p ≠ q) : gtO (pairD p) (pairD q) = some (if p.1 = q.1 then decide (p.2 > q.2) else decide (p.1 > q.1)) := by
  unfold pairD
  rw [gtO, gtOs, eqv_i]
  by_cases e1 : p.1 = q.1
  · have e2 : p.2 ≠ q.2 := fun z => h (Prod.ext e1 z)
    rw [if_pos (decide_eq_true e1), if_pos e1, gtOs, eqv_i, if_neg (by simp [e2]), gtO]
  · rw [if_neg (by simp [e1]), if_neg e1, gtO]
theorem gtOs_pairs : ∀ ps qs : List (Int × Int), gtOs (ps.map pairD) (qs.map pairD) = some (gtP ps qs)
  | [], [] => rfl
  | [], _ :: _ => rfl
  | _ :: _, [] => rfl
  | p :: ps, q :: qs => by
    rw [List.map_cons, List.map_cons, gtOs, pair_eqv, gtP]
    by_cases e : p = q
    · rw [if_pos (decide_eq_true e), if_pos e]
      exact gtOs_pairs ps qs
    · rw [if_neg (by simp [e]), if_neg e, gtO_pair e]
theorem gtO_tm (t u : Tm) : gtO (tmD t) (tmD u) = some (gtT t u) := by
  unfold tmD gtT
  rw [gtO, gtOs, eqv_i]
  by_cases e : t.1 = u.1
  · rw [if_pos (decide_eq_true e), if_pos e, gtOs]
    by_cases e2 : t.2 = u.2
    · have : PyData.eqv (.tuple (t.2.map pairD)) (.tuple (u.2.map pairD)) = true := by
        rw [e2]
        exact (eqv_kT (.tuple (u.2.map pairD)) (.tuple (u.2.map pairD)) (tup_kT u.2) (tup_kT u.2)).mpr rfl
      rw [if_pos this, gtOs, e2, gtP_irr]
    · have : ¬ PyData.eqv (.tuple (t.2.map pairD)) (.tuple (u.2.map pairD)) = true := fun z => by
        have z := (eqv_kT (.tuple (t.2.map pairD)) (.tuple (u.2.map pairD)) (tup_kT t.2) (tup_kT u.2)).mp z
        have : tmD t = tmD u := by unfold tmD; rw [e, z]
        exact e2 (by rw [tmD_inj this])
      rw [if_neg this, gtO, gtOs_pairs]
  · rw [if_neg (by simp [e]), if_neg e, gtO]
variable {C : Addr}
theorem gtP_lt : ∀ ps qs : List (Int × Int), gtP ps qs = ltP qs ps
  | [], [] => rfl
  | [], _ :: _ => rfl
  | _ :: _, [] => rfl
  | p :: ps, q :: qs => by
    rw [gtP, ltP]
    by_cases e : p = q
    · rw [if_pos e, if_pos e.symm, gtP_lt ps qs]
    · have e' : ¬ q = p := fun z => e z.symm
      rw [if_neg e, if_neg e']
      by_cases e2 : p.1 = q.1
      · rw [if_pos e2, if_pos e2.symm]
      · have e3 : ¬ q.1 = p.1 := fun z => e2 z.symm
        rw [if_neg e2, if_neg e3]
theorem gtT_lt (t u : Tm) : gtT t u = ltT u t := by
  unfold gtT ltT
  by_cases e : t.1 = u.1
  · rw [if_pos e, if_pos e.symm, gtP_lt]
  · have e' : ¬ u.1 = t.1 := fun z => e z.symm
    rw [if_neg e, if_neg e']
def loT (t u : Tm) : Tm := if ltT u t = true then u else t
def hiT (t u : Tm) : Tm := if gtT u t = true then u else t
theorem lohi (t u : Tm) : (loT t u = t ∧ hiT t u = u) ∨ (loT t u = u ∧ hiT t u = t) := by
  unfold loT hiT
  rw [gtT_lt]
  by_cases e : t = u
  · subst e; rw [ltT_irr]; exact .inl ⟨rfl, rfl⟩
  · have h := ltT_tri e
    cases h2 : ltT u t with
    | true => rw [h, h2]; exact .inr ⟨rfl, rfl⟩
    | false => rw [h, h2]; exact .inl ⟨rfl, rfl⟩
def kdn : Atm → Nat
  | .box _ => 0
  | .tru _ => 1
  | .cel _ _ => 2
  | .two o _ _ => 3 + o
def kds (n : Nat) : Str := if n = 0 then "box" else if n = 1 then "truth" else if n = 2 then "cell" else if n = 3 then "and" else if n = 4 then "xor" else "mul"
theorem kds_inj : ∀ i, i < 6 → ∀ j, j < 6 → kds i = kds j → i = j := by decide +kernel
def tlA : Atm → List PyData
  | .box k => [.int k]
  | .tru k => [.int k]
  | .cel t n => [tmD t, .int n]
  | .two _ t u => [tmD t, tmD u]
theorem aD_hd {x : Atm} (h : kdn x < 6) : aD x = .tuple (.str (kds (kdn x)) :: tlA x) := by
  cases x with
  | box k => rfl
  | tru k => rfl
  | cel t n => rfl
  | two o t u =>
    have h : 3 + o < 6 := h
    have : o = 0 ∨ o = 1 ∨ o = 2 := by omega
    rcases this with rfl | rfl | rfl <;> rfl
theorem aOk_kd {n : Nat} {x : Atm} (h : aOk n x) : kdn x < 6 := by
  cases x with
  | two o t u =>
    have : o < 3 := h.1
    show 3 + o < 6
    omega
  | box k => exact (by decide : 0 < 6)
  | tru k => exact (by decide : 1 < 6)
  | cel t n => exact (by decide : 2 < 6)
theorem aD_inj {x y : Atm} (hx : kdn x < 6) (hy : kdn y < 6) (h : aD x = aD y) : x = y := by
  have h2 := (aD_hd hx).symm.trans (h.trans (aD_hd hy))
  injection h2 with h2
  injection h2 with h3 h4
  injection h3 with h3
  have hk := kds_inj _ hx _ hy h3
  cases x with
  | box k => cases y with
    | box k' => injection h4 with a b; injection a with a; rw [a]
    | tru k' => exact absurd hk (show 0 ≠ 1 by decide)
    | cel t' n' => exact absurd hk (show 0 ≠ 2 by decide)
    | two o' t' u' => exact absurd hk (by show 0 ≠ 3 + o'; omega)
  | tru k => cases y with
    | box k' => exact absurd hk (show 1 ≠ 0 by decide)
    | tru k' => injection h4 with a b; injection a with a; rw [a]
    | cel t' n' => exact absurd hk (show 1 ≠ 2 by decide)
    | two o' t' u' => exact absurd hk (by show 1 ≠ 3 + o'; omega)
  | cel t n => cases y with
    | box k' => exact absurd hk (show 2 ≠ 0 by decide)
    | tru k' => exact absurd hk (show 2 ≠ 1 by decide)
    | cel t' n' =>
      injection h4 with a b
      injection b with b c
      injection b with b
      rw [tmD_inj a, b]
    | two o' t' u' => exact absurd hk (by show 2 ≠ 3 + o'; omega)
  | two o t u => cases y with
    | box k' => exact absurd hk (by show 3 + o ≠ 0; omega)
    | tru k' => exact absurd hk (by show 3 + o ≠ 1; omega)
    | cel t' n' => exact absurd hk (by show 3 + o ≠ 2; omega)
    | two o' t' u' =>
      have hk : 3 + o = 3 + o' := hk
      injection h4 with a b
      injection b with b c
      rw [tmD_inj a, tmD_inj b, show o = o' by omega]
theorem aD_tup (x : Atm) : ∃ l, aD x = .tuple l := by cases x <;> exact ⟨_, rfl⟩
theorem at_step {as : List Atm} (ok : AsOk as) (hl : as.length < 100) {x : Atm} (hx : aOk as.length x) (hkey : keyT (aD x)) : ∃ (i : Nat) (zs : List Atm), zs.length ≤ 1 ∧ AsOk (as ++ zs) ∧ (as ++ zs)[i]? = some x ∧
    F_at (as.map aD) [aD x] (tmD (atm i)) ((as ++ zs).map aD) ∧ F_at ((as ++ zs).map aD) [aD x] (tmD (atm i)) ((as ++ zs).map aD) := by
  obtain ⟨l, el⟩ := aD_tup x
  by_cases hm : aD x ∈ as.map aD
  · obtain ⟨y, hy, ey⟩ := List.mem_map.mp hm
    obtain ⟨i, hi, e⟩ := List.getElem_of_mem hy
    have hgy : as[i]? = some y := by rw [List.getElem?_eq_getElem hi, e]
    have exy : y = x := aD_inj (aOk_kd (ok i y hgy)) (aOk_kd hx) ey
    subst exy
    have f : F_at (as.map aD) [aD y] (tmD (atm i)) (as.map aD) := ⟨l, i, by rw [el], el ▸ hkey, by rw [List.length_map]; omega, by rw [List.getElem?_map, hgy, ← el]; rfl, rfl, .inl ⟨el ▸ hm, rfl⟩⟩
    exact ⟨i, [], Nat.zero_le _, by rw [List.append_nil]; exact ok, by rw [List.append_nil]; exact hgy, by rw [List.append_nil]; exact f, by rw [List.append_nil]; exact f⟩
  · have hg : (as ++ [x])[as.length]? = some x := by rw [List.getElem?_append_right (Nat.le_refl _), Nat.sub_self]; rfl
    have hg2 : ((as ++ [x]).map aD)[as.length]? = some (.tuple l) := by rw [List.getElem?_map, hg, ← el]; rfl
    refine ⟨as.length, [x], Nat.le_refl _, fun j y hj => ?_, hg, ⟨l, as.length, by rw [el], el ▸ hkey, by rw [List.length_map]; omega, hg2, rfl, .inr ⟨el ▸ hm, by rw [List.map_append, ← el]; rfl⟩⟩, ⟨l, as.length, by rw [el], el ▸ hkey, by rw [List.length_map, List.length_append]; simp only [List.length_cons, List.length_nil]; omega, hg2, rfl, .inl ⟨List.mem_of_getElem? hg2, rfl⟩⟩⟩
    by_cases hj2 : j < as.length
    · rw [List.getElem?_append_left hj2] at hj
      exact ok j y hj
    · have hjl : j < (as ++ [x]).length := (List.getElem?_eq_some_iff.mp hj).1
      rw [List.length_append] at hjl
      have ej : j = as.length := by simp only [List.length_cons, List.length_nil] at hjl; omega
      subst ej
      rw [hg] at hj
      cases hj
      exact hx
theorem rdG_in {st : Sta} (hst : StOk st) (a n : Int) : 0 ≤ rdG st.rd a n ∧ rdG st.rd a n < 4096 := by
  have key : ∀ l : List ((Int × Int) × Int), (∀ q ∈ l, 0 ≤ q.2 ∧ q.2 < 4096) → 0 ≤ (l.lookup (a, n)).getD 0 ∧ (l.lookup (a, n)).getD 0 < 4096 := by
    intro l
    induction l with
    | nil => intro _; exact show (0 : Int) ≤ 0 ∧ (0 : Int) < 4096 by decide
    | cons q r ih =>
      intro h
      rw [List.lookup_cons]
      split
      · exact h q List.mem_cons_self
      · exact ih fun q hq => h q (List.mem_cons_of_mem _ hq)
  exact key st.rd hst.rw_
theorem awd_in {st : Sta} (hst : StOk st) (w : Int → Int) (x : Atm) : 0 ≤ awd st w x ∧ awd st w x < 4096 := by
  cases x with
  | box k =>
    show 0 ≤ st.bx.getD k.toNat 0 ∧ st.bx.getD k.toNat 0 < 4096
    rw [List.getD_eq_getElem?_getD]
    cases e : st.bx[k.toNat]? with
    | none => exact show (0 : Int) ≤ 0 ∧ (0 : Int) < 4096 by decide
    | some y => exact hst.bw y (List.mem_of_getElem? e)
  | tru k =>
    show 0 ≤ (if st.tr.getD k.toNat false = true then (1 : Int) else 0) ∧ (if st.tr.getD k.toNat false = true then (1 : Int) else 0) < 4096
    split <;> omega
  | cel t n => exact rdG_in hst _ _
  | two o t u =>
    have h1 := val_in w t
    have h2 := val_in w u
    show 0 ≤ (if o = 0 then Builtin.bitAnd (valT w t) (valT w u) else if o = 1 then Builtin.bitXor (valT w t) (valT w u) else valT w t * valT w u % 4096) ∧ (if o = 0 then Builtin.bitAnd (valT w t) (valT w u) else if o = 1 then Builtin.bitXor (valT w t) (valT w u) else valT w t * valT w u % 4096) < 4096
    split
    · exact and_in h1 h2
    · split
      · exact xor_in h1 h2
      · generalize valT w t * valT w u = z
        omega
theorem awd_pre {st : Sta} {as bs : List Atm} {x : Atm} (h : aOk as.length x) : awd st (atW (wds st (as ++ bs))) x = awd st (atW (wds st as)) x := by
  cases x with
  | box k => rfl
  | tru k => rfl
  | cel t n =>
    show rdG st.rd (valT _ t) n = rdG st.rd (valT _ t) n
    rw [val_pre fun a ha => ⟨(h.1.at_ a ha).1, h.2 a ha⟩]
  | two o t u =>
    obtain ⟨_, wt, wu, kt, ku⟩ := h
    show (if o = 0 then Builtin.bitAnd (valT _ t) (valT _ u) else if o = 1 then Builtin.bitXor (valT _ t) (valT _ u) else valT _ t * valT _ u % 4096) = _
    rw [val_pre fun a ha => ⟨(wt.at_ a ha).1, kt a ha⟩, val_pre fun a ha => ⟨(wu.at_ a ha).1, ku a ha⟩]
    rfl
theorem at_val {st : Sta} (hst : StOk st) {as : List Atm} (ok : AsOk as) {i : Nat} {x : Atm} (h : as[i]? = some x) : vl st as (atm i) = awd st (atW (wds st as)) x := by
  have hi : i < as.length := (List.getElem?_eq_some_iff.mp h).1
  have hin := awd_in hst (atW (wds st (as.take i))) x
  show valT (atW (wds st as)) (0, [((i : Int), 1)]) = _
  rw [val_one]
  have e : atW (wds st as) (i : Int) = awd st (atW (wds st (as.take i))) x := by
    unfold atW
    rw [List.getD_eq_getElem?_getD, Int.toNat_natCast, wds_at st h]
    rfl
  rw [e]
  have e2 : awd st (atW (wds st as)) x = awd st (atW (wds st (as.take i))) x := by
    have hl : (as.take i).length = i := by rw [List.length_take]; omega
    have := awd_pre (st := st) (as := as.take i) (bs := as.drop i) (x := x) (by rw [hl]; exact ok i x h)
    rw [List.take_append_drop] at this
    exact this
  rw [e2]
  omega
end
section
variable {P : Program} {w : World} {K : PySem.W.Frag} {mg : Str → Option Value} {base : Heap}
variable {C : Addr}
def opV (o : Nat) (x y : Int) : Int := if o = 0 then Builtin.bitAnd x y else if o = 1 then Builtin.bitXor x y else x * y % 4096
def opS (o : Nat) (t u : Tm) : Option Tm := if o = 0 then andS t u else if o = 1 then xorS t u else mulS t u
theorem and_full {x : Int} (h : 0 ≤ x ∧ x < 4096) : Builtin.bitAnd x 4095 = x := by
  rw [and_nn h.1 (by decide)]
  have : x.toNat &&& (4095 : Int).toNat = x.toNat % 2 ^ 12 := Nat.and_two_pow_sub_one_eq_mod x.toNat 12
  rw [this]
  omega
theorem and_zero {x : Int} (h : 0 ≤ x) : Builtin.bitAnd x 0 = 0 := by
  rw [and_nn h (by decide)]
  show ((x.toNat &&& 0 : Nat) : Int) = 0
  rw [Nat.and_zero]
  rfl
theorem xor_zero {x : Int} (h : 0 ≤ x) : Builtin.bitXor x 0 = x := by
  rw [xor_nn h (by decide)]
  show ((x.toNat ||| 0 : Nat) : Int) - ((x.toNat &&& 0 : Nat) : Int) = x
  rw [Nat.and_zero, Nat.or_zero]
  omega
theorem and_comm' {x y : Int} (hx : 0 ≤ x) (hy : 0 ≤ y) : Builtin.bitAnd x y = Builtin.bitAnd y x := by
  rw [and_nn hx hy, and_nn hy hx, Nat.and_comm]
theorem xor_comm' {x y : Int} (hx : 0 ≤ x) (hy : 0 ≤ y) : Builtin.bitXor x y = Builtin.bitXor y x := by
  rw [xor_nn hx hy, xor_nn hy hx, Nat.and_comm, Nat.or_comm]
theorem opV_comm {o : Nat} {x y : Int} (hx : 0 ≤ x) (hy : 0 ≤ y) : opV o x y = opV o y x := by
  unfold opV
  rw [and_comm' hx hy, xor_comm' hx hy, Int.mul_comm]
section
variable {st : Sta} {as : List Atm} {t u r : Tm}
theorem num_v (n : Int) : vl st as (n, []) = n % 4096 := val_nil _ n
theorem numT_v (n : Int) : vl st as (numT n) = n % 4096 := val_num _ n
theorem vl_in : 0 ≤ vl st as t ∧ vl st as t < 4096 := val_in _ t
theorem num_of (h : t.2 = []) : t = (t.1, []) := Prod.ext rfl h
theorem vl_num (ht : Wf t) (h : t.2 = []) : vl st as t = t.1 := by
  rw [num_of h]
  show vl st as (t.1, []) = t.1
  rw [num_v, Int.emod_eq_of_lt ht.n.1 ht.n.2]
theorem and_v (ht : Wf t) (hu : Wf u) (h : andS t u = some r) : vl st as r = Builtin.bitAnd (vl st as t) (vl st as u) := by
  unfold andS at h
  have f : vl st as (4095, []) = 4095 := by rw [num_v]; rfl
  have z : vl st as (0, []) = 0 := by rw [num_v]; rfl
  split at h
  · rename_i c
    cases h
    have hi := and_in ht.n hu.n
    rw [numT_v, vl_num ht c.1, vl_num hu c.2, Int.emod_eq_of_lt hi.1 hi.2]
  · split at h
    · rename_i c
      cases h
      rcases c with c | c
      · rw [← c, and_self' vl_in.1]
      · rw [c, f, and_full vl_in]
    · split at h
      · rename_i c
        cases h
        rw [c, f, and_comm' (by decide) vl_in.1, and_full vl_in]
      · split at h
        · rename_i c
          cases h
          rcases c with c | c
          · rw [c, z, and_comm' (by decide) vl_in.1, and_zero vl_in.1]
          · rw [c, z, and_zero vl_in.1]
        · cases h
theorem xor_v (ht : Wf t) (hu : Wf u) (h : xorS t u = some r) : vl st as r = Builtin.bitXor (vl st as t) (vl st as u) := by
  unfold xorS at h
  have z : vl st as (0, []) = 0 := by rw [num_v]; rfl
  split at h
  · rename_i c
    cases h
    have hi := xor_in ht.n hu.n
    rw [numT_v, vl_num ht c.1, vl_num hu c.2, Int.emod_eq_of_lt hi.1 hi.2]
  · split at h
    · rename_i c
      cases h
      rw [← c, xor_self' vl_in.1, z]
    · split at h
      · rename_i c
        cases h
        rw [c, z, xor_zero vl_in.1]
      · split at h
        · rename_i c
          cases h
          rw [c, z, xor_comm' (by decide) vl_in.1, xor_zero vl_in.1]
        · cases h
theorem many_v {n : Int} (ht : Wf t) : vl st as (manyT t n) = vl st as t * n % 4096 := val_many _ ht
theorem mul_v (ht : Wf t) (hu : Wf u) (h : mulS t u = some r) : vl st as r = vl st as t * vl st as u % 4096 := by
  unfold mulS at h
  split at h
  · rename_i c
    cases h
    rw [many_v hu, vl_num ht c, Int.mul_comm]
  · split at h
    · rename_i c
      cases h
      rw [many_v ht, vl_num hu c]
    · cases h
theorem op_v {o : Nat} (ht : Wf t) (hu : Wf u) (h : opS o t u = some r) : vl st as r = opV o (vl st as t) (vl st as u) := by
  unfold opS at h
  unfold opV
  split at h
  · rename_i c; rw [if_pos c]; exact and_v ht hu h
  · rename_i c
    rw [if_neg c]
    split at h
    · rename_i c; rw [if_pos c]; exact xor_v ht hu h
    · rename_i c; rw [if_neg c]; exact mul_v ht hu h
theorem vl_pre {zs : List Atm} (ht : Wf t) (hk : Kb as.length t) : vl st (as ++ zs) t = vl st as t := val_pre fun a ha => ⟨(ht.at_ a ha).1, hk a ha⟩
end
def BinR (o : Nat) (as : List Atm) (t u r : Tm) (zs : List Atm) : Prop := (opS o t u = some r ∧ zs = []) ∨ (opS o t u = none ∧ ∃ i, r = atm i ∧ (as ++ zs)[i]? = some (.two o (loT t u) (hiT t u)) ∧ F_at (as.map aD) [aD (.two o (loT t u) (hiT t u))] (tmD (atm i)) ((as ++ zs).map aD))
theorem bin_v {st : Sta} (hst : StOk st) {o : Nat} {as zs : List Atm} {t u r : Tm} (ok : AsOk (as ++ zs)) (ht : Wf t) (hu : Wf u) (kt : Kb as.length t) (ku : Kb as.length u) (h : BinR o as t u r zs) : vl st (as ++ zs) r = opV o (vl st as t) (vl st as u) := by
  rcases h with ⟨h, rfl⟩ | ⟨_, i, rfl, hi, _⟩
  · rw [List.append_nil]
    exact op_v ht hu h
  · rw [at_val hst ok hi]
    show opV o (vl st (as ++ zs) (loT t u)) (vl st (as ++ zs) (hiT t u)) = _
    rcases lohi t u with ⟨e1, e2⟩ | ⟨e1, e2⟩
    · rw [e1, e2, vl_pre ht kt, vl_pre hu ku]
    · rw [e1, e2, vl_pre ht kt, vl_pre hu ku, opV_comm vl_in.1 vl_in.1]
theorem bin_F {o : Nat} {as zs : List Atm} {t u r : Tm} (ht : Wf t) (hu : Wf u) (h : BinR o as t u r zs) : F_bin (opS o) (kdS o) (as.map aD) [tmD t, tmD u] (tmD r) ((as ++ zs).map aD) := by
  refine ⟨t, u, ht, hu, rfl, ?_⟩
  rcases h with ⟨h, rfl⟩ | ⟨h, i, rfl, hi, hf⟩
  · exact .inl ⟨r, h, rfl, by rw [List.append_nil]⟩
  · refine .inr ⟨h, kdS o, t, u, ltT u t, gtT u t, rfl, ltO_tm u t, gtO_tm u t, ?_⟩
    have e1 : (if ltT u t = true then tmD u else tmD t) = tmD (loT t u) := by unfold loT; split <;> rfl
    have e2 : (if gtT u t = true then tmD u else tmD t) = tmD (hiT t u) := by unfold hiT; split <;> rfl
    rw [e1, e2]
    exact hf
end
section
variable {P : Program} {w : World} {K : PySem.W.Frag} {mg : Str → Option Value} {base : Heap}
theorem kd_lay (o : Nat) : PyData.canLay0 (.str (kdS o)) = true := by
  unfold kdS
  split
  · decide +kernel
  · split <;> decide +kernel
variable {C : Addr}
theorem key3 {kd : Str} (hs : PyData.canLay0 (.str kd) = true) (x y : Tm) : keyT (.tuple [.str kd, tmD x, tmD y]) := ⟨by show (PyData.canLay0 (.str kd) && (kT (tmD x) && (kT (tmD y) && true))) = true; rw [hs, tm_kT, tm_kT]; rfl, by
  show max 0 (max (tmD x).depth (max (tmD y).depth 0)) + 1 ≤ 8
  have := tm_depth x
  have := tm_depth y
  omega⟩
theorem and_wf (t u r : Tm) (ht : Wf t) (hu : Wf u) (h : andS t u = some r) : Wf r := by
  unfold andS at h
  split at h
  · cases h; exact num_wf
  · split at h
    · cases h; exact ht
    · split at h
      · cases h; exact hu
      · split at h
        · cases h; exact nil_wf
        · cases h
theorem xor_wf (t u r : Tm) (ht : Wf t) (hu : Wf u) (h : xorS t u = some r) : Wf r := by
  unfold xorS at h
  split at h
  · cases h; exact num_wf
  · split at h
    · cases h; exact nil_wf
    · split at h
      · cases h; exact ht
      · split at h
        · cases h; exact hu
        · cases h
theorem mul_wf (t u r : Tm) (ht : Wf t) (hu : Wf u) (h : mulS t u = some r) : Wf r := by
  unfold mulS at h
  split at h
  · cases h; exact many_wf hu
  · split at h
    · cases h; exact many_wf ht
    · cases h
def at_ (told : List Tm) (i : Int) : Tm := told.getD (i % told.length).toNat (0, [])
theorem at_in {told : List Tm} (hne : told ≠ []) (i : Int) : at_ told i ∈ told ∧ 0 ≤ i % told.length ∧ i % told.length < told.length := by
  have hp : 0 < told.length := List.length_pos_iff.mpr hne
  have h1 : 0 ≤ i % (told.length : Int) := Int.emod_nonneg _ (by omega)
  have h2 : i % (told.length : Int) < told.length := Int.emod_lt_of_pos _ (by omega)
  refine ⟨?_, h1, h2⟩
  unfold at_
  rw [List.getD_eq_getElem?_getD, List.getElem?_eq_getElem (by omega)]
  exact List.getElem_mem _
theorem at_at {told : List Tm} (hne : told ≠ []) (i : Int) : atI (told.map tmD) (i % told.length) = some (tmD (at_ told i)) := by
  obtain ⟨_, h1, h2⟩ := at_in hne i
  refine atI_of h1 ?_
  unfold at_
  rw [List.getElem?_map, List.getElem?_eq_getElem (by omega), List.getD_eq_getElem?_getD, List.getElem?_eq_getElem (by omega)]
  rfl
theorem key2 {kd : Str} (hs : PyData.canLay0 (.str kd) = true) (n : Int) : keyT (.tuple [.str kd, .int n]) := ⟨by show (PyData.canLay0 (.str kd) && (true && true)) = true; rw [hs]; rfl, by show max 0 (max 0 0) + 1 ≤ 8; decide⟩
theorem keyC (t : Tm) (n : Int) : keyT (.tuple [.str "cell", tmD t, .int n]) := ⟨by show (PyData.canLay0 (.str "cell") && (kT (tmD t) && (true && true))) = true; rw [tm_kT]; decide +kernel, by
  show max 0 (max (tmD t).depth (max 0 0)) + 1 ≤ 8
  have := tm_depth t
  omega⟩
theorem manyK {n : Nat} {t : Tm} {k : Int} (wt : Wf t) (ht : Kb n t) : Kb n (manyT t k) := by
  rw [many_lsum wt]
  exact lsumK (fun a ha => by cases ha) ht
theorem nilK {n : Nat} (k : Int) : Kb n (k, []) := fun a ha => by cases ha
theorem numK {n : Nat} (k : Int) : Kb n (numT k) := fun a ha => by cases ha
theorem op_ok {o n : Nat} {t u r : Tm} (ht : Wf t) (hu : Wf u) (kt : Kb n t) (ku : Kb n u) (h : opS o t u = some r) : Wf r ∧ Kb n r := by
  unfold opS at h
  split at h
  · refine ⟨and_wf t u r ht hu h, ?_⟩
    unfold andS at h
    split at h
    · cases h; exact numK _
    · split at h
      · cases h; exact kt
      · split at h
        · cases h; exact ku
        · split at h
          · cases h; exact nilK _
          · cases h
  · split at h
    · refine ⟨xor_wf t u r ht hu h, ?_⟩
      unfold xorS at h
      split at h
      · cases h; exact numK _
      · split at h
        · cases h; exact nilK _
        · split at h
          · cases h; exact kt
          · split at h
            · cases h; exact ku
            · cases h
    · refine ⟨mul_wf t u r ht hu h, ?_⟩
      unfold mulS at h
      split at h
      · cases h; exact manyK hu ku
      · split at h
        · cases h; exact manyK ht kt
        · cases h
def AtR (as : List Atm) (x : Atm) (r : Tm) (zs : List Atm) : Prop := ∃ i, r = atm i ∧ (as ++ zs)[i]? = some x ∧ F_at (as.map aD) [aD x] (tmD (atm i)) ((as ++ zs).map aD)
def Nxt (as : List Atm) (r : Tm) (zs : List Atm) : Prop := AsOk (as ++ zs) ∧ zs.length ≤ 1 ∧ Wf r ∧ Kb (as ++ zs).length r
theorem at_ex {as : List Atm} (ok : AsOk as) (hl : as.length < 62) {x : Atm} (hx : aOk as.length x) (hkey : keyT (aD x)) : ∃ r zs, (AtR as x r zs ∧ AtR (as ++ zs) x r []) ∧ Nxt as r zs := by
  obtain ⟨i, zs, h1, h2, h3, h4, h5⟩ := at_step ok (by omega) hx hkey
  have hi : i < (as ++ zs).length := (List.getElem?_eq_some_iff.mp h3).1
  have hlen : (as ++ zs).length ≤ 62 := by rw [List.length_append]; omega
  refine ⟨atm i, zs, ⟨⟨i, rfl, h3, h4⟩, ⟨i, rfl, by rw [List.append_nil]; exact h3, by rw [List.append_nil]; exact h5⟩⟩, h2, h1, atm_wf (by omega), fun a ha => ?_⟩
  have : a = (i : Int) := List.mem_singleton.mp ha
  omega
theorem bin_ex {o : Nat} (ho : o < 3) {as : List Atm} (ok : AsOk as) (hl : as.length < 62) {t u : Tm} (ht : Wf t) (hu : Wf u) (kt : Kb as.length t) (ku : Kb as.length u) : ∃ r zs, (BinR o as t u r zs ∧ BinR o (as ++ zs) t u r []) ∧ Nxt as r zs := by
  cases e : opS o t u with
  | some r =>
    obtain ⟨h1, h2⟩ := op_ok ht hu kt ku e
    exact ⟨r, [], ⟨.inl ⟨e, rfl⟩, .inl ⟨e, rfl⟩⟩, by rw [List.append_nil]; exact ok, Nat.zero_le _, h1, by rw [List.append_nil]; exact h2⟩
  | none =>
    have hx : aOk as.length (.two o (loT t u) (hiT t u)) := by
      rcases lohi t u with ⟨e1, e2⟩ | ⟨e1, e2⟩
      · rw [e1, e2]; exact ⟨ho, ht, hu, kt, ku⟩
      · rw [e1, e2]; exact ⟨ho, hu, ht, ku, kt⟩
    obtain ⟨r, zs, ⟨⟨i, e1, h1, h2⟩, ⟨j, e2, h3, h4⟩⟩, hn⟩ := at_ex ok hl hx (key3 (kd_lay o) (loT t u) (hiT t u))
    exact ⟨r, zs, ⟨.inr ⟨e, i, e1, h1, h2⟩, .inr ⟨e, j, e2, h3, h4⟩⟩, hn⟩
def nN (e : Int) : Int := ([0, 1, 4095, e % 4096] : List Int).getD (e / 17 % 4).toNat 0
theorem nN_in (e : Int) : 0 ≤ nN e ∧ nN e < 4096 := by
  unfold nN
  have : (e / 17 % 4).toNat = 0 ∨ (e / 17 % 4).toNat = 1 ∨ (e / 17 % 4).toNat = 2 ∨ (e / 17 % 4).toNat = 3 := by omega
  rcases this with h | h | h | h <;> rw [h]
  · exact show (0 : Int) ≤ 0 ∧ (0 : Int) < 4096 by decide
  · exact show (0 : Int) ≤ 1 ∧ (1 : Int) < 4096 by decide
  · exact show (0 : Int) ≤ 4095 ∧ (4095 : Int) < 4096 by decide
  · show 0 ≤ e % 4096 ∧ e % 4096 < 4096
    omega
def lastT (tm : List Tm) (e : Int) : Tm := if e / 3 % 2 = 0 then numT (nN e) else manyT (at_ tm e) (nN e)
def StpR (as : List Atm) (tm : List Tm) (w e : Int) (r : Tm) (zs : List Atm) : Prop :=
  (w = 0 ∧ AtR as (.box (e % 4)) r zs) ∨ (w = 1 ∧ AtR as (.tru (e % 2)) r zs) ∨ (w = 2 ∧ AtR as (.cel (at_ tm e) (e / 5 % 10)) r zs) ∨
  (w = 3 ∧ BinR 0 as (at_ tm e) (at_ tm (e / 61)) r zs) ∨ (w = 4 ∧ BinR 1 as (at_ tm e) (at_ tm (e / 61)) r zs) ∨ (w = 5 ∧ BinR 2 as (at_ tm e) (at_ tm (e / 61)) r zs) ∨
  (w = 6 ∧ r = plusT (at_ tm e) (at_ tm (e / 61)) ∧ zs = []) ∨ (w = 7 ∧ r = minusT (at_ tm e) (at_ tm (e / 61)) ∧ zs = []) ∨ (w = 8 ∧ r = lastT tm e ∧ zs = [])
theorem plusK {n : Nat} {t u : Tm} (ht : Kb n t) (hu : Kb n u) : Kb n (plusT t u) := by
  unfold plusT
  exact lsumK ht hu
theorem stp_ex {as : List Atm} {tm : List Tm} {w : Int} (e : Int) (h0 : 0 ≤ w) (h9 : w < 9) (ok : AsOk as) (hl : as.length < 62) (hne : tm ≠ []) (hw : ∀ t ∈ tm, Wf t ∧ Kb as.length t) : ∃ r zs, (StpR as tm w e r zs ∧ StpR (as ++ zs) tm w e r []) ∧ Nxt as r zs := by
  have ht := hw _ (at_in hne e).1
  have hu := hw _ (at_in hne (e / 61)).1
  have fin : ∀ r, Wf r → Kb as.length r → Nxt as r [] := fun r h1 h2 => ⟨by rw [List.append_nil]; exact ok, Nat.zero_le _, h1, by rw [List.append_nil]; exact h2⟩
  have : w = 0 ∨ w = 1 ∨ w = 2 ∨ w = 3 ∨ w = 4 ∨ w = 5 ∨ w = 6 ∨ w = 7 ∨ w = 8 := by omega
  rcases this with rfl | rfl | rfl | rfl | rfl | rfl | rfl | rfl | rfl
  · obtain ⟨r, zs, ⟨h1, h2⟩, hn⟩ := at_ex ok hl (x := .box (e % 4)) ⟨by omega, by omega⟩ (key2 (kd := "box") (by decide +kernel) (e % 4))
    exact ⟨r, zs, ⟨.inl ⟨rfl, h1⟩, .inl ⟨rfl, h2⟩⟩, hn⟩
  · obtain ⟨r, zs, ⟨h1, h2⟩, hn⟩ := at_ex ok hl (x := .tru (e % 2)) ⟨by omega, by omega⟩ (key2 (kd := "truth") (by decide +kernel) (e % 2))
    exact ⟨r, zs, ⟨.inr (.inl ⟨rfl, h1⟩), .inr (.inl ⟨rfl, h2⟩)⟩, hn⟩
  · obtain ⟨r, zs, ⟨h1, h2⟩, hn⟩ := at_ex ok hl (x := .cel (at_ tm e) (e / 5 % 10)) ⟨ht.1, ht.2⟩ (keyC (at_ tm e) (e / 5 % 10))
    exact ⟨r, zs, ⟨.inr (.inr (.inl ⟨rfl, h1⟩)), .inr (.inr (.inl ⟨rfl, h2⟩))⟩, hn⟩
  · obtain ⟨r, zs, ⟨h1, h2⟩, hn⟩ := bin_ex (o := 0) (by decide) ok hl ht.1 hu.1 ht.2 hu.2
    exact ⟨r, zs, ⟨.inr (.inr (.inr (.inl ⟨rfl, h1⟩))), .inr (.inr (.inr (.inl ⟨rfl, h2⟩)))⟩, hn⟩
  · obtain ⟨r, zs, ⟨h1, h2⟩, hn⟩ := bin_ex (o := 1) (by decide) ok hl ht.1 hu.1 ht.2 hu.2
    exact ⟨r, zs, ⟨.inr (.inr (.inr (.inr (.inl ⟨rfl, h1⟩)))), .inr (.inr (.inr (.inr (.inl ⟨rfl, h2⟩))))⟩, hn⟩
  · obtain ⟨r, zs, ⟨h1, h2⟩, hn⟩ := bin_ex (o := 2) (by decide) ok hl ht.1 hu.1 ht.2 hu.2
    exact ⟨r, zs, ⟨.inr (.inr (.inr (.inr (.inr (.inl ⟨rfl, h1⟩))))), .inr (.inr (.inr (.inr (.inr (.inl ⟨rfl, h2⟩)))))⟩, hn⟩
  · exact ⟨_, [], ⟨.inr (.inr (.inr (.inr (.inr (.inr (.inl ⟨rfl, rfl, rfl⟩)))))), .inr (.inr (.inr (.inr (.inr (.inr (.inl ⟨rfl, rfl, rfl⟩))))))⟩, fin _ (plus_wf ht.1 hu.1) (plusK ht.2 hu.2)⟩
  · exact ⟨_, [], ⟨.inr (.inr (.inr (.inr (.inr (.inr (.inr (.inl ⟨rfl, rfl, rfl⟩))))))), .inr (.inr (.inr (.inr (.inr (.inr (.inr (.inl ⟨rfl, rfl, rfl⟩)))))))⟩, fin _ (minus_wf ht.1 hu.1) (minusK ht.1 hu.1 ht.2 hu.2)⟩
  · refine ⟨lastT tm e, [], ⟨.inr (.inr (.inr (.inr (.inr (.inr (.inr (.inr ⟨rfl, rfl, rfl⟩))))))), .inr (.inr (.inr (.inr (.inr (.inr (.inr (.inr ⟨rfl, rfl, rfl⟩)))))))⟩, fin _ ?_ ?_⟩
    · unfold lastT; split
      · exact num_wf
      · exact many_wf ht.1
    · unfold lastT; split
      · exact numK _
      · exact manyK ht.1 ht.2
end
section
variable {P : Program} {w : World} {K : PySem.W.Frag} {mg : Str → Option Value} {base : Heap}
local macro_rules | `(tactic| walk_at "u1") => `(tactic| exact Nat.lt_of_le_of_lt (Nat.add_le_add_left (by decide) _) (Room.units (by assumption)))
variable {C : Addr}
theorem at_vl {st : Sta} {as : List Atm} {tm : List Tm} (hne : tm ≠ []) (e : Int) : atI ((tm.map (vl st as)).map PyData.int) (e % tm.length) = some (.int (vl st as (at_ tm e))) := by
  obtain ⟨_, h1, h2⟩ := at_in hne e
  refine atI_of h1 ?_
  unfold at_
  rw [List.getElem?_map, List.getElem?_map, List.getElem?_eq_getElem (by omega), List.getD_eq_getElem?_getD, List.getElem?_eq_getElem (by omega)]
  rfl
def F_step (T ds : List PyData) (d : PyData) (T' : List PyData) : Prop := ∃ (as zs : List Atm) (tm : List Tm) (c : Int) (st : Sta) (r : Tm), AsOk as ∧ AsOk (as ++ zs) ∧ tm ≠ [] ∧ tm.length ≤ 20 ∧ (∀ t ∈ tm, Wf t ∧ Kb as.length t) ∧ StOk st ∧ T = as.map aD ∧ T' = (as ++ zs).map aD ∧ ds = [.list (tm.map tmD), .list ((tm.map (vl st as)).map PyData.int), .int c, stD st] ∧ d = .list [tmD r, .int (vl st (as ++ zs) r)] ∧ StpR as tm (c % 9) (c / 9) r zs
set_option maxHeartbeats 10000000 in
theorem q_law_step (T : Txt mg) (CT : ClsT K C) (D_box : TFn P w K mg base 2 C "box" F_box) (D_truth : TFn P w K mg base 2 C "truth" F_truth) (D_cell : TFn P w K mg base 2 C "cell" F_cel) (D_both : TFn P w K mg base 3 C "both" (F_bin andS "and")) (D_unlike : TFn P w K mg base 3 C "unlike" (F_bin xorS "xor")) (D_product : TFn P w K mg base 3 C "product" (F_bin mulS "mul")) (D_plus : DFn P w K mg base 2 "plus" F_plus) (D_minus : DFn P w K mg base 3 "minus" F_minus) (D_num : DFn P w K mg base 1 "number_term" F_num) (D_many : DFn P w K mg base 2 "so_many" F_many) {f : Addr} {fd : FuncData} (F : Fun K "_law_step" "_law_step" s_law_step f fd) (hm : mg "_law_step" = some (.ref f)) : AFn P w K mg base 6 C "_law_step" F_step := by
  refine F.tabZ hm (F.binds fun _ _ _ _ _ _ us hl => match us, hl with | [_, _, _, _, _], _ => rfl) sc_law_step (fun T ds d T' ⟨_, _, _, _, _, _, _, _, _, _, _, _, _, _, e, _⟩ => by rw [e]; rfl) fun cdv A outer s H E R T0 ds d T' hr hC ⟨as, zs, tm, c, st, r, ok, ok2, hne, h20, hw, hst, e1, e2, e3, e4, hstp⟩ => ?_
  subst hC e1 e2 e3 e4
  have htl : ((tm.map tmD).length : Int) = tm.length := by rw [List.length_map]
  have hlen : ∀ x : Int, x % ((tm.map tmD).length : Int) = x % tm.length := fun x => by rw [htl]
  have hpos : (0 : Int) < ((tm.map tmD).length : Int) := by
    rw [htl]
    have := List.length_pos_iff.mpr hne
    omega
  refine zr_cons (zn_set (i := 5) (d := .int (c % 9)) sc_law_step.nd rfl (by show 5 ∉ [0]; decide) (Or.inl rfl) (ze_of qz_ok (ev_bin (ev_var 3 (by rfl) (pv 3)) ev_int (by walk_at "od")) rfl)) ?_
  refine zr_cons (zn_set (i := 3) (d := .int (c / 9)) sc_law_step.nd rfl (by show 3 ∉ [0]; decide) (Or.inl rfl) (ze_of qz_ok (ev_bin (ev_var 3 (by rfl) (pv 3)) ev_int (by walk_at "od")) rfl)) ?_
  generalize c % 9 = w0 at hstp ⊢
  generalize c / 9 = e at hstp ⊢
  have ht := hw _ (at_in hne e).1
  have hu := hw _ (at_in hne (e / 61)).1
  refine zr_cons (zn_set (i := 6) (d := .int (e % tm.length)) sc_law_step.nd rfl (by show 6 ∉ [0]; decide) (Or.inl rfl) (ze_of qz_ok (ev_eq (ev_bin (ev_var 3 (by rfl) (pv 3)) (ev_callB2 "len" (av_cons (ev_var 1 (by rfl) (pv 1)) av_nil) cd_lenL rfl T.b_len (by decide +kernel)) (od_mod hpos)) (by rw [hlen])) rfl)) ?_
  refine zr_cons (zn_set (i := 7) (d := .int (e / 61 % tm.length)) sc_law_step.nd rfl (by show 7 ∉ [0]; decide) (Or.inl rfl) (ze_of qz_ok (ev_eq (ev_bin (ev_bin (ev_var 3 (by rfl) (pv 3)) ev_int (by walk_at "od")) (ev_callB2 "len" (av_cons (ev_var 1 (by rfl) (pv 1)) av_nil) cd_lenL rfl T.b_len (by decide +kernel)) (od_mod hpos)) (by rw [hlen])) rfl)) ?_
  refine zr_cons (zn_set (i := 8) (d := .int (vl st as (at_ tm e))) sc_law_step.nd rfl (by show 8 ∉ [0]; decide) (Or.inl rfl) (ze_of qz_ok (ev_ixL (ev_var 2 (by rfl) (pv 2)) (ev_var 6 (by rfl) (pv 6)) (at_vl hne e)) rfl)) ?_
  refine zr_cons (zn_set (i := 9) (d := .int (vl st as (at_ tm (e / 61)))) sc_law_step.nd rfl (by show 9 ∉ [0]; decide) (Or.inl rfl) (ze_of qz_ok (ev_ixL (ev_var 2 (by rfl) (pv 2)) (ev_var 7 (by rfl) (pv 7)) (at_vl hne (e / 61))) rfl)) ?_
  refine zr_cons (zn_set (i := 10) (d := .int (nN e)) sc_law_step.nd rfl (by show 10 ∉ [0]; decide) (Or.inl rfl) (ze_of qz_ok (ev_ixL (ds := [.int 0, .int 1, .int 4095, .int (e % 4096)]) (d := .int (nN e)) (ev_lst (av_cons ev_int (av_cons ev_int (av_cons ev_int (av_cons (ev_bin (ev_var 3 (by rfl) (pv 3)) ev_int (by walk_at "od")) av_nil)))) (by walk_at "sz")) (ev_bin (ev_bin (ev_var 3 (by rfl) (pv 3)) ev_int (by walk_at "od")) ev_int (by walk_at "od")) (show atI (([0, 1, 4095, e % 4096] : List Int).map PyData.int) (e / 17 % 4) = _ from at_ints (by omega) (by show e / 17 % 4 < 4; omega))) rfl)) ?_
  have hn := nN_in e
  have h1 : 0 ≤ vl st as (at_ tm e) ∧ vl st as (at_ tm e) < 4096 := vl_in
  have h2 : 0 ≤ vl st as (at_ tm (e / 61)) ∧ vl st as (at_ tm (e / 61)) < 4096 := vl_in
  unfold StpR at hstp
  rcases hstp with ⟨h0, i, er, hi, hf⟩ | ⟨h0, i, er, hi, hf⟩ | ⟨h0, i, er, hi, hf⟩ | ⟨h0, hb⟩ | ⟨h0, hb⟩ | ⟨h0, hb⟩ | ⟨h0, er, ez⟩ | ⟨h0, er, ez⟩ | ⟨h0, er, ez⟩
  · subst er
    exact zr_if (k := true) (zt_of qz_ok (tv_cmp (ev_var 5 (by rfl) (pv 5)) ev_int (od_eq (by walk_at "un") rfl rfl (by walk_at "dp") (by rw [eqv_i, decide_eq_true h0])) (nomark _))) (fun _ => zr_ret (ze_lst qz_ok (za_cons (qe_meth CT.cl D_box (by walk_at "rm") List.mem_cons_self (pv 0) (av_cons (ev_bin (ev_var 3 (by rfl) (pv 3)) ev_int (by walk_at "od")) av_nil) rfl ⟨_, rfl, hf⟩) (za_cons (ze_of (d := .int (vl st (as ++ zs) (atm i))) qz_ok (ev_eq (ev_ixL (ds := st.bx.map PyData.int) (ev_ixL (ds := [bxD st, trD st, rdD st]) (ev_var 4 (by rfl) (pv 4)) ev_int rfl) (ev_bin (ev_var 3 (by rfl) (pv 3)) ev_int (by walk_at "od")) (at_ints (by omega) (by rw [hst.b]; show e % 4 < 4; omega))) (by rw [at_val hst ok2 hi]; rfl)) rfl) za_nil)) (by rw [sizeLine_eq]; show 2 ≤ _; omega))) (fun z => by cases z)
  · refine zr_if (k := false) (zt_of qz_ok (tv_cmp (ev_var 5 (by rfl) (pv 5)) ev_int (od_eq (by walk_at "un") rfl rfl (by walk_at "dp") (by rw [eqv_i, decide_eq_false (by omega)])) (nomark _))) (fun z => by cases z) fun _ => ?_
    subst er
    exact zr_if (k := true) (zt_of qz_ok (tv_cmp (ev_var 5 (by rfl) (pv 5)) ev_int (od_eq (by walk_at "un") rfl rfl (by walk_at "dp") (by rw [eqv_i, decide_eq_true h0])) (nomark _))) (fun _ => zr_ret (ze_lst qz_ok (za_cons (qe_meth CT.cl D_truth (by walk_at "rm") List.mem_cons_self (pv 0) (av_cons (ev_bin (ev_var 3 (by rfl) (pv 3)) ev_int (by walk_at "od")) av_nil) rfl ⟨_, rfl, hf⟩) (za_cons (ze_of (d := .int (vl st (as ++ zs) (atm i))) qz_ok (ev_eq (ev_callTy2 "int" (av_cons (ev_ixT (ds := st.tr.map PyData.bool) (ev_ixL (ds := [bxD st, trD st, rdD st]) (ev_var 4 (by rfl) (pv 4)) ev_int rfl) (ev_bin (ev_var 3 (by rfl) (pv 3)) ev_int (by walk_at "od")) (at_bools (by omega) (by rw [hst.t]; show e % 2 < 2; omega))) av_nil) cd_intB rfl T.b_int (by decide +kernel) (by decide) (by decide)) (by rw [at_val hst ok2 hi]; rfl)) rfl) za_nil)) (by rw [sizeLine_eq]; show 2 ≤ _; omega))) (fun z => by cases z)
  · refine zr_if (k := false) (zt_of qz_ok (tv_cmp (ev_var 5 (by rfl) (pv 5)) ev_int (od_eq (by walk_at "un") rfl rfl (by walk_at "dp") (by rw [eqv_i, decide_eq_false (by omega)])) (nomark _))) (fun z => by cases z) fun _ => ?_
    refine zr_if (k := false) (zt_of qz_ok (tv_cmp (ev_var 5 (by rfl) (pv 5)) ev_int (od_eq (by walk_at "un") rfl rfl (by walk_at "dp") (by rw [eqv_i, decide_eq_false (by omega)])) (nomark _))) (fun z => by cases z) fun _ => ?_
    subst er
    exact zr_if (k := true) (zt_of qz_ok (tv_cmp (ev_var 5 (by rfl) (pv 5)) ev_int (od_eq (by walk_at "un") rfl rfl (by walk_at "dp") (by rw [eqv_i, decide_eq_true h0])) (nomark _))) (fun _ => zr_ret (ze_lst qz_ok (za_cons (qe_meth CT.cl D_cell (by walk_at "rm") List.mem_cons_self (pv 0) (av_cons (ev_ixL (ev_var 1 (by rfl) (pv 1)) (ev_var 6 (by rfl) (pv 6)) (at_at hne e)) (av_cons (ev_bin (ev_bin (ev_var 3 (by rfl) (pv 3)) ev_int (by walk_at "od")) ev_int (by walk_at "od")) av_nil)) (by show (noL (tmD (at_ tm e)) && (noL (.int (e / 5 % 10)) && true)) = true; rw [tm_noL]; rfl) ⟨_, _, rfl, hf⟩) (za_cons (ze_of (d := .int (vl st (as ++ zs) (atm i))) qz_ok (ev_eq (ev_getPP (by walk_at "u1") (ev_ixL (ds := [bxD st, trD st, rdD st]) (ev_var 4 (by rfl) (pv 4)) ev_int rfl) (ev_var 8 (by rfl) (pv 8)) (ev_bin (ev_bin (ev_var 3 (by rfl) (pv 3)) ev_int (by walk_at "od")) ev_int (by walk_at "od")) ev_int ⟨rfl, rfl, rfl, rfl⟩) (by rw [at_val hst ok2 hi]; show _ = PyData.int (rdG st.rd (vl st (as ++ zs) (at_ tm e)) (e / 5 % 10)); rw [vl_pre ht.1 ht.2])) rfl) za_nil)) (by rw [sizeLine_eq]; show 2 ≤ _; omega))) (fun z => by cases z)
  · refine zr_if (k := false) (zt_of qz_ok (tv_cmp (ev_var 5 (by rfl) (pv 5)) ev_int (od_eq (by walk_at "un") rfl rfl (by walk_at "dp") (by rw [eqv_i, decide_eq_false (by omega)])) (nomark _))) (fun z => by cases z) fun _ => ?_
    refine zr_if (k := false) (zt_of qz_ok (tv_cmp (ev_var 5 (by rfl) (pv 5)) ev_int (od_eq (by walk_at "un") rfl rfl (by walk_at "dp") (by rw [eqv_i, decide_eq_false (by omega)])) (nomark _))) (fun z => by cases z) fun _ => ?_
    refine zr_if (k := false) (zt_of qz_ok (tv_cmp (ev_var 5 (by rfl) (pv 5)) ev_int (od_eq (by walk_at "un") rfl rfl (by walk_at "dp") (by rw [eqv_i, decide_eq_false (by omega)])) (nomark _))) (fun z => by cases z) fun _ => ?_
    exact zr_if (k := true) (zt_of qz_ok (tv_cmp (ev_var 5 (by rfl) (pv 5)) ev_int (od_eq (by walk_at "un") rfl rfl (by walk_at "dp") (by rw [eqv_i, decide_eq_true h0])) (nomark _))) (fun _ => zr_ret (ze_lst qz_ok (za_cons (qe_meth CT.cl D_both (by walk_at "rm") List.mem_cons_self (pv 0) (av_cons (ev_ixL (ev_var 1 (by rfl) (pv 1)) (ev_var 6 (by rfl) (pv 6)) (at_at hne e)) (av_cons (ev_ixL (ev_var 1 (by rfl) (pv 1)) (ev_var 7 (by rfl) (pv 7)) (at_at hne (e / 61))) av_nil)) (by show (noL (tmD (at_ tm e)) && (noL (tmD (at_ tm (e / 61))) && true)) = true; rw [tm_noL, tm_noL]; rfl) (bin_F ht.1 hu.1 hb)) (za_cons (ze_of (d := .int (vl st (as ++ zs) r)) qz_ok (ev_eq (ev_bin (ev_var 8 (by rfl) (pv 8)) (ev_var 9 (by rfl) (pv 9)) od_and) (by rw [bin_v hst ok2 ht.1 hu.1 ht.2 hu.2 hb]; rfl)) rfl) za_nil)) (by rw [sizeLine_eq]; show 2 ≤ _; omega))) (fun z => by cases z)
  · refine zr_if (k := false) (zt_of qz_ok (tv_cmp (ev_var 5 (by rfl) (pv 5)) ev_int (od_eq (by walk_at "un") rfl rfl (by walk_at "dp") (by rw [eqv_i, decide_eq_false (by omega)])) (nomark _))) (fun z => by cases z) fun _ => ?_
    refine zr_if (k := false) (zt_of qz_ok (tv_cmp (ev_var 5 (by rfl) (pv 5)) ev_int (od_eq (by walk_at "un") rfl rfl (by walk_at "dp") (by rw [eqv_i, decide_eq_false (by omega)])) (nomark _))) (fun z => by cases z) fun _ => ?_
    refine zr_if (k := false) (zt_of qz_ok (tv_cmp (ev_var 5 (by rfl) (pv 5)) ev_int (od_eq (by walk_at "un") rfl rfl (by walk_at "dp") (by rw [eqv_i, decide_eq_false (by omega)])) (nomark _))) (fun z => by cases z) fun _ => ?_
    refine zr_if (k := false) (zt_of qz_ok (tv_cmp (ev_var 5 (by rfl) (pv 5)) ev_int (od_eq (by walk_at "un") rfl rfl (by walk_at "dp") (by rw [eqv_i, decide_eq_false (by omega)])) (nomark _))) (fun z => by cases z) fun _ => ?_
    exact zr_if (k := true) (zt_of qz_ok (tv_cmp (ev_var 5 (by rfl) (pv 5)) ev_int (od_eq (by walk_at "un") rfl rfl (by walk_at "dp") (by rw [eqv_i, decide_eq_true h0])) (nomark _))) (fun _ => zr_ret (ze_lst qz_ok (za_cons (qe_meth CT.cl D_unlike (by walk_at "rm") List.mem_cons_self (pv 0) (av_cons (ev_ixL (ev_var 1 (by rfl) (pv 1)) (ev_var 6 (by rfl) (pv 6)) (at_at hne e)) (av_cons (ev_ixL (ev_var 1 (by rfl) (pv 1)) (ev_var 7 (by rfl) (pv 7)) (at_at hne (e / 61))) av_nil)) (by show (noL (tmD (at_ tm e)) && (noL (tmD (at_ tm (e / 61))) && true)) = true; rw [tm_noL, tm_noL]; rfl) (bin_F ht.1 hu.1 hb)) (za_cons (ze_of (d := .int (vl st (as ++ zs) r)) qz_ok (ev_eq (ev_bin (ev_var 8 (by rfl) (pv 8)) (ev_var 9 (by rfl) (pv 9)) od_xor) (by rw [bin_v hst ok2 ht.1 hu.1 ht.2 hu.2 hb]; rfl)) rfl) za_nil)) (by rw [sizeLine_eq]; show 2 ≤ _; omega))) (fun z => by cases z)
  · refine zr_if (k := false) (zt_of qz_ok (tv_cmp (ev_var 5 (by rfl) (pv 5)) ev_int (od_eq (by walk_at "un") rfl rfl (by walk_at "dp") (by rw [eqv_i, decide_eq_false (by omega)])) (nomark _))) (fun z => by cases z) fun _ => ?_
    refine zr_if (k := false) (zt_of qz_ok (tv_cmp (ev_var 5 (by rfl) (pv 5)) ev_int (od_eq (by walk_at "un") rfl rfl (by walk_at "dp") (by rw [eqv_i, decide_eq_false (by omega)])) (nomark _))) (fun z => by cases z) fun _ => ?_
    refine zr_if (k := false) (zt_of qz_ok (tv_cmp (ev_var 5 (by rfl) (pv 5)) ev_int (od_eq (by walk_at "un") rfl rfl (by walk_at "dp") (by rw [eqv_i, decide_eq_false (by omega)])) (nomark _))) (fun z => by cases z) fun _ => ?_
    refine zr_if (k := false) (zt_of qz_ok (tv_cmp (ev_var 5 (by rfl) (pv 5)) ev_int (od_eq (by walk_at "un") rfl rfl (by walk_at "dp") (by rw [eqv_i, decide_eq_false (by omega)])) (nomark _))) (fun z => by cases z) fun _ => ?_
    refine zr_if (k := false) (zt_of qz_ok (tv_cmp (ev_var 5 (by rfl) (pv 5)) ev_int (od_eq (by walk_at "un") rfl rfl (by walk_at "dp") (by rw [eqv_i, decide_eq_false (by omega)])) (nomark _))) (fun z => by cases z) fun _ => ?_
    exact zr_if (k := true) (zt_of qz_ok (tv_cmp (ev_var 5 (by rfl) (pv 5)) ev_int (od_eq (by walk_at "un") rfl rfl (by walk_at "dp") (by rw [eqv_i, decide_eq_true h0])) (nomark _))) (fun _ => zr_ret (ze_lst qz_ok (za_cons (qe_meth CT.cl D_product (by walk_at "rm") List.mem_cons_self (pv 0) (av_cons (ev_ixL (ev_var 1 (by rfl) (pv 1)) (ev_var 6 (by rfl) (pv 6)) (at_at hne e)) (av_cons (ev_ixL (ev_var 1 (by rfl) (pv 1)) (ev_var 7 (by rfl) (pv 7)) (at_at hne (e / 61))) av_nil)) (by show (noL (tmD (at_ tm e)) && (noL (tmD (at_ tm (e / 61))) && true)) = true; rw [tm_noL, tm_noL]; rfl) (bin_F ht.1 hu.1 hb)) (za_cons (ze_of (d := .int (vl st (as ++ zs) r)) qz_ok (ev_eq (ev_bin (ev_bin (ev_var 8 (by rfl) (pv 8)) (ev_var 9 (by rfl) (pv 9)) (od_mul (.inl ⟨by omega, by omega⟩))) ev_int (by walk_at "od")) (by rw [bin_v hst ok2 ht.1 hu.1 ht.2 hu.2 hb]; rfl)) rfl) za_nil)) (by rw [sizeLine_eq]; show 2 ≤ _; omega))) (fun z => by cases z)
  · refine zr_if (k := false) (zt_of qz_ok (tv_cmp (ev_var 5 (by rfl) (pv 5)) ev_int (od_eq (by walk_at "un") rfl rfl (by walk_at "dp") (by rw [eqv_i, decide_eq_false (by omega)])) (nomark _))) (fun z => by cases z) fun _ => ?_
    refine zr_if (k := false) (zt_of qz_ok (tv_cmp (ev_var 5 (by rfl) (pv 5)) ev_int (od_eq (by walk_at "un") rfl rfl (by walk_at "dp") (by rw [eqv_i, decide_eq_false (by omega)])) (nomark _))) (fun z => by cases z) fun _ => ?_
    refine zr_if (k := false) (zt_of qz_ok (tv_cmp (ev_var 5 (by rfl) (pv 5)) ev_int (od_eq (by walk_at "un") rfl rfl (by walk_at "dp") (by rw [eqv_i, decide_eq_false (by omega)])) (nomark _))) (fun z => by cases z) fun _ => ?_
    refine zr_if (k := false) (zt_of qz_ok (tv_cmp (ev_var 5 (by rfl) (pv 5)) ev_int (od_eq (by walk_at "un") rfl rfl (by walk_at "dp") (by rw [eqv_i, decide_eq_false (by omega)])) (nomark _))) (fun z => by cases z) fun _ => ?_
    refine zr_if (k := false) (zt_of qz_ok (tv_cmp (ev_var 5 (by rfl) (pv 5)) ev_int (od_eq (by walk_at "un") rfl rfl (by walk_at "dp") (by rw [eqv_i, decide_eq_false (by omega)])) (nomark _))) (fun z => by cases z) fun _ => ?_
    refine zr_if (k := false) (zt_of qz_ok (tv_cmp (ev_var 5 (by rfl) (pv 5)) ev_int (od_eq (by walk_at "un") rfl rfl (by walk_at "dp") (by rw [eqv_i, decide_eq_false (by omega)])) (nomark _))) (fun z => by cases z) fun _ => ?_
    subst er ez
    have ea : (as ++ ([] : List Atm)).map aD = as.map aD := congrArg (List.map aD) (List.append_nil as)
    rw [ea]
    exact zr_if (k := true) (zt_of qz_ok (tv_cmp (ev_var 5 (by rfl) (pv 5)) ev_int (od_eq (by walk_at "un") rfl rfl (by walk_at "dp") (by rw [eqv_i, decide_eq_true h0])) (nomark _))) (fun _ => zr_ret (ze_lst qz_ok (za_cons (ze_of qz_ok (ev_call D_plus (by walk_at "rm") rfl (av_cons (ev_ixL (ev_var 1 (by rfl) (pv 1)) (ev_var 6 (by rfl) (pv 6)) (at_at hne e)) (av_cons (ev_ixL (ev_var 1 (by rfl) (pv 1)) (ev_var 7 (by rfl) (pv 7)) (at_at hne (e / 61))) av_nil)) ⟨_, _, ht.1, hu.1, rfl, rfl⟩) (tm_noL _)) (za_cons (ze_of (d := .int (vl st (as ++ []) (plusT (at_ tm e) (at_ tm (e / 61))))) qz_ok (ev_eq (ev_bin (ev_bin (ev_var 8 (by rfl) (pv 8)) (ev_var 9 (by rfl) (pv 9)) (by walk_at "od")) ev_int (by walk_at "od")) (by rw [List.append_nil]; exact congrArg PyData.int (val_plus _ ht.1 hu.1).symm)) rfl) za_nil)) (by rw [sizeLine_eq]; show 2 ≤ _; omega))) (fun z => by cases z)
  · refine zr_if (k := false) (zt_of qz_ok (tv_cmp (ev_var 5 (by rfl) (pv 5)) ev_int (od_eq (by walk_at "un") rfl rfl (by walk_at "dp") (by rw [eqv_i, decide_eq_false (by omega)])) (nomark _))) (fun z => by cases z) fun _ => ?_
    refine zr_if (k := false) (zt_of qz_ok (tv_cmp (ev_var 5 (by rfl) (pv 5)) ev_int (od_eq (by walk_at "un") rfl rfl (by walk_at "dp") (by rw [eqv_i, decide_eq_false (by omega)])) (nomark _))) (fun z => by cases z) fun _ => ?_
    refine zr_if (k := false) (zt_of qz_ok (tv_cmp (ev_var 5 (by rfl) (pv 5)) ev_int (od_eq (by walk_at "un") rfl rfl (by walk_at "dp") (by rw [eqv_i, decide_eq_false (by omega)])) (nomark _))) (fun z => by cases z) fun _ => ?_
    refine zr_if (k := false) (zt_of qz_ok (tv_cmp (ev_var 5 (by rfl) (pv 5)) ev_int (od_eq (by walk_at "un") rfl rfl (by walk_at "dp") (by rw [eqv_i, decide_eq_false (by omega)])) (nomark _))) (fun z => by cases z) fun _ => ?_
    refine zr_if (k := false) (zt_of qz_ok (tv_cmp (ev_var 5 (by rfl) (pv 5)) ev_int (od_eq (by walk_at "un") rfl rfl (by walk_at "dp") (by rw [eqv_i, decide_eq_false (by omega)])) (nomark _))) (fun z => by cases z) fun _ => ?_
    refine zr_if (k := false) (zt_of qz_ok (tv_cmp (ev_var 5 (by rfl) (pv 5)) ev_int (od_eq (by walk_at "un") rfl rfl (by walk_at "dp") (by rw [eqv_i, decide_eq_false (by omega)])) (nomark _))) (fun z => by cases z) fun _ => ?_
    refine zr_if (k := false) (zt_of qz_ok (tv_cmp (ev_var 5 (by rfl) (pv 5)) ev_int (od_eq (by walk_at "un") rfl rfl (by walk_at "dp") (by rw [eqv_i, decide_eq_false (by omega)])) (nomark _))) (fun z => by cases z) fun _ => ?_
    subst er ez
    have ea : (as ++ ([] : List Atm)).map aD = as.map aD := congrArg (List.map aD) (List.append_nil as)
    rw [ea]
    exact zr_if (k := true) (zt_of qz_ok (tv_cmp (ev_var 5 (by rfl) (pv 5)) ev_int (od_eq (by walk_at "un") rfl rfl (by walk_at "dp") (by rw [eqv_i, decide_eq_true h0])) (nomark _))) (fun _ => zr_ret (ze_lst qz_ok (za_cons (ze_of qz_ok (ev_call D_minus (by walk_at "rm") rfl (av_cons (ev_ixL (ev_var 1 (by rfl) (pv 1)) (ev_var 6 (by rfl) (pv 6)) (at_at hne e)) (av_cons (ev_ixL (ev_var 1 (by rfl) (pv 1)) (ev_var 7 (by rfl) (pv 7)) (at_at hne (e / 61))) av_nil)) ⟨_, _, ht.1, hu.1, rfl, rfl⟩) (tm_noL _)) (za_cons (ze_of (d := .int (vl st (as ++ []) (minusT (at_ tm e) (at_ tm (e / 61))))) qz_ok (ev_eq (ev_bin (ev_bin (ev_var 8 (by rfl) (pv 8)) (ev_var 9 (by rfl) (pv 9)) (by walk_at "od")) ev_int (by walk_at "od")) (by rw [List.append_nil]; exact congrArg PyData.int (val_minus _ ht.1 hu.1).symm)) rfl) za_nil)) (by rw [sizeLine_eq]; show 2 ≤ _; omega))) (fun z => by cases z)
  · refine zr_if (k := false) (zt_of qz_ok (tv_cmp (ev_var 5 (by rfl) (pv 5)) ev_int (od_eq (by walk_at "un") rfl rfl (by walk_at "dp") (by rw [eqv_i, decide_eq_false (by omega)])) (nomark _))) (fun z => by cases z) fun _ => ?_
    refine zr_if (k := false) (zt_of qz_ok (tv_cmp (ev_var 5 (by rfl) (pv 5)) ev_int (od_eq (by walk_at "un") rfl rfl (by walk_at "dp") (by rw [eqv_i, decide_eq_false (by omega)])) (nomark _))) (fun z => by cases z) fun _ => ?_
    refine zr_if (k := false) (zt_of qz_ok (tv_cmp (ev_var 5 (by rfl) (pv 5)) ev_int (od_eq (by walk_at "un") rfl rfl (by walk_at "dp") (by rw [eqv_i, decide_eq_false (by omega)])) (nomark _))) (fun z => by cases z) fun _ => ?_
    refine zr_if (k := false) (zt_of qz_ok (tv_cmp (ev_var 5 (by rfl) (pv 5)) ev_int (od_eq (by walk_at "un") rfl rfl (by walk_at "dp") (by rw [eqv_i, decide_eq_false (by omega)])) (nomark _))) (fun z => by cases z) fun _ => ?_
    refine zr_if (k := false) (zt_of qz_ok (tv_cmp (ev_var 5 (by rfl) (pv 5)) ev_int (od_eq (by walk_at "un") rfl rfl (by walk_at "dp") (by rw [eqv_i, decide_eq_false (by omega)])) (nomark _))) (fun z => by cases z) fun _ => ?_
    refine zr_if (k := false) (zt_of qz_ok (tv_cmp (ev_var 5 (by rfl) (pv 5)) ev_int (od_eq (by walk_at "un") rfl rfl (by walk_at "dp") (by rw [eqv_i, decide_eq_false (by omega)])) (nomark _))) (fun z => by cases z) fun _ => ?_
    refine zr_if (k := false) (zt_of qz_ok (tv_cmp (ev_var 5 (by rfl) (pv 5)) ev_int (od_eq (by walk_at "un") rfl rfl (by walk_at "dp") (by rw [eqv_i, decide_eq_false (by omega)])) (nomark _))) (fun z => by cases z) fun _ => ?_
    refine zr_if (k := false) (zt_of qz_ok (tv_cmp (ev_var 5 (by rfl) (pv 5)) ev_int (od_eq (by walk_at "un") rfl rfl (by walk_at "dp") (by rw [eqv_i, decide_eq_false (by omega)])) (nomark _))) (fun z => by cases z) fun _ => ?_
    subst er ez
    have ea : (as ++ ([] : List Atm)).map aD = as.map aD := congrArg (List.map aD) (List.append_nil as)
    rw [ea]
    refine zr_ret (ze_lst qz_ok (za_cons (ze_of (d := tmD (lastT tm e)) qz_ok (ev_ixL (ds := [tmD (numT (nN e)), tmD (manyT (at_ tm e) (nN e))]) (ev_lst (av_cons (ev_call D_num (by walk_at "rm") rfl (av_cons (ev_var 10 (by rfl) (pv 10)) av_nil) ⟨_, rfl, rfl⟩) (av_cons (ev_call D_many (by walk_at "rm") rfl (av_cons (ev_ixL (ev_var 1 (by rfl) (pv 1)) (ev_var 6 (by rfl) (pv 6)) (at_at hne e)) (av_cons (ev_var 10 (by rfl) (pv 10)) av_nil)) ⟨_, _, ht.1, hn.1, hn.2, rfl, rfl⟩) av_nil)) (by rw [sizeLine_eq]; show 2 ≤ _; omega)) (ev_bin (ev_bin (ev_var 3 (by rfl) (pv 3)) ev_int (by walk_at "od")) ev_int (by walk_at "od")) ?p1) (tm_noL _)) (za_cons (ze_of (d := .int (vl st (as ++ []) (lastT tm e))) qz_ok (ev_ixL (ds := [.int (nN e), .int (vl st as (at_ tm e) * nN e % 4096)]) (ev_lst (av_cons (ev_var 10 (by rfl) (pv 10)) (av_cons (ev_bin (ev_bin (ev_var 8 (by rfl) (pv 8)) (ev_var 10 (by rfl) (pv 10)) (od_mul (.inl ⟨by omega, by omega⟩))) ev_int (by walk_at "od")) av_nil)) (by rw [sizeLine_eq]; show 2 ≤ _; omega)) (ev_bin (ev_bin (ev_var 3 (by rfl) (pv 3)) ev_int (by walk_at "od")) ev_int (by walk_at "od")) ?p2) rfl) za_nil)) (by rw [sizeLine_eq]; show 2 ≤ _; omega))
    case p1 =>
      unfold lastT
      have : e / 3 % 2 = 0 ∨ e / 3 % 2 = 1 := by omega
      rcases this with h | h
      · rw [if_pos h, h]; rfl
      · rw [if_neg (by omega), h]; rfl
    case p2 =>
      rw [List.append_nil]
      unfold lastT
      have : e / 3 % 2 = 0 ∨ e / 3 % 2 = 1 := by omega
      rcases this with h | h
      · rw [if_pos h, h, numT_v, Int.emod_eq_of_lt hn.1 hn.2]; rfl
      · rw [if_neg (by omega), h, many_v ht.1]; rfl
end
section
variable {P : Program} {w : World} {K : PySem.W.Frag} {mg : Str → Option Value} {base : Heap}
local macro_rules | `(tactic| walk_at "u1") => `(tactic| exact Nat.lt_of_le_of_lt (Nat.add_le_add_left (by decide) _) (Room.units (by assumption)))
variable {C : Addr}
abbrev wL (st : Sta) (as : List Atm) (tm : List Tm) : List PyData := (tm.map (vl st as)).map PyData.int
theorem wL_pre {st : Sta} {as zs : List Atm} {tm : List Tm} (hw : ∀ t ∈ tm, Wf t ∧ Kb as.length t) : wL st (as ++ zs) tm = wL st as tm := by
  unfold wL
  congr 1
  exact List.map_congr_left fun t ht => vl_pre (hw t ht).1 (hw t ht).2
def lst20 (tm : List Tm) : List Tm := tm.drop (tm.length - 20)
theorem cut20 {α : Type} (D : α → PyData) (xs : List α) : cutD (xs.map D) (some (-20)) none = (xs.drop (xs.length - 20)).map D := cut_lastN D xs 20 (by decide)
theorem wL_cut (st : Sta) (as : List Atm) (tm : List Tm) (r : Tm) : cutD (wL st as tm ++ [.int (vl st as r)]) (some (-20)) none = wL st as (lst20 (tm ++ [r])) := by
  have e : wL st as tm ++ [PyData.int (vl st as r)] = (tm ++ [r]).map fun t => PyData.int (vl st as t) := by
    unfold wL
    rw [List.map_map, List.map_append]
    rfl
  rw [e, cut20]
  unfold wL lst20
  rw [List.map_map]
  rfl
theorem tm_cut (tm : List Tm) (r : Tm) : cutD (tm.map tmD ++ [tmD r]) (some (-20)) none = (lst20 (tm ++ [r])).map tmD := by
  have e : tm.map tmD ++ [tmD r] = (tm ++ [r]).map tmD := by rw [List.map_append]; rfl
  rw [e, cut20]
  rfl
theorem wL_noL (st : Sta) (as : List Atm) (tm : List Tm) : noLs (wL st as tm) = true := by
  unfold wL
  generalize tm.map (vl st as) = l
  induction l with
  | nil => rfl
  | cons x r ih => rw [List.map_cons]; unfold noLs; rw [ih]; rfl
theorem tms_noL (tm : List Tm) : noLs (tm.map tmD) = true := by
  induction tm with
  | nil => rfl
  | cons x r ih => rw [List.map_cons]; unfold noLs; rw [ih, tm_noL]; rfl
def W1 (sc : PyData) (s0 s1 : Sta) (k : Nat) (G : Gam) (T : List PyData) : Prop := ∃ (as : List Atm) (tm : List Tm) (a5 a6 a7 a8 a9 a10 : Option PyData), G = [some sc, some (.list ([s0, s1].map stD)), none, some (.list (tm.map tmD)), some (.list [.list (wL s0 as tm), .list (wL s1 as tm)]), a5, a6, a7, a8, a9, a10] ∧ T = as.map aD ∧ AsOk as ∧ as.length ≤ k ∧ tm ≠ [] ∧ tm.length ≤ 20 ∧ ∀ t ∈ tm, Wf t ∧ Kb as.length t
set_option maxHeartbeats 20000000 in
theorem ok_law (T : Txt mg) (CT : ClsT K C) (hT : mg "Table" = some (.ref C)) (D0 : IFn P w K mg base 1 C) (Dst : AFn P w K mg base 6 C "_law_step" F_step) (D_num : DFn P w K mg base 1 "number_term" F_num) (D_law_cell : DFn P w K mg base 1 "_law_cell" F_cell) (D_state : DFn P w K mg base 2 "_law_state" F_state) (Dr : DFn P w K mg base 4 "_law_right" (F_right C)) {f : Addr} {fd : FuncData} (F : Fun K "law" "law" s_law f fd) : FnOk P w K mg base CX0 20 f fd ["script"] (spD K F_law) := by
  refine F.dataOk sc_law (fun ds d ⟨_, e, _⟩ => by rw [e]; rfl) fun cdv A outer s H E ds d hr ⟨ns, e, hns, e2⟩ => ?_
  subst e e2
  have hlm : ((List.map PyData.int ns).length : Int) = ns.length := by rw [List.length_map]
  have hM : ∃ M : Nat, (if (if ((List.map PyData.int ns).length : Int) < 50 then ((List.map PyData.int ns).length : Int) else 50) > 1 then (if ((List.map PyData.int ns).length : Int) < 50 then ((List.map PyData.int ns).length : Int) else 50) else 1) = (M : Int) ∧ 1 ≤ M ∧ M ≤ 50 := by
    refine ⟨(if (if ((List.map PyData.int ns).length : Int) < 50 then ((List.map PyData.int ns).length : Int) else 50) > 1 then (if ((List.map PyData.int ns).length : Int) < 50 then ((List.map PyData.int ns).length : Int) else 50) else 1).toNat, ?_, ?_, ?_⟩
    · split <;> omega
    · split <;> omega
    · split
      · split <;> omega
      · omega
  obtain ⟨M, eM, hM1, hM2⟩ := hM
  have hs0 : StOk (stN ns) := stN_ok ns
  have hs1 : StOk (stN (ns.reverse ++ [7])) := stN_ok _
  have hp0 : SmallP (stN ns).rd := stN_small ns
  have hp1 : SmallP (stN (ns.reverse ++ [7])).rd := stN_small _
  have er : (ns.map PyData.int).reverse ++ [PyData.int 7] = (ns.reverse ++ [7]).map PyData.int := by rw [List.map_append, List.map_reverse]; rfl
  refine svs_cons (G1 := [some (.list (ns.map PyData.int)), some (.list ([stN ns, stN (ns.reverse ++ [7])].map stD)), none, none, none, none, none, none, none, none, none]) (sv_set (i := 1) (d := .list ([stN ns, stN (ns.reverse ++ [7])].map stD)) sc_law.nd rfl (Or.inl rfl) (ev_lst (ds := [stD (stN ns), stD (stN (ns.reverse ++ [7]))]) (av_cons (ev_call D_state (by walk_at "rm") rfl (av_cons (ev_var 0 (by rfl) (pv 0)) av_nil) ⟨ns, by omega, rfl, rfl⟩) (av_cons (ev_call D_state (by walk_at "rm") rfl (av_cons (ev_eq (d' := .list ((ns.reverse ++ [7]).map PyData.int)) (evf_ev (evf_cat (evf_ev (evf_rev (ev_var 0 (by rfl) (pv 0)) (ev_neg ev_int))) (ev_lst (ds := [.int 7]) (av_cons ev_int av_nil) (by walk_at "sz")) (by rw [List.length_reverse, List.length_map, sizeLine_eq]; show ns.length + 1 ≤ _; omega))) (by rw [er])) av_nil) ⟨ns.reverse ++ [7], by rw [List.length_append, List.length_reverse]; show ns.length + 1 ≤ 64; omega, rfl, rfl⟩) av_nil)) (by walk_at "sz"))) ?_
  generalize stN ns = s0 at hs0 hp0 ⊢
  generalize stN (ns.reverse ++ [7]) = s1 at hs1 hp1 ⊢
  refine svs_zone (i := 2) sc_law.nd rfl (Or.inl rfl) (show 2 < 11 by decide) rfl D0 (by walk_at "rm") rfl hT fun R hC => ?_
  subst hC
  refine zr_cons (zn_set (i := 3) (d := .list [tmD (numT 1)]) sc_law.nd rfl (by show 3 ∉ [2]; decide) (Or.inl rfl) (ze_fresh qz_ok (evf_lst (ws := [tmD (numT 1)]) (av_cons (ev_call D_num (by walk_at "rm") rfl (av_cons ev_int av_nil) ⟨1, rfl, rfl⟩) av_nil) (by walk_at "sz")) (tms_noL [numT 1]))) ?_
  refine zr_cons (zn_set (i := 4) (d := .list [.list [.int 1], .list [.int 1]]) sc_law.nd rfl (by show 4 ∉ [2]; decide) (Or.inl rfl) (ze_lst qz_ok (za_cons (ze_fresh qz_ok (evf_lst (ws := [.int 1]) (av_cons ev_int av_nil) (by walk_at "sz")) rfl) (za_cons (ze_fresh qz_ok (evf_lst (ws := [.int 1]) (av_cons ev_int av_nil) (by walk_at "sz")) rfl) za_nil)) (by rw [sizeLine_eq]; show 2 ≤ _; omega))) ?_
  refine qr_forR (j := 5) (n := M) (W1 (.list (ns.map PyData.int)) s0 s1) PassesOwn.never rfl (fun q hq => by rw [List.mem_singleton.mp hq]; show 2 ≠ 5; decide) (pg_name (i := 5) sc_law.nd rfl (Or.inl rfl)) (ev_eq (ev_callB2 "max" (av_cons ev_int (av_cons (ev_callB2 "min" (av_cons ev_int (av_cons (ev_callB2 "len" (av_cons (ev_var 0 (by rfl) (pv 0)) av_nil) (by walk_at "cd") rfl T.b_len (by decide +kernel)) av_nil)) (by walk_at "cd") rfl T.b_min (by decide +kernel)) av_nil)) (by walk_at "cd") rfl T.b_max (by decide +kernel)) (by rw [eM])) (by omega) rfl T.b_range ?w0 ?body ?rest
  case w0 =>
    refine ⟨[], [numT 1], none, none, none, none, none, none, ?_, rfl, (fun i x h => by cases h), Nat.le_refl _, by simp, by decide, fun t ht => ?_⟩
    · rfl
    · rw [List.mem_singleton.mp ht]; exact ⟨num_wf, numK _⟩
  case body =>
    rintro k G T0 hk ⟨as, tm, a5, a6, a7, a8, a9, a10, rfl, rfl, ok, hlen, hne, h20, hw⟩
    have hc9 : 0 ≤ cellN ns k % 9 ∧ cellN ns k % 9 < 9 := by omega
    obtain ⟨r, zs, ⟨st1, st2⟩, ok1, hz, wr, kr⟩ := stp_ex (cellN ns k / 9) hc9.1 hc9.2 ok (by omega) hne hw
    have hl1 : (as ++ zs).length ≤ k + 1 := by rw [List.length_append]; omega
    have hw1 : ∀ t ∈ tm, Wf t ∧ Kb (as ++ zs).length t := fun t ht => ⟨(hw t ht).1, fun a ha => by have := (hw t ht).2 a ha; rw [List.length_append]; omega⟩
    have f1 : F_step (as.map aD) [.list (tm.map tmD), .list (wL s0 as tm), .int (cellN ns k), stD s0] (.list [tmD r, .int (vl s0 (as ++ zs) r)]) ((as ++ zs).map aD) := ⟨as, zs, tm, cellN ns k, s0, r, ok, ok1, hne, h20, hw, hs0, rfl, rfl, rfl, rfl, st1⟩
    have f2 : F_step ((as ++ zs).map aD) [.list (tm.map tmD), .list (wL s1 as tm), .int (cellN ns k), stD s1] (.list [tmD r, .int (vl s1 (as ++ zs) r)]) ((as ++ zs).map aD) := ⟨as ++ zs, [], tm, cellN ns k, s1, r, ok1, by rw [List.append_nil]; exact ok1, hne, h20, hw1, hs1, rfl, by rw [List.append_nil], by rw [← wL_pre (zs := zs) hw], by rw [List.append_nil], st2⟩
    have ew0 : cutD (wL s0 as tm ++ [.int (vl s0 (as ++ zs) r)]) (some (-20)) none = wL s0 (as ++ zs) (lst20 (tm ++ [r])) := by rw [← wL_pre (zs := zs) hw, wL_cut]
    have ew1 : cutD (wL s1 as tm ++ [.int (vl s1 (as ++ zs) r)]) (some (-20)) none = wL s1 (as ++ zs) (lst20 (tm ++ [r])) := by rw [← wL_pre (zs := zs) hw, wL_cut]
    have hne1 : lst20 (tm ++ [r]) ≠ [] := fun z => by
      have := congrArg List.length z
      unfold lst20 at this
      rw [List.length_drop, List.length_append] at this
      simp only [List.length_cons, List.length_nil] at this
      omega
    have h201 : (lst20 (tm ++ [r])).length ≤ 20 := by unfold lst20; rw [List.length_drop]; omega
    have hw2 : ∀ t ∈ lst20 (tm ++ [r]), Wf t ∧ Kb (as ++ zs).length t := fun t ht => by
      rcases List.mem_append.mp (List.mem_of_mem_drop ht) with h | h
      · exact hw1 t h
      · rw [List.mem_singleton.mp h]; exact ⟨wr, kr⟩
    have hlw : ∀ st : Sta, (wL st as tm).length = tm.length := fun st => by unfold wL; rw [List.length_map, List.length_map]
    have etm := tm_cut tm r
    generalize lst20 (tm ++ [r]) = tm1 at ew0 ew1 hne1 h201 hw2 etm
    refine ⟨[some (.list (ns.map PyData.int)), some (.list ([s0, s1].map stD)), none, some (.list (tm1.map tmD)), some (.list [.list (wL s0 (as ++ zs) tm1), .list (wL s1 (as ++ zs) tm1)]), some (.int (0 + (k : Int))), some (.int (cellN ns k)), some (tmD r), some (.int (vl s0 (as ++ zs) r)), some (tmD r), some (.int (vl s1 (as ++ zs) r))], (as ++ zs).map aD, ⟨as ++ zs, tm1, _, _, _, _, _, _, rfl, rfl, ok1, hl1, hne1, h201, hw2⟩, ?_⟩
    refine zn_cons (zn_set (i := 6) (d := .int (cellN ns k)) sc_law.nd rfl (by show 6 ∉ [2]; decide) (Or.inl rfl) (ze_of qz_ok (ev_call D_law_cell (by walk_at "rm") rfl (av_cons (ev_var 0 (by rfl) (pv 0)) (av_cons (ev_eq (d' := .int (k : Int)) (ev_var 5 (by rfl) (pv 5)) (by rw [Int.zero_add])) av_nil)) ⟨ns, k, rfl, by omega, by omega, rfl⟩) rfl)) ?_
    refine zn_cons (zn_two (i := 7) (j := 8) (qe_call Dst (by walk_at "rm") rfl List.mem_cons_self (pv 2) (za_cons (ze_var (i := 3) (pv 3) rfl) (za_cons (ze_ixL (ds := [.list (wL s0 as tm), .list (wL s1 as tm)]) qz_ok (ze_var (i := 4) (pv 4) rfl) ev_int rfl) (za_cons (ze_var (i := 6) (pv 6) rfl) (za_cons (ze_ixL (ds := [stD s0, stD s1]) qz_ok (ze_var (i := 1) (pv 1) rfl) ev_int rfl) za_nil)))) f1) (pg_lst rfl (pgs_cons (pg_name (i := 7) sc_law.nd rfl (Or.inl rfl)) (pgs_cons (pg_name (i := 8) sc_law.nd rfl (Or.inl rfl)) pgs_nil))) (fun q hq => by rw [List.mem_singleton.mp hq]; show 2 ≠ 7; decide) (fun q hq => by rw [List.mem_singleton.mp hq]; show 2 ≠ 8; decide)) ?_
    refine zn_cons (zn_two (i := 9) (j := 10) (qe_call Dst (by walk_at "rm") rfl List.mem_cons_self (pv 2) (za_cons (ze_var (i := 3) (pv 3) rfl) (za_cons (ze_ixL (ds := [.list (wL s0 as tm), .list (wL s1 as tm)]) qz_ok (ze_var (i := 4) (pv 4) rfl) ev_int rfl) (za_cons (ze_var (i := 6) (pv 6) rfl) (za_cons (ze_ixL (ds := [stD s0, stD s1]) qz_ok (ze_var (i := 1) (pv 1) rfl) ev_int rfl) za_nil)))) f2) (pg_lst rfl (pgs_cons (pg_name (i := 9) sc_law.nd rfl (Or.inl rfl)) (pgs_cons (pg_name (i := 10) sc_law.nd rfl (Or.inl rfl)) pgs_nil))) (fun q hq => by rw [List.mem_singleton.mp hq]; show 2 ≠ 9; decide) (fun q hq => by rw [List.mem_singleton.mp hq]; show 2 ≠ 10; decide)) ?_
    refine zn_cons (zn_if0 qz_ok (qt_view List.mem_cons_self (tv_w (wv_or (k := false) (k' := false) (tv_cmp (ev_var 9 (by rfl) (pv 9)) (ev_var 7 (by rfl) (pv 7)) (od_ne (by walk_at "un") (tm_lay r) (tm_lay r) (tm_min r r) (by rw [tm_same]; rfl)) (nomark _)) (fun _ => wv_or (k := false) (k' := false) (tv_not (k := true) (tv_val (ev_call Dr (d := .bool true) (by walk_at "rm") rfl (av_cons (ev_var 2 (by rfl) (pv 2)) (av_cons (ev_var 7 (by rfl) (pv 7)) (av_cons (ev_ixL (ds := [stD s0, stD s1]) (ev_var 1 (by rfl) (pv 1)) ev_int rfl) (av_cons (ev_var 8 (by rfl) (pv 8)) av_nil)))) ⟨as ++ zs, r, s0, hs0, hp0, ok1, by omega, wr, kr, rfl, rfl⟩))) (fun _ => wv_or1 (tv_not (k := true) (tv_val (ev_call Dr (d := .bool true) (by walk_at "rm") rfl (av_cons (ev_var 2 (by rfl) (pv 2)) (av_cons (ev_var 7 (by rfl) (pv 7)) (av_cons (ev_ixL (ds := [stD s0, stD s1]) (ev_var 1 (by rfl) (pv 1)) ev_int rfl) (av_cons (ev_var 10 (by rfl) (pv 10)) av_nil)))) ⟨as ++ zs, r, s1, hs1, hp1, ok1, by omega, wr, kr, rfl, rfl⟩))))))))) ?_
    refine zn_cons (zn_if0 qz_ok (qt_view List.mem_cons_self (tv_not (k := true) (tv_val (ev_call Dr (d := .bool true) (by walk_at "rm") rfl (av_cons (ev_var 2 (by rfl) (pv 2)) (av_cons (ev_var 7 (by rfl) (pv 7)) (av_cons (ev_ixL (ds := [stD s0, stD s1]) (ev_var 1 (by rfl) (pv 1)) ev_int rfl) (av_cons (ev_var 8 (by rfl) (pv 8)) av_nil)))) ⟨as ++ zs, r, s0, hs0, hp0, ok1, by omega, wr, kr, rfl, rfl⟩))))) ?_
    refine zn_cons (zn_set (i := 3) (d := .list (tm1.map tmD)) sc_law.nd rfl (by show 3 ∉ [2]; decide) (Or.inl rfl) (etm ▸ ze_fresh qz_ok (evf_slL (evf_ev (evf_cat (ev_var 3 (by rfl) (pv 3)) (ev_lst (ds := [tmD r]) (av_cons (ev_var 7 (by rfl) (pv 7)) av_nil) (by walk_at "sz")) (by rw [List.length_map, sizeLine_eq]; show tm.length + 1 ≤ _; omega))) (ov_some (ev_neg ev_int)) ov_none) (by rw [etm]; exact tms_noL _))) ?_
    refine zn_cons (zn_set (i := 4) (d := .list [.list (wL s0 (as ++ zs) tm1), .list (wL s1 (as ++ zs) tm1)]) sc_law.nd rfl (by show 4 ∉ [2]; decide) (Or.inl rfl) (ze_lst qz_ok (za_cons (ew0 ▸ ze_fresh qz_ok (evf_slL (evf_ev (evf_cat (ev_ixL (ds := [.list (wL s0 as tm), .list (wL s1 as tm)]) (ev_var 4 (by rfl) (pv 4)) ev_int rfl) (ev_lst (ds := [.int (vl s0 (as ++ zs) r)]) (av_cons (ev_var 8 (by rfl) (pv 8)) av_nil) (by walk_at "sz")) (by rw [hlw, sizeLine_eq]; show tm.length + 1 ≤ _; omega))) (ov_some (ev_neg ev_int)) ov_none) (by rw [ew0]; exact wL_noL _ _ _)) (za_cons (ew1 ▸ ze_fresh qz_ok (evf_slL (evf_ev (evf_cat (ev_ixL (ds := [.list (wL s0 as tm), .list (wL s1 as tm)]) (ev_var 4 (by rfl) (pv 4)) ev_int rfl) (ev_lst (ds := [.int (vl s1 (as ++ zs) r)]) (av_cons (ev_var 10 (by rfl) (pv 10)) av_nil) (by walk_at "sz")) (by rw [hlw, sizeLine_eq]; show tm.length + 1 ≤ _; omega))) (ov_some (ev_neg ev_int)) ov_none) (by rw [ew1]; exact wL_noL _ _ _)) za_nil)) (by rw [sizeLine_eq]; show 2 ≤ _; omega))) ?_
    exact zn_nil
  case rest =>
    intro G T0 _
    exact zr_weak (zr_of qz_ok (svs_ret (sv_ret (ev_eq ev_bl rfl))) rfl)
end
section
variable {P : Program} {w : World} {K : PySem.W.Frag} {mg : Str → Option Value} {base : Heap}
def MthIn (K : PySem.W.Frag) (C : Addr) (m qual : Str) (st : Stmt) : Prop := ∃ f fd, Fun K m qual st f fd ∧ Meth K C m f
theorem mthIn_mk {K : PySem.W.Frag} {C f : Addr} {m qual : Str} {st : Stmt} {oc : Value} {od an : Option Addr} {osl : Array (Option Value)} {kV doc pm cdv ct : Value} (a : PySem.W.findIn K (.ref C) m = some (some (.ref f))) (i : PySem.W.isFn K (.ref f) = true) (l : K.lookup f = some ⟨oc, od, .func (PySem.W.fnOf m qual (defArgs st) (defBody st) (defScope st) .none kV doc pm an cdv ct), osl⟩) (c : PySem.W.codeIn K cdv qual = true) (k : PySem.W.keepIn K (.ref f) = true) : MthIn K C m qual st := ⟨f, _, fun_mk l c k, a, i, k⟩
def IniIn (K : PySem.W.Frag) (C : Addr) (qual : Str) (st : Stmt) : Prop := ∃ f fd, Fun K "__init__" qual st f fd ∧ Mk K C f
theorem iniIn_mk {K : PySem.W.Frag} {C f : Addr} {qual : Str} {st : Stmt} {oc : Value} {od an : Option Addr} {osl : Array (Option Value)} {kV doc pm cdv ct : Value} (a : PySem.W.findIn K (.ref C) "__init__" = some (some (.ref f))) (i : PySem.W.isFn K (.ref f) = true) (l : K.lookup f = some ⟨oc, od, .func (PySem.W.fnOf "__init__" qual (defArgs st) (defBody st) (defScope st) .none kV doc pm an cdv ct), osl⟩) (c : PySem.W.codeIn K cdv qual = true) (k : PySem.W.keepIn K (.ref f) = true) (m1 : PySem.W.makesIn K C = true) (m2 : PySem.W.keepIn K (.ref C) = true) : IniIn K C qual st := ⟨f, _, fun_mk l c k, m1, a, i, m2⟩
theorem all_mk {l : PySem.W.OpenLaw} {w : World} {K : PySem.W.Frag} {h : Heap} {mg : Str → Option Value} {fa C : Addr} (X : K.In h) (G : h.Ns mainGlobals mg) (hfa : mg "law" = some (.ref fa))
    (f1 : ∃ f fd, FnIn K "number_term" s_number_term f fd)
    (f2 : ∃ f fd, FnIn K "is_number" s_is_number f fd)
    (f3 : ∃ f fd, FnIn K "term_of" s_term_of f fd)
    (f4 : ∃ f fd, FnIn K "plus" s_plus f fd)
    (f5 : ∃ f fd, FnIn K "so_many" s_so_many f fd)
    (f6 : ∃ f fd, FnIn K "minus" s_minus f fd)
    (f7 : ∃ f fd, FnIn K "added_up" s_added_up f fd)
    (f8 : ∃ f fd, FnIn K "atom_worth" s_atom_worth f fd)
    (f9 : ∃ f fd, FnIn K "_law_whole" s_law_whole f fd)
    (f10 : ∃ f fd, FnIn K "_law_cell" s_law_cell f fd)
    (f11 : ∃ f fd, FnIn K "_law_word" s_law_word f fd)
    (f12 : ∃ f fd, FnIn K "_law_state" s_law_state f fd)
    (f13 : ∃ f fd, FnIn K "_law_step" s_law_step f fd)
    (f14 : ∃ f fd, FnIn K "_law_right" s_law_right f fd)
    (f15 : ∃ f fd, FnIn K "law" s_law f fd)
    (z1 : PySem.W.nsIn K mainGlobals "len" = some none)
    (z2 : PySem.W.nsIn K mainGlobals "isinstance" = some none)
    (z3 : PySem.W.nsIn K mainGlobals "int" = some none)
    (z4 : PySem.W.nsIn K mainGlobals "bool" = some none)
    (z5 : PySem.W.nsIn K mainGlobals "list" = some none)
    (z6 : PySem.W.nsIn K mainGlobals "tuple" = some none)
    (z7 : PySem.W.nsIn K mainGlobals "range" = some none)
    (z8 : PySem.W.nsIn K mainGlobals "sorted" = some none)
    (z9 : PySem.W.nsIn K mainGlobals "dict" = some none)
    (z10 : PySem.W.nsIn K mainGlobals "min" = some none)
    (z11 : PySem.W.nsIn K mainGlobals "max" = some none)
    (z12 : PySem.W.nsIn K mainGlobals "sum" = some none)
    (p0 : PySem.W.nsIn K mainGlobals "Table" = some (some (.ref C))) (p1 : PySem.W.plainGet K C Str.empty = true) (p2 : PySem.W.hasDictIn K C = true) (p3 : PySem.W.plainOver K C = true) (p4 : PySem.W.findIn K (.ref C) "__setattr__" = some (some (.builtin "object.__setattr__"))) (p5 : PySem.W.findIn K (.ref C) "atoms" = some none) (p6 : PySem.W.findIn K (.ref C) "numbers" = some none)
    (i0 : IniIn K C "Table.__init__" s_Table_init)
    (m1 : MthIn K C "many" "Table.many" s_Table_many)
    (m2 : MthIn K C "atom_term" "Table.atom_term" s_Table_atom_term)
    (m3 : MthIn K C "atom_of_two" "Table.atom_of_two" s_Table_atom_of_two)
    (m4 : MthIn K C "box" "Table.box" s_Table_box)
    (m5 : MthIn K C "truth" "Table.truth" s_Table_truth)
    (m6 : MthIn K C "cell" "Table.cell" s_Table_cell)
    (m7 : MthIn K C "both" "Table.both" s_Table_both)
    (m8 : MthIn K C "unlike" "Table.unlike" s_Table_unlike)
    (m9 : MthIn K C "product" "Table.product" s_Table_product)
    (m10 : MthIn K C "worth" "Table.worth" s_Table_worth)
    (g1 : GDat K mg "NOUGHT" (tmD (0, []))) (g2 : GDat K mg "ALL_BITS" (tmD (4095, []))) :
    ∃ fd : FuncData, (∀ (s : Shared) (v : Value), BindsTo s fd ⟨[v], []⟩ [("script", v)]) ∧ ∀ base : Heap, K.In base → base.Ns mainGlobals mg → FnOk l.prog w K mg base CX0 20 fa fd ["script"] (spD K F_law) := by
  have T : Txt mg := ⟨PySem.W.mg_none_of X G z1, PySem.W.mg_none_of X G z2, PySem.W.mg_none_of X G z3, PySem.W.mg_none_of X G z4, PySem.W.mg_none_of X G z5, PySem.W.mg_none_of X G z6, PySem.W.mg_none_of X G z7, PySem.W.mg_none_of X G z8, PySem.W.mg_none_of X G z9, PySem.W.mg_none_of X G z10, PySem.W.mg_none_of X G z11, PySem.W.mg_none_of X G z12⟩
  have CT : ClsT K C := ⟨⟨p1, p2, p3, p4⟩, p5, p6⟩
  have hT := PySem.W.mg_of X G p0
  obtain ⟨ai, bi, FI, MI⟩ := i0
  obtain ⟨am1, bm1, FM1, MM1⟩ := m1
  obtain ⟨am2, bm2, FM2, MM2⟩ := m2
  obtain ⟨am3, bm3, FM3, MM3⟩ := m3
  obtain ⟨am4, bm4, FM4, MM4⟩ := m4
  obtain ⟨am5, bm5, FM5, MM5⟩ := m5
  obtain ⟨am6, bm6, FM6, MM6⟩ := m6
  obtain ⟨am7, bm7, FM7, MM7⟩ := m7
  obtain ⟨am8, bm8, FM8, MM8⟩ := m8
  obtain ⟨am9, bm9, FM9, MM9⟩ := m9
  obtain ⟨am10, bm10, FM10, MM10⟩ := m10
  obtain ⟨a1, b1, F1⟩ := f1
  obtain ⟨a2, b2, F2⟩ := f2
  obtain ⟨a3, b3, F3⟩ := f3
  obtain ⟨a4, b4, F4⟩ := f4
  obtain ⟨a5, b5, F5⟩ := f5
  obtain ⟨a6, b6, F6⟩ := f6
  obtain ⟨a7, b7, F7⟩ := f7
  obtain ⟨a8, b8, F8⟩ := f8
  obtain ⟨a9, b9, F9⟩ := f9
  obtain ⟨a10, b10, F10⟩ := f10
  obtain ⟨a11, b11, F11⟩ := f11
  obtain ⟨a12, b12, F12⟩ := f12
  obtain ⟨a13, b13, F13⟩ := f13
  obtain ⟨a14, b14, F14⟩ := f14
  obtain ⟨a15, b15, F15⟩ := f15
  have e := hfa.symm.trans (PySem.W.mg_of X G F15.ns)
  cases e
  have bs : ∀ (s : Shared) (v : Value), BindsTo s b15 ⟨[v], []⟩ [("script", v)] := by
    obtain ⟨oc, od, kV, doc, pm, an, cdv, ct, osl, rfl, _⟩ := F15.fn.ex
    exact fun s v => .of_eq rfl
  refine ⟨b15, bs, fun base _ _ => ?_⟩
  have D1 : DFn l.prog w K mg base 1 "number_term" F_num := d_number_term F1.fn (PySem.W.mg_of X G F1.ns)
  have D2 : DFn l.prog w K mg base 1 "is_number" F_isn := d_is_number T F2.fn (PySem.W.mg_of X G F2.ns)
  have D3 : DFn l.prog w K mg base 1 "term_of" F_tof := d_term_of T F3.fn (PySem.W.mg_of X G F3.ns)
  have D4 := d_plus T D3 F4.fn (PySem.W.mg_of X G F4.ns)
  have D5 := d_so_many T D3 F5.fn (PySem.W.mg_of X G F5.ns)
  have D6 := d_minus D4 D5 F6.fn (PySem.W.mg_of X G F6.ns)
  have D7 : DFn l.prog w K mg base 1 "added_up" F_add := d_added_up T F7.fn (PySem.W.mg_of X G F7.ns)
  have D8 := d_atom_worth D7 F8.fn (PySem.W.mg_of X G F8.ns)
  have M0 := m_worth T CT D7 D8 FM10 MM10
  have D15 : DFn l.prog w K mg base 1 "_law_whole" F_wholeI := d_law_whole T F9.fn (PySem.W.mg_of X G F9.ns)
  have D16 : DFn l.prog w K mg base 1 "_law_cell" F_cell := d_law_cell T F10.fn (PySem.W.mg_of X G F10.ns)
  have D17 : DFn l.prog w K mg base 1 "_law_word" F_word := d_law_word F11.fn (PySem.W.mg_of X G F11.ns)
  have D18 := d_law_state T D16 D17 F12.fn (PySem.W.mg_of X G F12.ns)
  have D19 := d_law_right T CT M0 D15 F14.fn (PySem.W.mg_of X G F14.ns)
  have I0 : IFn l.prog w K mg base 1 C := i_init CT FI MI
  have M2 : TFn l.prog w K mg base 1 C "atom_term" F_at := t_atom_term T CT FM2 MM2
  have M3 := t_atom_of_two T CT M2 FM3 MM3
  have M4 := t_box CT M2 FM4 MM4
  have M5 := t_truth CT M2 FM5 MM5
  have M6 := t_cell CT M2 FM6 MM6
  have M7 := g_both CT D2 D1 g1 g2 M3 FM7 MM7
  have M8 := g_unlike CT D2 D1 g1 M3 FM8 MM8
  have M9 := g_product CT D2 D5 M3 FM9 MM9
  have N1 := q_law_step T CT M4 M5 M6 M7 M8 M9 D4 D6 D1 D5 F13.fn (PySem.W.mg_of X G F13.ns)
  exact ok_law T CT hT I0 N1 D1 D16 D18 D19 F15.fn
end
end My
open PySem PySem.W PyProof.Rows
set_option maxRecDepth 100000 in
set_option maxHeartbeats 0 in
theorem PySem.Challenge.cw_likewise_k21_whole_worths_holds : PySem.Challenge.rw_likewise_k21_whole_worths.Holds := by
  w_on; o_law; k_head; (case hw => w_witness2)
  k_fill
  refine L2.walk_D (l := PySem.Challenge.rw_likewise_k21_whole_worths) rfl rfl (fun w h Y => PySem.W.kIn_of Y) ?F
  case F =>
    intro w mg fa h KX G hmg
    refine' My.all_mk KX G hmg ?f1 ?f2 ?f3 ?f4 ?f5 ?f6 ?f7 ?f8 ?f9 ?f10 ?f11 ?f12 ?f13 ?f14 ?f15 ?z1 ?z2 ?z3 ?z4 ?z5 ?z6 ?z7 ?z8 ?z9 ?z10 ?z11 ?z12 ?p0 ?p1 ?p2 ?p3 ?p4 ?p5 ?p6 ?i0 ?m1 ?m2 ?m3 ?m4 ?m5 ?m6 ?m7 ?m8 ?m9 ?m10 ?g1 ?g2
    (case f1 => refine' L2.fnIn_mk ?a ?l ?c ?k; (case a => k_is); (case l => k_is); (case c => k_is); (case k => k_is))
    (case f2 => refine' L2.fnIn_mk ?a ?l ?c ?k; (case a => k_is); (case l => k_is); (case c => k_is); (case k => k_is))
    (case f3 => refine' L2.fnIn_mk ?a ?l ?c ?k; (case a => k_is); (case l => k_is); (case c => k_is); (case k => k_is))
    (case f4 => refine' L2.fnIn_mk ?a ?l ?c ?k; (case a => k_is); (case l => k_is); (case c => k_is); (case k => k_is))
    (case f5 => refine' L2.fnIn_mk ?a ?l ?c ?k; (case a => k_is); (case l => k_is); (case c => k_is); (case k => k_is))
    (case f6 => refine' L2.fnIn_mk ?a ?l ?c ?k; (case a => k_is); (case l => k_is); (case c => k_is); (case k => k_is))
    (case f7 => refine' L2.fnIn_mk ?a ?l ?c ?k; (case a => k_is); (case l => k_is); (case c => k_is); (case k => k_is))
    (case f8 => refine' L2.fnIn_mk ?a ?l ?c ?k; (case a => k_is); (case l => k_is); (case c => k_is); (case k => k_is))
    (case f9 => refine' L2.fnIn_mk ?a ?l ?c ?k; (case a => k_is); (case l => k_is); (case c => k_is); (case k => k_is))
    (case f10 => refine' L2.fnIn_mk ?a ?l ?c ?k; (case a => k_is); (case l => k_is); (case c => k_is); (case k => k_is))
    (case f11 => refine' L2.fnIn_mk ?a ?l ?c ?k; (case a => k_is); (case l => k_is); (case c => k_is); (case k => k_is))
    (case f12 => refine' L2.fnIn_mk ?a ?l ?c ?k; (case a => k_is); (case l => k_is); (case c => k_is); (case k => k_is))
    (case f13 => refine' L2.fnIn_mk ?a ?l ?c ?k; (case a => k_is); (case l => k_is); (case c => k_is); (case k => k_is))
    (case f14 => refine' L2.fnIn_mk ?a ?l ?c ?k; (case a => k_is); (case l => k_is); (case c => k_is); (case k => k_is))
    (case f15 => refine' L2.fnIn_mk ?a ?l ?c ?k; (case a => k_is); (case l => k_is); (case c => k_is); (case k => k_is))
    (case z1 => k_is)
    (case z2 => k_is)
    (case z3 => k_is)
    (case z4 => k_is)
    (case z5 => k_is)
    (case z6 => k_is)
    (case z7 => k_is)
    (case z8 => k_is)
    (case z9 => k_is)
    (case z10 => k_is)
    (case z11 => k_is)
    (case z12 => k_is)
    (case p0 => k_is)
    (case p1 => k_is)
    (case p2 => k_is)
    (case p3 => k_is)
    (case p4 => k_is)
    (case p5 => k_is)
    (case p6 => k_is)
    (case i0 => refine' My.iniIn_mk ?a ?i ?l ?c ?k ?mk1 ?mk2; (case a => k_is); (case i => k_is); (case l => k_is); (case c => k_is); (case k => k_is); (case mk1 => k_is); (case mk2 => k_is))
    (case m1 => refine' My.mthIn_mk ?a ?i ?l ?c ?k; (case a => k_is); (case i => k_is); (case l => k_is); (case c => k_is); (case k => k_is))
    (case m2 => refine' My.mthIn_mk ?a ?i ?l ?c ?k; (case a => k_is); (case i => k_is); (case l => k_is); (case c => k_is); (case k => k_is))
    (case m3 => refine' My.mthIn_mk ?a ?i ?l ?c ?k; (case a => k_is); (case i => k_is); (case l => k_is); (case c => k_is); (case k => k_is))
    (case m4 => refine' My.mthIn_mk ?a ?i ?l ?c ?k; (case a => k_is); (case i => k_is); (case l => k_is); (case c => k_is); (case k => k_is))
    (case m5 => refine' My.mthIn_mk ?a ?i ?l ?c ?k; (case a => k_is); (case i => k_is); (case l => k_is); (case c => k_is); (case k => k_is))
    (case m6 => refine' My.mthIn_mk ?a ?i ?l ?c ?k; (case a => k_is); (case i => k_is); (case l => k_is); (case c => k_is); (case k => k_is))
    (case m7 => refine' My.mthIn_mk ?a ?i ?l ?c ?k; (case a => k_is); (case i => k_is); (case l => k_is); (case c => k_is); (case k => k_is))
    (case m8 => refine' My.mthIn_mk ?a ?i ?l ?c ?k; (case a => k_is); (case i => k_is); (case l => k_is); (case c => k_is); (case k => k_is))
    (case m9 => refine' My.mthIn_mk ?a ?i ?l ?c ?k; (case a => k_is); (case i => k_is); (case l => k_is); (case c => k_is); (case k => k_is))
    (case m10 => refine' My.mthIn_mk ?a ?i ?l ?c ?k; (case a => k_is); (case i => k_is); (case l => k_is); (case c => k_is); (case k => k_is))
    (case g1 => refine' L2.gterm_mk KX G ?a ?l ?v ?l2 ?v2; (case a => k_is); (case l => k_is); (case v => rfl); (case l2 => k_is); (case v2 => rfl))
    (case g2 => refine' L2.gterm_mk KX G ?a ?l ?v ?l2 ?v2; (case a => k_is); (case l => k_is); (case v => rfl); (case l2 => k_is); (case v2 => rfl))

import PyProof.Rows.All
import Wide.All
import OpenK.AllK
import Wide.FinOn
import Lean
import PyProof.EqAt
import PyProof.EqKinds
import PyProof.TupleCall
import KE.KSortTup
import KE.KItemsList
import PyProof.Draws
import PyProof.EnumFor
import PyProof.EnumStmt
import PySem.Challenge.RW_likewise_k09_texts_told
set_option Elab.async false
set_option linter.all false
set_option maxRecDepth 100000
namespace L2
open PySem PySem.Spec PyProof.Rows
abbrev Key := Sum Int Str
def keyIs : Key → Value → Bool
  | .inl k, v => Value.isInt k v
  | .inr x, v => Value.isStrOf x v
def keyH (w : World) : Key → Int
  | .inl k => hashInt k
  | .inr x => hashStr w x
theorem keyIs_shape : ∀ {k : Key} {v : Value}, keyIs k v = true → (∃ i t, k = Sum.inl i ∧ v = Value.int i t) ∨ (∃ x t, k = Sum.inr x ∧ v = Value.str x t)
  | .inl i, v, h => by
    obtain ⟨t, e⟩ := Value.isInt_shape (k := i) (v := v) h
    exact .inl ⟨i, t, rfl, e⟩
  | .inr x, v, h => by
    obtain ⟨t, e⟩ := Value.isStrOf_shape (x := x) (v := v) h
    exact .inr ⟨x, t, rfl, e⟩
theorem keyIs_int (i : Int) (t : Tok) : keyIs (.inl i) (.int i t) = true := by simp [keyIs, Value.isInt]
theorem keyIs_str (x : Str) (t : Tok) : keyIs (.inr x) (.str x t) = true := by simp [keyIs, Value.isStrOf]
theorem key_ll (a b : Int) : decide ((Sum.inl a : Key) = Sum.inl b) = (a == b) := by
  by_cases e : a = b
  · subst e; simp
  · have h : ¬ (Sum.inl a : Key) = Sum.inl b := fun q => e (Sum.inl.inj q)
    rw [decide_eq_false h]
    exact (beq_eq_false_iff_ne.mpr e).symm
theorem key_rr (a b : Str) : decide ((Sum.inr a : Key) = Sum.inr b) = decide (a = b) := by
  by_cases e : a = b
  · subst e; simp
  · have h : ¬ (Sum.inr a : Key) = Sum.inr b := fun q => e (Sum.inr.inj q)
    rw [decide_eq_false h, decide_eq_false e]
theorem key_lr (a : Int) (b : Str) : decide ((Sum.inl a : Key) = Sum.inr b) = false := decide_eq_false (fun q => nomatch q)
theorem key_rl (a : Str) (b : Int) : decide ((Sum.inr a : Key) = Sum.inl b) = false := decide_eq_false (fun q => nomatch q)
def mixKind (prog : Program) (w : World) : PySem.KeyKind prog w Key where
  is := keyIs
  hash := keyH w
  inj := fun v a b ha hb => by
    rcases keyIs_shape ha with ⟨i, t, rfl, rfl⟩ | ⟨x, t, rfl, rfl⟩
    · rcases keyIs_shape hb with ⟨j, u, rfl, e⟩ | ⟨y, u, rfl, e⟩
      · injection e with e1 _; rw [e1]
      · exact nomatch e
    · rcases keyIs_shape hb with ⟨j, u, rfl, e⟩ | ⟨y, u, rfl, e⟩
      · exact nomatch e
      · injection e with e1 _; rw [e1]
  byValue := fun k v h => by
    rcases keyIs_shape h with ⟨i, t, rfl, rfl⟩ | ⟨x, t, rfl, rfl⟩ <;> rfl
  pyHash := fun hv h => by
    rcases keyIs_shape hv with ⟨i, t, rfl, rfl⟩ | ⟨x, t, rfl, rfl⟩
    · exact wpAny_pyHash_int h
    · exact wpAny_pyHash_str h
  eqBool := fun hu hv h => by
    rcases keyIs_shape hu with ⟨i, t, rfl, rfl⟩ | ⟨x, t, rfl, rfl⟩
    · rcases keyIs_shape hv with ⟨j, u, rfl, rfl⟩ | ⟨y, u, rfl, rfl⟩
      · rw [key_ll] at h; exact wpAny_eqBool_int h
      · rw [key_lr] at h; exact SeqAt.EqAt.int_str i t y u _ _ _ _ h
    · rcases keyIs_shape hv with ⟨j, u, rfl, rfl⟩ | ⟨y, u, rfl, rfl⟩
      · rw [key_rl] at h; exact SeqAt.EqAt.str_int x t j u _ _ _ _ h
      · rw [key_rr] at h; exact wpAny_eqBool_str h
  «strs» := fun k x t v h => by
    rcases keyIs_shape h with ⟨i, u, rfl, e⟩ | ⟨y, u, rfl, e⟩
    · exact nomatch e
    · injection e with e1 _
      subst e1
      cases v <;> rfl
theorem mixKind_int (prog : Program) (w : World) (i : Int) (t : Tok) : (mixKind prog w).is (.inl i) (.int i t) = true := keyIs_int i t
theorem mixKind_str (prog : Program) (w : World) (x : Str) (t : Tok) : (mixKind prog w).is (.inr x) (.str x t) = true := keyIs_str x t
end L2
namespace L2
open PySem PySem.Spec PyProof.Rows
inductive V where
  | non | bl (b : Bool) | int (i : Int) | str (x : Str) | byt (b : Array UInt8) | flt (b : UInt64) | ref (a : Addr) | ty (n : String)
  deriving DecidableEq
def RelV : V → Value → Prop
  | .non, u => u = Value.none
  | .bl b, u => u = Value.bool b
  | .int i, u => ∃ t, u = Value.int i t
  | .str x, u => ∃ t, u = Value.str x t
  | .byt b, u => ∃ t, u = Value.bytes b t
  | .flt b, u => ∃ t, u = Value.float b t
  | .ref a, u => u = Value.ref a
  | .ty n, u => u = Value.type n
abbrev Vals : List V → List Value → Prop := Paired RelV
theorem Vals.length {xs : List V} {us : List Value} (r : Vals xs us) : xs.length = us.length := Paired.length r
theorem Vals.get : ∀ {xs : List V} {us : List Value} {i : Nat} {x : V}, Vals xs us → xs[i]? = some x → ∃ u, us[i]? = some u ∧ RelV x u
  | _, _, _, _, .nil, e => by simp at e
  | _, _, 0, _, .cons r _, e => by simp at e; subst e; exact ⟨_, rfl, r⟩
  | _, _, i + 1, x, .cons _ t, e => by
    obtain ⟨u, h1, h2⟩ := Vals.get (i := i) (x := x) t (by simpa using e)
    exact ⟨u, by simpa using h1, h2⟩
theorem Vals.set {x : V} {u : Value} (r : RelV x u) : ∀ {xs : List V} {us : List Value} (i : Nat), Vals xs us → Vals (xs.set i x) (us.set i u)
  | _, _, _, .nil => .nil
  | _, _, 0, .cons _ t => .cons r t
  | _, _, i + 1, .cons q t => .cons q (Vals.set r i t)
theorem Vals.append : ∀ {xs ys : List V} {us ws : List Value}, Vals xs us → Vals ys ws → Vals (xs ++ ys) (us ++ ws)
  | _, _, _, _, .nil, s => s
  | _, _, _, _, .cons r t, s => .cons r (Vals.append t s)
theorem Vals.take : ∀ {xs : List V} {us : List Value} (n : Nat), Vals xs us → Vals (xs.take n) (us.take n)
  | _, _, 0, _ => .nil
  | _, _, _ + 1, .nil => .nil
  | _, _, n + 1, .cons r t => .cons r (Vals.take n t)
theorem Vals.drop : ∀ {xs : List V} {us : List Value} (n : Nat), Vals xs us → Vals (xs.drop n) (us.drop n)
  | _, _, 0, r => r
  | _, _, _ + 1, .nil => .nil
  | _, _, n + 1, .cons _ t => Vals.drop n t
def RelO : Option V → Option Value → Prop
  | some v, some u => RelV v u
  | none, none => True
  | _, _ => False
def KV {κ : Type} : List (κ × V) → List (κ × Value) → Prop := Paired fun (p : κ × V) (q : κ × Value) => p.1 = q.1 ∧ RelV p.2 q.2
def kV : Key → V
  | .inl i => .int i
  | .inr x => .str x
inductive HO where
  | lst (xs : List V)
  | tup (xs : List V)
  | dK (kvs : List (Key × V)) | dT (kvs : List (List Key × V))
  | set (S : Int → Bool) (n : Nat)
  | ins (C dx : Addr) (fs : List (Str × V))
  | own (x : Addr)
  | xd (fs : List (Str × V))
  | met (f x : Addr)
  | rng (lo hi : Int)
  | frz (o : Obj) (u : HO)
  | tbl (ps : Array Value)
  | ext (φ : Heap → Prop)
abbrev Hp := Addr → Option HO
def upd (H : Hp) (a : Addr) (o : HO) : Hp := fun b => if b = a then some o else H b
theorem upd_same {H : Hp} {a : Addr} {o : HO} : upd H a o a = some o := by unfold upd; rw [if_pos rfl]
theorem upd_ne {H : Hp} {a b : Addr} {o : HO} (h : b ≠ a) : upd H a o b = H b := by unfold upd; rw [if_neg h]
theorem upd_upd {H : Hp} {a : Addr} {o u : HO} : upd (upd H a o) a u = upd H a u := by
  funext b; unfold upd; split <;> rfl
theorem ne_of_none {H : Hp} {a b : Addr} {o : HO} (h : H a = some o) (h' : H b = none) : a ≠ b := by
  intro e; subst e; rw [h] at h'; cases h'
section
variable (P : Program) (w : World)
def ObjOk (H : Hp) (h : Heap) (a : Addr) : HO → Prop
  | .lst xs => xs.length ≤ sizeLine ∧ ∃ (its : List Value) (n : Nat), Vals xs its ∧ h.get? a = some { cls := .type "list", data := .seq its.toArray n }
  | .tup xs => xs.length ≤ sizeLine ∧ ∃ its : List Value, Vals xs its ∧ IsTup h a its.toArray
  | .dK kvs => kvs.length ≤ sizeLine ∧ (a == sysModules) = false ∧ ∃ vs, KV kvs vs ∧ h.DictOf (mixKind P w) a vs
  | .dT kvs => kvs.length ≤ sizeLine ∧ (a == sysModules) = false ∧ ∃ xs : List (List Key × Addr × Value),
      Paired (fun (p : List Key × V) (q : List Key × Addr × Value) => p.1 = q.1 ∧ H q.2.1 = some (.tup (p.1.map kV)) ∧ RelV p.2 q.2.2) kvs xs ∧
      ∃ o es ep, h.get? a = some o ∧ o.ExactDict ∧ o.data = .dict es ep ∧ es.toList = xs.map (entryOfKey (tupleKind (mixKind P w))) ∧ (xs.map (·.1)).Nodup
  | .set S n => h.SetOf (intKind P w) a S n
  | .ins C dx fs => H dx = some (.own a) ∧ fs.length ≤ 1000 ∧ dx ≠ a ∧ h.get? a = some (PySem.W.instObj C dx) ∧
      ∃ mA, h.Ns1 dx mA ∧ (∀ f, RelO (fs.lookup f) (mA f)) ∧ PySem.Within mA (fs.map (·.1))
  | .own _ => ∃ o, h.get? a = some o
  | .xd fs => ∃ mA, h.Ns1 a mA ∧ ∀ f, RelO (fs.lookup f) (mA f)
  | .rng lo hi => ∃ t u v, h.get? a = some { cls := .type "range", data := .fields #[.int lo t, .int hi u, .int 1 v] }
  | .frz o u => h.get? a = some o ∧ ObjOk H h a u
  | .tbl ps => h.get? a = some { cls := .none, data := .fields ps }
  | .met f x => h.get? a = some (PySem.W.methodObj (.ref f) (.ref x))
  | .ext φ => φ h ∧ (∃ o, h.get? a = some o) ∧ ∀ h1 h2 : Heap, φ h1 → (∀ o, h1.get? a = some o → h2.get? a = some o) → φ h2
def HOk (H : Hp) (h : Heap) : Prop := ∀ a o, H a = some o → ObjOk P w H h a o
end
section
variable {P : Program} {w : World} {H H' : Hp} {h h' : Heap} {a : Addr} {o : HO}
theorem ObjOk.lt (x : ObjOk P w H h a o) : a < h.objs.size := by
  cases o with
  | lst xs => obtain ⟨_, _, _, _, e⟩ := x; exact Heap.lt_size e
  | tup xs => obtain ⟨_, _, _, p⟩ := x; exact p.lt
  | dK kvs => obtain ⟨_, _, _, _, o, _, _, e, _⟩ := x; exact Heap.lt_size e
  | dT kvs => obtain ⟨_, _, _, _, o, _, _, e, _⟩ := x; exact Heap.lt_size e
  | set S n => obtain ⟨o, _, _, _, e, _⟩ := x; exact Heap.lt_size e
  | ins C dx fs => obtain ⟨_, _, _, e, _⟩ := x; exact Heap.lt_size e
  | own y => obtain ⟨_, e⟩ := x; exact Heap.lt_size e
  | xd fs => obtain ⟨_, ⟨_, _, _, e, _⟩, _⟩ := x; exact Heap.lt_size e
  | rng lo hi => obtain ⟨_, _, _, e⟩ := x; exact Heap.lt_size e
  | frz ob u => obtain ⟨e, _⟩ := x; exact Heap.lt_size e
  | tbl ps => exact Heap.lt_size (show h.get? a = some _ from x)
  | met f y => exact Heap.lt_size (show h.get? a = some _ from x)
  | ext φ => obtain ⟨_, ⟨_, e⟩, _⟩ := x; exact Heap.lt_size e
theorem Paired.mapP {α β : Type} {F G : α → β → Prop} : ∀ {l₁ : List α} {l₂ : List β}, Paired F l₁ l₂ → (∀ a b, F a b → G a b) → Paired G l₁ l₂
  | _, _, .nil, _ => .nil
  | _, _, .cons r t, f => .cons (f _ _ r) (Paired.mapP t f)
theorem ObjOk.stay (x : ObjOk P w H h a o) (k : ∀ b u, (b = a ∨ H b = some (.own a)) → h.get? b = some u → h'.get? b = some u)
    (ho : ∀ b, H b = some (.own a) → H' b = some (.own a)) (ht : ∀ b xs, H b = some (.tup xs) → H' b = some (.tup xs)) : ObjOk P w H' h' a o := by
  induction o with
  | lst xs => obtain ⟨z, its, n, r, e⟩ := x; exact ⟨z, its, n, r, k _ _ (.inl rfl) e⟩
  | tup xs => obtain ⟨z, its, r, ob, e, c⟩ := x; exact ⟨z, its, r, ob, k _ _ (.inl rfl) e, c⟩
  | dK kvs => obtain ⟨z, y, vs, r, ob, es, ep, e, c⟩ := x; exact ⟨z, y, vs, r, ob, es, ep, k _ _ (.inl rfl) e, c⟩
  | dT kvs =>
    obtain ⟨z, y, xs, r, ob, es, ep, e, c⟩ := x
    exact ⟨z, y, xs, Paired.mapP r fun p q z => ⟨z.1, ht _ _ z.2.1, z.2.2⟩, ob, es, ep, k _ _ (.inl rfl) e, c⟩
  | set S n => obtain ⟨ob, es, ep, t, e, c⟩ := x; exact ⟨ob, es, ep, t, k _ _ (.inl rfl) e, c⟩
  | ins C dx fs =>
    obtain ⟨d, z, ne, e, mA, ⟨od, es, ep, e2, c⟩, r⟩ := x
    exact ⟨ho _ d, z, ne, k _ _ (.inl rfl) e, mA, ⟨od, es, ep, k _ _ (.inr d) e2, c⟩, r⟩
  | own y => obtain ⟨ob, e⟩ := x; exact ⟨ob, k _ _ (.inl rfl) e⟩
  | xd fs => obtain ⟨mA, ⟨od, es, ep, e, c⟩, r⟩ := x; exact ⟨mA, ⟨od, es, ep, k _ _ (.inl rfl) e, c⟩, r⟩
  | rng lo hi => obtain ⟨t, u, v, e⟩ := x; exact ⟨t, u, v, k _ _ (.inl rfl) e⟩
  | frz ob u ih => obtain ⟨e, q⟩ := x; exact ⟨k _ _ (.inl rfl) e, ih q⟩
  | tbl ps =>
    have e : h.get? a = some { cls := .none, data := .fields ps } := x
    show h'.get? a = some { cls := .none, data := .fields ps }
    exact k a _ (.inl rfl) e
  | met f y =>
    have e : h.get? a = some (PySem.W.methodObj (.ref f) (.ref y)) := x
    show h'.get? a = some (PySem.W.methodObj (.ref f) (.ref y))
    exact k a _ (.inl rfl) e
  | ext φ => obtain ⟨p, ⟨o, e⟩, st⟩ := x; exact ⟨st _ _ p fun o q => k _ _ (.inl rfl) q, ⟨o, k _ _ (.inl rfl) e⟩, st⟩
theorem HOk.lt (x : HOk P w H h) (e : H a = some o) : a < h.objs.size := (x a o e).lt
theorem HOk.fresh (x : HOk P w H h) (e : h.objs.size ≤ a) : H a = none := by
  cases q : H a with
  | none => rfl
  | some u => exact absurd (Nat.lt_of_lt_of_le (x.lt q) e) (Nat.lt_irrefl _)
theorem HOk.kept (x : HOk P w H h) (k : ∀ b u, h.get? b = some u → h'.get? b = some u) : HOk P w H h' := fun a o e =>
  (x a o e).stay (fun b u _ q => k b u q) (fun _ q => q) fun _ _ q => q
theorem HOk.laid (x : HOk P w H h) (k : ∀ b u, h.get? b = some u → h'.get? b = some u) (hp : h.objs.size ≤ a) (new : ObjOk P w (upd H a o) h' a o) : HOk P w (upd H a o) h' := fun b u e => by
  have hn := x.fresh hp
  by_cases hb : b = a
  · subst hb; rw [upd_same] at e; cases e; exact new
  · rw [upd_ne hb] at e
    exact (x b u e).stay (fun c v _ q => k c v q) (fun c q => by rw [upd_ne (ne_of_none q hn)]; exact q) fun c xs q => by rw [upd_ne (ne_of_none q hn)]; exact q
end
def Rd (H : Hp) (a : Addr) (u : HO) : Prop := H a = some u ∨ ∃ o, H a = some (.frz o u)
theorem Rd.of {H : Hp} {a : Addr} {u : HO} (h : H a = some u) : Rd H a u := .inl h
theorem Rd.ok {P : Program} {w : World} {H : Hp} {h : Heap} {a : Addr} {u : HO} (r : Rd H a u) (x : HOk P w H h) : ObjOk P w H h a u := by
  rcases r with r | ⟨o, r⟩
  · exact x a u r
  · obtain ⟨_, q⟩ := x a _ r
    exact q
def Mut : Option HO → Prop
  | some (.lst _) => True
  | some (.dK _) => True
  | some (.dT _) => True
  | some (.set _ _) => True
  | some (.ins _ _ _) => True
  | some (.ext _) => True
  | _ => False
section
variable {P : Program} {w : World} {H : Hp} {h h' : Heap} {x e : Addr} {o' : HO}
theorem HOk.write (ok : HOk P w H h) (mu : Mut (H x)) (he : e = x ∨ H e = some (.own x)) (k : ∀ b u, b ≠ e → h.get? b = some u → h'.get? b = some u) (heo : ∃ u, h'.get? e = some u)
    (new : ObjOk P w (upd H x o') h' x o') : HOk P w (upd H x o') h' := fun b u q => by
  have nown : ∀ c y, H c = some (.own y) → c ≠ x := fun c y r z => by subst z; rw [r] at mu; exact mu
  have ntup : ∀ c xs, H c = some (.tup xs) → c ≠ x := fun c xs r z => by subst z; rw [r] at mu; exact mu
  by_cases hb : b = x
  · subst hb; rw [upd_same] at q; cases q; exact new
  · rw [upd_ne hb] at q
    by_cases hbe : b = e
    · have q' : H b = some (.own x) := by
        rcases he with z | z
        · exact absurd (hbe.trans z) hb
        · rw [hbe]; exact z
      rw [q] at q'; cases q'
      obtain ⟨v, hv⟩ := heo
      exact ⟨v, by rw [hbe]; exact hv⟩
    · refine (ok b u q).stay (fun c v hc r => k c v ?_ r) (fun c r => by rw [upd_ne (nown c b r)]; exact r) fun c xs r => by rw [upd_ne (ntup c xs r)]; exact r
      rcases hc with rfl | hc
      · exact hbe
      · rintro rfl
        rcases he with z | z
        · exact nown c b hc z
        · rw [hc] at z; cases z; exact hb rfl
end
structure Un (fs ex : List Addr) (H H' : Hp) (h h' : Heap) : Prop where
  keep : ∀ b o, h.get? b = some o → H b = none → b ∉ fs → b ∉ ex → h'.get? b = some o
  slot : ∀ b o, h.get? b = some o → H b = none → b ∈ fs → b ∉ ex → ∃ sl, h'.get? b = some { o with slots := sl }
  free : ∀ b o, h.get? b = some o → H b = none → b ∉ ex → H' b = none
  there : ∀ b o, h.get? b = some o → b ∉ ex → ∃ o', h'.get? b = some o'
  tups : ∀ b xs, H b = some (.tup xs) → H' b = some (.tup xs)
  frzs : ∀ b o u, H b = some (.frz o u) → H' b = some (.frz o u)
  tbls : ∀ b ps, H b = some (.tbl ps) → ∃ more, H' b = some (.tbl (ps ++ more))
section
variable {fs fs' ex ex' : List Addr} {H H1 H2 : Hp} {h h1 h2 h' : Heap} {a x e : Addr} {o : HO}
theorem Un.any (u : Un fs ex H H1 h h1) {b : Addr} {ob : Obj} (q : h.get? b = some ob) (n : H b = none) (hx : b ∉ ex) : ∃ sl, h1.get? b = some { ob with slots := sl } := by
  by_cases hb : b ∈ fs
  · exact u.slot b ob q n hb hx
  · exact ⟨ob.slots, u.keep b ob q n hb hx⟩
theorem Un.trans (a : Un fs ex H H1 h h1) (b : Un fs ex H1 H2 h1 h2) : Un fs ex H H2 h h2 where
  keep := fun c ob q n hc hx => b.keep c ob (a.keep c ob q n hc hx) (a.free c ob q n hx) hc hx
  slot := fun c ob q n hc hx => by
    obtain ⟨sl, e1⟩ := a.slot c ob q n hc hx
    obtain ⟨sl', e2⟩ := b.slot c _ e1 (a.free c ob q n hx) hc hx
    exact ⟨sl', e2⟩
  free := fun c ob q n hx => by
    obtain ⟨o', e1⟩ := a.there c ob q hx
    exact b.free c o' e1 (a.free c ob q n hx) hx
  there := fun c ob q hx => by
    obtain ⟨o', e1⟩ := a.there c ob q hx
    exact b.there c o' e1 hx
  tups := fun c xs q => b.tups c xs (a.tups c xs q)
  frzs := fun c ob xs q => b.frzs c ob xs (a.frzs c ob xs q)
  tbls := fun c ps q => by
    obtain ⟨m1, e1⟩ := a.tbls c ps q
    obtain ⟨m2, e2⟩ := b.tbls c _ e1
    exact ⟨m1 ++ m2, by rw [e2, Array.append_assoc]⟩
theorem Un.kept (k : ∀ b u, h.get? b = some u → h'.get? b = some u) : Un fs ex H H h h' :=
  ⟨fun b ob q _ _ _ => k b ob q, fun b ob q _ _ _ => ⟨ob.slots, k b ob q⟩, fun _ _ _ n _ => n, fun b ob q _ => ⟨ob, k b ob q⟩, fun _ _ q => q, fun _ _ _ q => q, fun _ ps q => ⟨#[], by rw [q]; simp⟩⟩
theorem Un.refl : Un fs ex H H h h := Un.kept fun _ _ q => q
theorem Un.laid (k : ∀ b u, h.get? b = some u → h'.get? b = some u) (hp : h.objs.size ≤ a) (hn : H a = none) : Un fs ex H (upd H a o) h h' where
  keep := fun b u q _ _ _ => k b u q
  slot := fun b u q _ _ _ => ⟨u.slots, k b u q⟩
  free := fun b u q n _ => by rw [upd_ne (Nat.ne_of_lt (Nat.lt_of_lt_of_le (Heap.lt_size q) hp))]; exact n
  there := fun b u q _ => ⟨u, k b u q⟩
  tups := fun b xs q => by rw [upd_ne (ne_of_none q hn)]; exact q
  frzs := fun b u xs q => by rw [upd_ne (ne_of_none q hn)]; exact q
  tbls := fun b ps q => ⟨#[], by rw [upd_ne (ne_of_none q hn), q]; simp⟩
theorem Un.write (mu : Mut (H x)) (he : e = x ∨ H e = some (.own x)) (k : ∀ b u, b ≠ e → h.get? b = some u → h'.get? b = some u) (heo : ∃ u, h'.get? e = some u) : Un fs ex H (upd H x o) h h' := by
  have hx : ∀ b, H b = none → b ≠ x := fun b n z => by subst z; rw [n] at mu; exact mu
  have hb : ∀ b, H b = none → b ≠ e := fun b n z => by
    subst z
    rcases he with r | r
    · exact hx b n r
    · rw [n] at r; cases r
  have hm : ∀ b u, H b = some u → ¬ Mut (some u) → b ≠ x := fun b u q nm z => by subst z; rw [q] at mu; exact nm mu
  refine ⟨fun b u q n _ _ => k b u (hb b n) q, fun b u q n _ _ => ⟨u.slots, k b u (hb b n) q⟩, fun b u q n _ => by rw [upd_ne (hx b n)]; exact n, fun b u q _ => ?_,
    fun b xs q => by rw [upd_ne (hm b _ q fun z => z)]; exact q, fun b u xs q => by rw [upd_ne (hm b _ q fun z => z)]; exact q, fun b ps q => ⟨#[], by rw [upd_ne (hm b _ q fun z => z), q]; simp⟩⟩
  by_cases hbe : b = e
  · subst hbe; exact heo
  · exact ⟨u, k b u hbe q⟩
theorem Un.mono (u : Un fs ex H H1 h h1) (hs : ∀ b ∈ fs, b ∈ fs') (hx : ∀ b ∈ ex, b ∈ ex') : Un fs' ex' H H1 h h1 :=
  ⟨fun b ob q n hb he => u.keep b ob q n (fun z => hb (hs b z)) fun z => he (hx b z), fun _ _ q n _ he => u.any q n fun z => he (hx _ z), fun b ob q n he => u.free b ob q n fun z => he (hx b z), fun b ob q he => u.there b ob q fun z => he (hx b z), u.tups, u.frzs, u.tbls⟩
end
def trk (h : Heap) (H : Hp) : List Addr := (List.range h.objs.size).filter fun a => (H a).isSome
def hidT (h : Heap) (H : Hp) : Heap := PySem.W.hideAll h (trk h H)
theorem hidT_size (h : Heap) (H : Hp) : (hidT h H).objs.size = h.objs.size := PySem.W.hideAll_size _ _
theorem hidT_get {h : Heap} {H : Hp} {b : Addr} {o : Obj} (e : h.get? b = some o) (n : H b = none) : (hidT h H).get? b = some o :=
  PySem.W.hideAll_get _ e fun hm => by
    have q : (H b).isSome = true := (List.mem_filter.mp hm).2
    rw [n] at q; simp at q
theorem of_hidT {h : Heap} {H : Hp} {b : Addr} {o : Obj} (e : (hidT h H).get? b = some o) : h.get? b = some o ∧ H b = none := by
  have e' : h.get? b = some o := PySem.W.of_hideAll (trk h H) e
  refine ⟨e', ?_⟩
  cases q : H b with
  | none => rfl
  | some x =>
    have hm : b ∈ trk h H := List.mem_filter.mpr ⟨List.mem_range.mpr (Heap.lt_size e'), by simp [q]⟩
    have z : (hidT h H).get? b = none := PySem.W.hideAll_none (trk h H) hm
    rw [z] at e; cases e
def allNews (g h : Heap) (L : Addr) : List (Addr × Obj) := (List.range h.objs.size).filterMap fun a => if a = L ∨ (g.get? a).isSome = true then none else (h.get? a).map fun o => (a, o)
def rest (g h : Heap) (L d : Addr) : List (Addr × Obj) := (allNews g h L).filter fun p => decide (p.1 ≠ d)
end L2
namespace L2
open PySem PySem.Spec PyProof.Rows
structure Mod (K : PySem.W.Frag) (mg : Str → Option Value) (base : Heap) : Prop where
  kin : K.In base
  glob : base.Ns mainGlobals mg
  blt : ∃ mb, base.Ns builtinsNs mb ∧ ∀ x : Str, x ≠ "__name__" → mb x = bootBuiltins x
  nolimit : base.NoLimit
structure Cx where
  prog : Program
  w : World
  K : PySem.W.Frag
  mg : Str → Option Value
  base : Heap
  A : Around
  N : List Str
  s₀ : Shared
  H₀ : Hp
  env : Env
  outer : List Env
  stack : List Env
  ex : List Addr
  fn : Str → Bool
  calm : Bool
  pn : List (Addr × Obj)
  xe : Value → Shared → Prop
def frs (l : List Env) : List Addr := l.filterMap (·.frame)
abbrev Cx.fs (X : Cx) : List Addr := frs X.outer
def Vis (sc : Scope) (x : Str) : Prop := sc.names.lookup x = some .local ∨ sc.names.lookup x = some .cell ∨ sc.names.lookup x = some .free
def Loc (sc : Scope) (x : Str) : Prop := sc.names.lookup x = some .local ∨ sc.names.lookup x = some .cell
def Look (env : Env) (h : Heap) (m : Str → Option Value) (x : Str) (u : Value) : Prop :=
  (env.kindOf x = some .local ∧ m x = some u) ∨ ((env.kindOf x = some .cell ∨ env.kindOf x = some .free) ∧ ∃ c, env.cells.lookup x = some c ∧ h.IsCell c (some u))
structure Cx.Ok (X : Cx) : Prop where
  mod : Mod X.K X.mg X.base
  kind : X.env.scope.kind = .function
  glob : X.env.globals = mainGlobals
  blt : X.env.builtins = builtinsNs
  above : X.s₀.heap.objs.size ≤ X.env.locals
  inj : ∀ x y c, X.env.cells.lookup x = some c → X.env.cells.lookup y = some c → x = y
  has : ∀ x, (X.env.kindOf x = some .cell ∨ X.env.kindOf x = some .free) → ∃ c, X.env.cells.lookup x = some c
  cab : ∀ x c, X.fn x = true → X.env.cells.lookup x = some c → X.s₀.heap.objs.size ≤ c
  hd : X.calm = true → X.A.handled = none
  frames : X.A.frames = some X.stack
  stk : X.stack = X.outer ∨ (X.stack = X.env :: X.outer ∧ X.env.frame = some X.env.locals)
  exf : ∀ b ∈ X.ex, b ≠ X.env.locals ∧ ∀ x c, X.env.cells.lookup x = some c → c ≠ b
  bs : ∀ b o, X.base.get? b = some o → X.s₀.heap.get? b = some o ∧ X.H₀ b = none
  bsz : X.base.objs.size ≤ X.s₀.heap.objs.size
  noex : ∀ b o, X.base.get? b = some o → b ∉ X.ex
  exfs : ∀ b ∈ X.ex, b ∉ X.fs
  funs : X.s₀.heap.FunFrames X.base X.outer
  frf : ∀ b ∈ X.fs, X.H₀ b = none
structure Inv (X : Cx) (pins : List (Addr × Obj)) (σ : List (Option V)) (H : Hp) (s : Shared) : Prop where
  ok : X.Ok
  os : s.os = X.s₀.os
  bare : AllBare s.gens
  base : Un X.fs X.ex X.H₀ H X.s₀.heap s.heap
  loc : ∃ m, s.heap.Ns X.env.locals m ∧ ∀ (i : Nat) (x : Str) (v : V), X.N[i]? = some x → σ[i]? = some (some v) → Vis X.env.scope x → ∃ u, RelV v u ∧ Look X.env s.heap m x u
  cell : ∀ x c, X.env.cells.lookup x = some c → ∃ v, s.heap.IsCell c v
  free : H X.env.locals = none
  freeC : ∀ x c, X.env.cells.lookup x = some c → H c = none
  pin : ∀ p ∈ X.pn ++ pins, s.heap.get? p.1 = some p.2 ∧ H p.1 = none ∧ p.1 ≠ X.env.locals ∧ p.1 ∉ X.fs ∧ ∀ v, p.2.data ≠ .cell v
  hok : HOk X.prog X.w H s.heap
  len : σ.length = X.N.length
section
variable {X : Cx} {pins : List (Addr × Obj)} {σ : List (Option V)} {H H' : Hp} {s : Shared} {h' : Heap}
theorem Cx.Ok.nofr (ok : X.Ok) {b : Addr} {o : Obj} (e : X.base.get? b = some o) : b ∉ X.fs := fun hb => by
  have := (ok.funs.mem hb).1
  rw [e] at this; cases this
theorem Inv.bs (I : Inv X pins σ H s) : ∀ b o, X.base.get? b = some o → s.heap.get? b = some o ∧ H b = none := fun b o e =>
  ⟨I.base.keep b o (I.ok.bs b o e).1 (I.ok.bs b o e).2 (I.ok.nofr e) (I.ok.noex b o e), I.base.free b o (I.ok.bs b o e).1 (I.ok.bs b o e).2 (I.ok.noex b o e)⟩
theorem Inv.bk (I : Inv X pins σ H s) : ∀ b o, X.base.get? b = some o → s.heap.get? b = some o := fun b o e => (I.bs b o e).1
theorem Inv.mod (I : Inv X pins σ H s) : Mod X.K X.mg X.base := I.ok.mod
theorem Inv.kIn (I : Inv X pins σ H s) : X.K.In s.heap := I.ok.mod.kin.keeps I.bk
theorem Inv.nolimit (I : Inv X pins σ H s) : s.heap.NoLimit := I.ok.mod.nolimit.keeps I.bk
theorem Inv.lt (I : Inv X pins σ H s) : X.env.locals < s.heap.objs.size := let ⟨_, hn, _⟩ := I.loc; hn.lt
theorem Inv.sz (I : Inv X pins σ H s) : X.s₀.heap.objs.size ≤ s.heap.objs.size := Nat.le_trans I.ok.above (Nat.le_of_lt I.lt)
theorem Inv.nofs (I : Inv X pins σ H s) {a : Addr} (h : s.heap.objs.size ≤ a) : a ∉ X.fs := fun hb => by
  obtain ⟨_, o, ho, _⟩ := I.ok.funs.mem hb
  exact absurd (Nat.lt_of_lt_of_le (Heap.lt_size ho) (Nat.le_trans I.sz h)) (Nat.lt_irrefl _)
theorem Inv.cne (I : Inv X pins σ H s) : ∀ x c, X.env.cells.lookup x = some c → c ≠ X.env.locals := fun x c e z => by
  obtain ⟨v, o, ho, hd⟩ := I.cell x c e
  obtain ⟨m, ⟨o', es, ep, ho', hd', _⟩, _⟩ := I.loc
  rw [z, ho'] at ho; cases ho; rw [hd'] at hd; cases hd
theorem Inv.funs (I : Inv X pins σ H s) : s.heap.FunFrames X.base X.outer := by
  have all : ∀ (l : List Env), (∀ b ∈ frs l, b ∈ X.fs) → X.s₀.heap.FunFrames X.base l → s.heap.FunFrames X.base l := by
    intro l
    induction l with
    | nil => intro _ _; trivial
    | cons env r ih =>
      intro hs hl
      obtain ⟨hk, ⟨L, o, hf, hn, ho, hd⟩, hr⟩ := hl
      have hL : L ∈ X.fs := hs L (by unfold frs; rw [List.filterMap_cons, hf]; exact List.mem_cons_self)
      obtain ⟨sl, e⟩ := I.base.slot L o ho (I.ok.frf L hL) hL fun z => I.ok.exfs L z hL
      exact ⟨hk, ⟨L, _, hf, hn, e, hd⟩, ih (fun b hb => hs b (by unfold frs; rw [List.filterMap_cons, hf]; exact List.mem_cons_of_mem _ hb)) hr⟩
  exact all X.outer (fun _ hb => hb) I.ok.funs
theorem Inv.stack (I : Inv X pins σ H s) : s.heap.FunFrames X.base X.stack := by
  rcases I.ok.stk with e | ⟨e, hf⟩
  · rw [e]; exact I.funs
  · rw [e]
    obtain ⟨m, hn, _⟩ := I.loc
    refine .cons (by rw [I.ok.kind]; decide) hf hn ?_ I.funs
    exact Heap.get?_none_of_le (Nat.le_trans I.ok.bsz I.ok.above)
theorem Inv.stkSub (I : Inv X pins σ H s) : ∀ b ∈ frs X.stack, b ∈ X.env.locals :: X.fs := fun b hb => by
  rcases I.ok.stk with e | ⟨e, hf⟩
  · rw [e] at hb; exact List.mem_cons_of_mem _ hb
  · rw [e] at hb
    unfold frs at hb
    rw [List.filterMap_cons, hf] at hb
    exact hb
theorem Inv.stkFree (I : Inv X pins σ H s) : ∀ b ∈ frs X.stack, H b = none := fun b hb => by
  rcases List.mem_cons.mp (I.stkSub b hb) with e | hb
  · rw [e]; exact I.free
  · obtain ⟨_, o, ho, _⟩ := I.ok.funs.mem hb
    exact I.base.free b o ho (I.ok.frf b hb) fun z => I.ok.exfs b z hb
theorem Inv.step {g' : Array GenState} {t' : Nat} {d' : Drawn} {ch : List Addr} (I : Inv X pins σ H s)
    (hch : ∀ b ∈ ch, (b ∈ X.ex ∨ X.s₀.heap.objs.size ≤ b) ∧ b ≠ X.env.locals ∧ (∀ x c, X.env.cells.lookup x = some c → c ≠ b) ∧ ∀ p ∈ X.pn ++ pins, p.1 ≠ b)
    (keep : ∀ b o, b ≠ X.env.locals → b ∉ X.fs → b ∉ ch → s.heap.get? b = some o → H b = none → h'.get? b = some o)
    (slot : ∀ b o, b ≠ X.env.locals → b ∈ X.fs → b ∉ ch → s.heap.get? b = some o → H b = none → ∃ sl, h'.get? b = some { o with slots := sl }) (free : ∀ b o, b ∉ ch → s.heap.get? b = some o → H b = none → H' b = none)
    (there : ∀ b o, b ∉ ch → s.heap.get? b = some o → ∃ o', h'.get? b = some o')
    (tups : ∀ b xs, H b = some (.tup xs) → H' b = some (.tup xs)) (frzs : ∀ b o u, H b = some (.frz o u) → H' b = some (.frz o u)) (tbls : ∀ b ps, H b = some (.tbl ps) → ∃ more, H' b = some (.tbl (ps ++ more)))
    (ns : ∀ m, s.heap.Ns X.env.locals m → h'.Ns X.env.locals m) (hok : HOk X.prog X.w H' h') (hg : AllBare g') :
    Inv X pins σ H' { s with heap := h', gens := g', drawn := d', toks := t' } := by
  have neL : ∀ b o, X.s₀.heap.get? b = some o → b ≠ X.env.locals := fun b o e => Nat.ne_of_lt (Nat.lt_of_lt_of_le (Heap.lt_size e) I.ok.above)
  have neC : ∀ b o, X.s₀.heap.get? b = some o → b ∉ X.ex → b ∉ ch := fun b o e hx hb => by
    rcases (hch b hb).1 with z | z
    · exact hx z
    · exact absurd (Nat.lt_of_lt_of_le (Heap.lt_size e) z) (Nat.lt_irrefl _)
  have cellK : ∀ x c, X.env.cells.lookup x = some c → ∀ v, s.heap.IsCell c v → h'.IsCell c v := fun x c e v ⟨o, ho, hd⟩ => by
    have nch : c ∉ ch := fun z => (hch c z).2.2.1 x c e rfl
    by_cases hc : c ∈ X.fs
    · obtain ⟨sl, q⟩ := slot c o (I.cne x c e) hc nch ho (I.freeC x c e)
      exact ⟨_, q, hd⟩
    · exact ⟨o, keep c o (I.cne x c e) hc nch ho (I.freeC x c e), hd⟩
  refine ⟨I.ok, I.os, hg, ⟨fun b o e n hb hx => ?_, fun b o e n hb hx => ?_, fun b o e n hx => ?_, fun b o e hx => ?_, fun b xs e => tups b xs (I.base.tups b xs e), fun b o xs e => frzs b o xs (I.base.frzs b o xs e), fun b ps e => ?_⟩, ?_, fun x c e => ?_, ?_, fun x c e => ?_, fun p hp => ?_, hok, I.len⟩
  · exact keep b o (neL b o e) hb (neC b o e hx) (I.base.keep b o e n hb hx) (I.base.free b o e n hx)
  · obtain ⟨sl, e1⟩ := I.base.slot b o e n hb hx
    obtain ⟨sl', e2⟩ := slot b _ (neL b o e) hb (neC b o e hx) e1 (I.base.free b o e n hx)
    exact ⟨sl', e2⟩
  · obtain ⟨o', e1⟩ := I.base.there b o e hx
    exact free b o' (neC b o e hx) e1 (I.base.free b o e n hx)
  · obtain ⟨o', e1⟩ := I.base.there b o e hx
    exact there b o' (neC b o e hx) e1
  · obtain ⟨m1, e1⟩ := I.base.tbls b ps e
    obtain ⟨m2, e2⟩ := tbls b _ e1
    exact ⟨m1 ++ m2, by rw [e2, Array.append_assoc]⟩
  · obtain ⟨m, hn, hl⟩ := I.loc
    refine ⟨m, ns m hn, fun i x v e1 e2 e3 => ?_⟩
    obtain ⟨u, r, l⟩ := hl i x v e1 e2 e3
    refine ⟨u, r, ?_⟩
    rcases l with l | ⟨k, c, e, z⟩
    · exact .inl l
    · exact .inr ⟨k, c, e, cellK x c e _ z⟩
  · obtain ⟨v, z⟩ := I.cell x c e
    exact ⟨v, cellK x c e v z⟩
  · obtain ⟨m, ⟨o, _, _, ho, _⟩, _⟩ := I.loc
    exact free _ o (fun z => (hch _ z).2.1 rfl) ho I.free
  · obtain ⟨v, o, ho, hd⟩ := I.cell x c e
    exact free c o (fun z => (hch c z).2.2.1 x c e rfl) ho (I.freeC x c e)
  · obtain ⟨e, n, ne, nf, d⟩ := I.pin p hp
    have nch : p.1 ∉ ch := fun z => (hch p.1 z).2.2.2 p hp rfl
    exact ⟨keep p.1 p.2 ne nf nch e n, free p.1 p.2 nch e n, ne, nf, d⟩
theorem Inv.un {t' : Nat} (I : Inv X pins σ H s) (u : Un X.fs [] H H' s.heap h') (hok : HOk X.prog X.w H' h') : Inv X pins σ H' { s with heap := h', toks := t' } := by
  obtain ⟨m, ⟨o, es, ep, ho, r⟩, _⟩ := id I.loc
  obtain ⟨sl, hL⟩ := u.any ho I.free (by simp)
  exact I.step (g' := s.gens) (d' := s.drawn) (ch := []) (fun _ z => nomatch z) (fun b o _ hb _ e n => u.keep b o e n hb (by simp)) (fun b o _ hb _ e n => u.slot b o e n hb (by simp)) (fun b o _ e n => u.free b o e n (by simp)) (fun b o _ e => u.there b o e (by simp)) u.tups u.frzs u.tbls (fun m' hm => by
    obtain ⟨o', es', ep', ho', r'⟩ := hm
    rw [ho] at ho'; cases ho'
    exact ⟨_, es', ep', hL, r'⟩) hok I.bare
theorem Inv.call {g' : Array GenState} {t' : Nat} {d' : Drawn} {ch : List Addr} (I : Inv X pins σ H s) (u : Un (frs X.stack) ch H H' s.heap h') (hok : HOk X.prog X.w H' h') (hg : AllBare g')
    (hch : ∀ b ∈ ch, (b ∈ X.ex ∨ X.s₀.heap.objs.size ≤ b) ∧ b ≠ X.env.locals ∧ (∀ x c, X.env.cells.lookup x = some c → c ≠ b) ∧ ∀ p ∈ X.pn ++ pins, p.1 ≠ b) :
    Inv X pins σ H' { s with heap := h', gens := g', drawn := d', toks := t' } := by
  obtain ⟨m, ⟨o, es, ep, ho, r⟩, _⟩ := id I.loc
  obtain ⟨sl, hL⟩ := u.any ho I.free fun z => (hch _ z).2.1 rfl
  exact I.step (ch := ch) hch (fun b o hL hb hc e n => u.keep b o e n (fun z => (List.mem_cons.mp (I.stkSub b z)).elim hL hb) hc) (fun b o _ _ hc e n => u.any e n hc) (fun b o hc e n => u.free b o e n hc) (fun b o hc e => u.there b o e hc) u.tups u.frzs u.tbls (fun m' hm => by
    obtain ⟨o', es', ep', ho', r'⟩ := hm
    rw [ho] at ho'; cases ho'
    exact ⟨_, es', ep', hL, r'⟩) hok hg
theorem Inv.turned {t' : Nat} {it : Addr} (I : Inv X pins σ H s) (k : ∀ b o, b ≠ it → s.heap.get? b = some o → h'.get? b = some o) (hn : H it = none) (hL : it ≠ X.env.locals)
    (h1 : it ∈ X.ex ∨ X.s₀.heap.objs.size ≤ it) (h2 : ∀ x c, X.env.cells.lookup x = some c → c ≠ it) (h3 : ∀ p ∈ X.pn ++ pins, p.1 ≠ it) : Inv X pins σ H { s with heap := h', toks := t' } := by
  have nit : ∀ b u, H b = some u → b ≠ it := fun b u e z => by rw [z, hn] at e; cases e
  refine I.step (g' := s.gens) (d' := s.drawn) (ch := [it]) (fun b hb => ?_) (fun b o _ _ hc e _ => k b o (fun z => hc (by simp [z])) e) (fun b o _ _ hc e _ => ⟨o.slots, k b o (fun z => hc (by simp [z])) e⟩) (fun _ _ _ _ n => n)
    (fun b o hc e => ⟨o, k b o (fun z => hc (by simp [z])) e⟩) (fun _ _ e => e) (fun _ _ _ e => e) (fun b ps e => ⟨#[], by rw [e]; simp⟩) (fun m hm => ?_) (fun b u e => ?_) I.bare
  · have e : b = it := by simpa using hb
    subst e
    exact ⟨h1, hL, h2, h3⟩
  · obtain ⟨o, es, ep, ho, r⟩ := hm
    exact ⟨o, es, ep, k _ o (Ne.symm hL) ho, r⟩
  · refine (I.hok b u e).stay (fun c v hc q => k c v ?_ q) (fun _ q => q) fun _ _ q => q
    rcases hc with z | z
    · rw [z]; exact nit b u e
    · exact nit c _ z
theorem Inv.tok (I : Inv X pins σ H s) (t : Nat) : Inv X pins σ H { s with toks := t } := I.un (h' := s.heap) (t' := t) Un.refl I.hok
theorem Inv.kept {t' : Nat} (I : Inv X pins σ H s) (k : ∀ b u, s.heap.get? b = some u → h'.get? b = some u) : Inv X pins σ H { s with heap := h', toks := t' } := I.un (Un.kept k) (I.hok.kept k)
theorem Inv.laid {a : Addr} {o : HO} {t' : Nat} (I : Inv X pins σ H s) (k : ∀ b u, s.heap.get? b = some u → h'.get? b = some u) (hp : s.heap.objs.size ≤ a) (new : ObjOk X.prog X.w (upd H a o) h' a o) :
    Inv X pins σ (upd H a o) { s with heap := h', toks := t' } := I.un (Un.laid k hp (I.hok.fresh hp)) (I.hok.laid k hp new)
theorem Inv.write {x e : Addr} {o : HO} {t' : Nat} (I : Inv X pins σ H s) (mu : Mut (H x)) (he : e = x ∨ H e = some (.own x)) (k : ∀ b u, b ≠ e → s.heap.get? b = some u → h'.get? b = some u) (heo : ∃ u, h'.get? e = some u)
    (new : ObjOk X.prog X.w (upd H x o) h' x o) : Inv X pins σ (upd H x o) { s with heap := h', toks := t' } := I.un (Un.write mu he k heo) (I.hok.write mu he k heo new)
theorem Inv.weak {σ' : List (Option V)} (I : Inv X pins σ H s) (hl : σ'.length = σ.length) (w : ∀ (i : Nat) v, σ'[i]? = some (some v) → σ[i]? = some (some v)) : Inv X pins σ' H s :=
  ⟨I.ok, I.os, I.bare, I.base, let ⟨m, hn, hl'⟩ := I.loc; ⟨m, hn, fun i x v e1 e2 e3 => hl' i x v e1 (w i v e2) e3⟩, I.cell, I.free, I.freeC, I.pin, I.hok, hl.trans I.len⟩
theorem Inv.pins_of {pins' : List (Addr × Obj)} (I : Inv X pins σ H s) (h : ∀ p ∈ pins', s.heap.get? p.1 = some p.2 ∧ H p.1 = none ∧ p.1 ≠ X.env.locals ∧ p.1 ∉ X.fs ∧ ∀ v, p.2.data ≠ .cell v) : Inv X pins' σ H s :=
  ⟨I.ok, I.os, I.bare, I.base, I.loc, I.cell, I.free, I.freeC, fun p hp => (List.mem_append.mp hp).elim (fun z => I.pin p (List.mem_append_left _ z)) (h p), I.hok, I.len⟩
theorem nodup_ix {N : List Str} (hN : N.Nodup) {i j : Nat} {x : Str} (a : N[i]? = some x) (b : N[j]? = some x) : i = j := by
  obtain ⟨h1, e1⟩ := List.getElem?_eq_some_iff.mp a
  obtain ⟨h2, e2⟩ := List.getElem?_eq_some_iff.mp b
  exact (List.getElem_inj hN).mp (e1.trans e2.symm)
theorem store_ok2 {M : Model} {A : Around} {E : Value → Shared → Prop} {i : Nat} {x : Str} {v : V} {u : Value} {Q : Unit → Shared → Prop} (I : Inv X pins σ H s) (hN : X.N.Nodup) (hi : X.N[i]? = some x) (hx : Loc X.env.scope x) (r : RelV v u)
    (h : ∀ s', Inv X pins (σ.set i (some v)) H s' → (∃ a, Heap.SameBut a s.heap s'.heap ∧ (a = X.env.locals ∨ X.env.cells.lookup x = some a)) → Q () s') (hf : X.fn x = true ∨ X.env.scope.names.lookup x = some .local := by first | exact .inl rfl | exact .inr rfl | assumption) : wpAny M A (storeName X.env x u) Q E s := by
  obtain ⟨m, hn, hl⟩ := id I.loc
  have hcls : (X.env.scope.kind == .class || (X.env.scope.kind == .module && X.env.locals != X.env.globals)) = false := by rw [I.ok.kind]; rfl
  have hiσ : i < σ.length := by rw [I.len]; exact (List.getElem?_eq_some_iff.mp hi).1
  have cne := I.cne
  have tracked : ∀ {a : Addr} {h' : Heap}, (∃ o, s.heap.get? a = some o ∧ H a = none) → Heap.SameBut a s.heap h' → HOk X.prog X.w H h' := fun {a h'} ha hs b ob e => by
    obtain ⟨_, _, hfree⟩ := ha
    refine (I.hok b ob e).stay (fun c w' hc q => (hs.2 c ?_).trans q) (fun _ q => q) fun _ _ q => q
    rintro rfl
    rcases hc with rfl | hc
    · rw [hfree] at e; cases e
    · rw [hfree] at hc; cases hc
  rcases hx with hk | hk
  · refine wpAny_storeName_local hk hn (fun h' hn' hs => ?_) hcls
    obtain ⟨oL, _, _, hoL, _⟩ := id hn
    refine h _ ⟨I.ok, I.os, I.bare, ⟨fun b o e n hb hx => ?_, fun b o e n hb hx => ?_, I.base.free, fun b o e hx => ?_, I.base.tups, I.base.frzs, I.base.tbls⟩, ⟨_, hn', fun j y v' e1 e2 e3 => ?_⟩, fun y c e => ?_, I.free, I.freeC, fun p hp => ?_, tracked ⟨oL, hoL, I.free⟩ hs, by simpa using I.len⟩ ⟨_, hs, .inl rfl⟩
    · exact (hs.2 b (Nat.ne_of_lt (Nat.lt_of_lt_of_le (Heap.lt_size e) I.ok.above))).trans (I.base.keep b o e n hb hx)
    · obtain ⟨sl, e1⟩ := I.base.slot b o e n hb hx
      exact ⟨sl, (hs.2 b (Nat.ne_of_lt (Nat.lt_of_lt_of_le (Heap.lt_size e) I.ok.above))).trans e1⟩
    · obtain ⟨o', e1⟩ := I.base.there b o e hx
      exact ⟨o', (hs.2 b (Nat.ne_of_lt (Nat.lt_of_lt_of_le (Heap.lt_size e) I.ok.above))).trans e1⟩
    · by_cases hj : j = i
      · subst hj
        rw [hi] at e1; cases e1
        rw [List.getElem?_set_self hiσ] at e2
        cases e2
        exact ⟨u, r, .inl ⟨hk, by simp⟩⟩
      · rw [List.getElem?_set_ne (Ne.symm hj)] at e2
        obtain ⟨u', r', q⟩ := hl j y v' e1 e2 e3
        refine ⟨u', r', ?_⟩
        rcases q with ⟨k, e⟩ | ⟨k, c, e, z⟩
        · refine .inl ⟨k, ?_⟩
          have : y ≠ x := fun e => hj (nodup_ix hN e1 (e ▸ hi))
          simp [this, e]
        · exact .inr ⟨k, c, e, z.sameBut hs (cne y c e)⟩
    · obtain ⟨w', z⟩ := I.cell y c e
      exact ⟨w', z.sameBut hs (cne y c e)⟩
    · obtain ⟨e, n, ne, nf, d⟩ := I.pin p hp
      exact ⟨(hs.2 p.1 ne).trans e, n, ne, nf, d⟩
  · have hfn : X.fn x = true := by
      rcases hf with z | z
      · exact z
      · rw [z] at hk; cases hk
    obtain ⟨c, hc⟩ := I.ok.has x (.inl hk)
    obtain ⟨w', z⟩ := I.cell x c hc
    refine wpAny_storeName_cell I.ok.kind hk hc z (fun h' hc' hs => ?_)
    obtain ⟨oc, hoc, hocd⟩ := id z
    refine h { s with heap := h' } ⟨I.ok, I.os, I.bare, ⟨fun b o e n hb hx => ?_, fun b o e n hb hx => ?_, I.base.free, fun b o e hx => ?_, I.base.tups, I.base.frzs, I.base.tbls⟩, ⟨m, hn.sameBut hs (Ne.symm (cne x c hc)), fun j y v' e1 e2 e3 => ?_⟩, fun y c' e => ?_, I.free, I.freeC, fun p hp => ?_, tracked ⟨oc, hoc, I.freeC x c hc⟩ hs, by simpa using I.len⟩ ⟨c, hs, .inr hc⟩
    · exact (hs.2 b (Nat.ne_of_lt (Nat.lt_of_lt_of_le (Heap.lt_size e) (I.ok.cab x c hfn hc)))).trans (I.base.keep b o e n hb hx)
    · obtain ⟨sl, e1⟩ := I.base.slot b o e n hb hx
      exact ⟨sl, (hs.2 b (Nat.ne_of_lt (Nat.lt_of_lt_of_le (Heap.lt_size e) (I.ok.cab x c hfn hc)))).trans e1⟩
    · obtain ⟨o', e1⟩ := I.base.there b o e hx
      exact ⟨o', (hs.2 b (Nat.ne_of_lt (Nat.lt_of_lt_of_le (Heap.lt_size e) (I.ok.cab x c hfn hc)))).trans e1⟩
    · by_cases hj : j = i
      · subst hj
        rw [hi] at e1; cases e1
        rw [List.getElem?_set_self hiσ] at e2
        cases e2
        exact ⟨u, r, .inr ⟨.inl hk, c, hc, hc'⟩⟩
      · rw [List.getElem?_set_ne (Ne.symm hj)] at e2
        obtain ⟨u', r', q⟩ := hl j y v' e1 e2 e3
        refine ⟨u', r', ?_⟩
        rcases q with q | ⟨k, c', e, z'⟩
        · exact .inl q
        · refine .inr ⟨k, c', e, z'.sameBut hs ?_⟩
          rintro rfl
          exact hj (nodup_ix hN e1 (I.ok.inj _ _ _ e hc ▸ hi))
    · by_cases hcc : c' = c
      · subst hcc; exact ⟨_, hc'⟩
      · obtain ⟨w2, z2⟩ := I.cell y c' e
        exact ⟨w2, z2.sameBut hs hcc⟩
    · obtain ⟨e, n, ne, nf, d⟩ := I.pin p hp
      refine ⟨(hs.2 p.1 ?_).trans e, n, ne, nf, d⟩
      intro q
      rw [q, hoc] at e
      have q' : oc = p.2 := Option.some.inj e
      exact d w' (by rw [← q']; exact hocd)
theorem store_ok {M : Model} {A : Around} {E : Value → Shared → Prop} {i : Nat} {x : Str} {v : V} {u : Value} {Q : Unit → Shared → Prop} (I : Inv X pins σ H s) (hN : X.N.Nodup) (hi : X.N[i]? = some x) (hx : Loc X.env.scope x) (r : RelV v u)
    (h : ∀ s', Inv X pins (σ.set i (some v)) H s' → Q () s') (hf : X.fn x = true ∨ X.env.scope.names.lookup x = some .local := by first | exact .inl rfl | exact .inr rfl | assumption) : wpAny M A (storeName X.env x u) Q E s :=
  store_ok2 I hN hi hx r (fun s' I' _ => h s' I') hf
theorem Inv.call' {s' : Shared} {ch : List Addr} (I : Inv X pins σ H s) (ho : s'.os = s.os) (u : Un (frs X.stack) ch H H' s.heap s'.heap) (hok : HOk X.prog X.w H' s'.heap) (hg : AllBare s'.gens)
    (hch : ∀ b ∈ ch, (b ∈ X.ex ∨ X.s₀.heap.objs.size ≤ b) ∧ b ≠ X.env.locals ∧ (∀ x c, X.env.cells.lookup x = some c → c ≠ b) ∧ ∀ p ∈ X.pn ++ pins, p.1 ≠ b) : Inv X pins σ H' s' := by
  obtain ⟨h', g', d', t', o'⟩ := s'
  have e : o' = s.os := ho
  subst e
  exact I.call (g' := g') (t' := t') (d' := d') u hok hg hch
end
abbrev XK := Value → Option Addr → Hp → Prop
abbrev St := List (Option V)
abbrev VK := V → Hp → Prop
abbrev TE := St → Hp → VK → Prop
abbrev TT := St → Hp → (Bool → Hp → Prop) → Prop
abbrev TA := St → Hp → (List V → Hp → Prop) → Prop
structure Ends where
  nx : St → Hp → Prop
  rt : VK
  bk : St → Hp → Prop := fun _ _ => False
  ct : St → Hp → Prop := fun _ _ => False
abbrev TS := Ends → St → Hp → Prop
def EP (X : Cx) (pins : List (Addr × Obj)) (σ : St) (Q : VK) (u : Value) (s' : Shared) : Prop := ∃ v H', Inv X pins σ H' s' ∧ RelV v u ∧ Q v H'
def TP (X : Cx) (pins : List (Addr × Obj)) (σ : St) (Q : Bool → Hp → Prop) (b : Bool) (s' : Shared) : Prop := ∃ H', Inv X pins σ H' s' ∧ Q b H'
def AP (X : Cx) (pins : List (Addr × Obj)) (σ : St) (Q : List V → Hp → Prop) (us : List Value) (s' : Shared) : Prop := ∃ vs H', Inv X pins σ H' s' ∧ Vals vs us ∧ Q vs H'
def SP (X : Cx) (pins : List (Addr × Obj)) (D : Ends) (f : Flow) (s' : Shared) : Prop :=
  match f with
  | .next => ∃ σ' H', Inv X pins σ' H' s' ∧ D.nx σ' H'
  | .brk => ∃ σ' H', Inv X pins σ' H' s' ∧ D.bk σ' H'
  | .cont => ∃ σ' H', Inv X pins σ' H' s' ∧ D.ct σ' H'
  | .ret u => ∃ v σ' H', Inv X pins σ' H' s' ∧ RelV v u ∧ D.rt v H'
def PE (X : Cx) (e : Expr) (t : TE) : Prop :=
  ∀ (pins : List (Addr × Obj)) (s : Shared) (σ : St) (H : Hp) (Q : VK), Inv X pins σ H s → t σ H Q → wpAny (model X.prog X.w) X.A (eval e X.env) (EP X pins σ Q) X.xe s
def PT (X : Cx) (e : Expr) (t : TT) : Prop :=
  ∀ (pins : List (Addr × Obj)) (s : Shared) (σ : St) (H : Hp) (Q : Bool → Hp → Prop), Inv X pins σ H s → t σ H Q → wpAny (model X.prog X.w) X.A (isTrue e X.env (eval e X.env)) (TP X pins σ Q) X.xe s
def PW (X : Cx) (e : Expr) (t : TT) : Prop :=
  ∀ (whole : Sem Value) (pins : List (Addr × Obj)) (s : Shared) (σ : St) (H : Hp) (Q : Bool → Hp → Prop), Inv X pins σ H s → t σ H Q → wpAny (model X.prog X.w) X.A (isTrue e X.env whole) (TP X pins σ Q) X.xe s
theorem PW.pt {X : Cx} {e : Expr} {t : TT} (h : PW X e t) : PT X e t := h _
def PA (X : Cx) (es : List Expr) (t : TA) : Prop :=
  ∀ (pos : Pos) (pins : List (Addr × Obj)) (s : Shared) (σ : St) (H : Hp) (Q : List V → Hp → Prop), Inv X pins σ H s → t σ H Q → wpAny (model X.prog X.w) X.A (spliced (backTo pos (starEach es X.env))) (AP X pins σ Q) X.xe s
def PS (X : Cx) (st : Stmt) (t : TS) : Prop :=
  ∀ (pins : List (Addr × Obj)) (s : Shared) (σ : St) (H : Hp) (D : Ends), Inv X pins σ H s → t D σ H → wpAny (model X.prog X.w) X.A (exec st X.env) (SP X pins D) X.xe s
def PSs (X : Cx) (st : List Stmt) (t : TS) : Prop :=
  ∀ (pins : List (Addr × Obj)) (s : Shared) (σ : St) (H : Hp) (D : Ends), Inv X pins σ H s → t D σ H → wpAny (model X.prog X.w) X.A (execs st X.env) (SP X pins D) X.xe s
theorem thn {α : Type} {t : Sem α} {Q Q' : α → Shared → Prop} {M : Model} {A : Around} {E : Value → Shared → Prop} {s : Shared} (h : wpAny M A t Q E s) (hQ : ∀ a s, Q a s → Q' a s) : wpAny M A t Q' E s := wpAny_mono h hQ fun _ _ x => x
end L2
namespace L2
open PySem PySem.Spec PyProof.Rows
section
variable {X : Cx}
def tVar (i : Nat) : TE := fun σ H Q => ∃ v, σ[i]? = some (some v) ∧ Q v H
def tC (v : V) : TE := fun _ H Q => Q v H
theorem pe_var {i : Nat} {x : Str} {pos : Pos} (hN : X.N[i]? = some x) (hv : Vis X.env.scope x) (hd : (x == ("__debug__" : Str)) = false := by decide) (hcd : (x == ("__classdict__" : Str)) = false := by decide) : PE X (.Name x pos) (tVar i) := by
  intro pins s σ H Q I h
  obtain ⟨v, e, h⟩ := h
  obtain ⟨m, hn, hl⟩ := I.loc
  obtain ⟨u, r, l⟩ := hl i x v hN e hv
  have fin : EP X pins σ Q u s := ⟨v, H, I, r, h⟩
  rcases l with ⟨hk, hm⟩ | ⟨hk, c, hc, hcell⟩
  · exact wpAny_Name (wpAny_loadName_local I.ok.kind hk hn hm fin) hd
  · rcases hk with hk | hk
    · exact wpAny_Name (wpAny_loadName_cell I.ok.kind hk hc hcell fin) hd
    · exact wpAny_Name (wpAny_loadName_free I.ok.kind hk hc hcell fin hcd) hd
theorem pe_int {i j pos} : PE X (.Constant (.int i) j pos) (tC (.int i)) := fun _ _ _ H _ I h => wpAny_Constant_int ⟨.int i, H, I.tok _, ⟨_, rfl⟩, h⟩
theorem pe_bl {b j pos} : PE X (.Constant (.bool b) j pos) (tC (.bl b)) := fun _ _ _ H _ I h => Constant_bool ⟨.bl b, H, I, rfl, h⟩
def Gl (X : Cx) (x : Str) : Prop := X.env.kindOf x = some .globalImplicit
theorem ld_glob {E : Value → Shared → Prop} {pins : List (Addr × Obj)} {s : Shared} {σ : St} {H : Hp} {x : Str} {u : Value} {pos : Pos} {Q : Value → Shared → Prop} (I : Inv X pins σ H s) (hg : Gl X x) (hm : X.mg x = some u) (h : Q u s)
    (hd : (x == ("__debug__" : Str)) = false := by decide) : wpAny (model X.prog X.w) X.A (eval (.Name x pos) X.env) Q E s :=
  Calls.Name_function_global I.ok.kind hg (Calls.loadGlobal_global (by rw [I.ok.glob]; exact I.mod.glob.keeps I.bk) hm h) hd
theorem ld_blt {E : Value → Shared → Prop} {pins : List (Addr × Obj)} {s : Shared} {σ : St} {H : Hp} {x : Str} {u : Value} {pos : Pos} {Q : Value → Shared → Prop} (I : Inv X pins σ H s) (hg : Gl X x) (hm : X.mg x = none) (hv : bootBuiltins x = some u) (h : Q u s)
    (hn : x ≠ "__name__" := by decide) (hd : (x == ("__debug__" : Str)) = false := by decide) : wpAny (model X.prog X.w) X.A (eval (.Name x pos) X.env) Q E s := by
  obtain ⟨mb, h1, h2⟩ := I.mod.blt
  exact Calls.Name_function_global I.ok.kind hg (Calls.loadGlobal_builtin (by rw [I.ok.glob]; exact I.mod.glob.keeps I.bk) hm (by rw [I.ok.blt]; exact h1.keeps I.bk) ((h2 x hn).trans hv) h) hd
theorem pe_bltn {x : Str} {v : V} {u : Value} {pos : Pos} (hg : Gl X x) (hm : X.mg x = none) (hv : bootBuiltins x = some u) (r : RelV v u) (hn : x ≠ "__name__" := by decide) (hd : (x == ("__debug__" : Str)) = false := by decide) : PE X (.Name x pos) (tC v) :=
  fun _ _ _ H _ I h => ld_blt I hg hm hv ⟨v, H, I, r, h⟩ hn hd
variable {a b : Expr} {ta tb : TE} {pos : Pos}
def tB (t : TE) : TT := fun σ H Q => t σ H fun x H1 => ∃ c, x = .bl c ∧ Q c H1
theorem pt_val {e : Expr} {t : TE} (h : PE X e t) (he : ∀ whole, isTrue e X.env whole = (do let v ← whole; standAt e.pos; holding [v] (truthy v)) := by intro _; rfl) : PT X e (tB t) := by
  intro pins s σ H Q I hw
  refine isTrue_plain (thn (h pins s σ H _ I hw) fun v s1 ⟨x, H1, I1, r1, q1⟩ => ?_) (he _)
  obtain ⟨d, rfl, q⟩ := q1
  cases r1
  exact wpAny_truthy_bool ⟨H1, I1, q⟩
variable {tA tB' : TT} {rest : List Expr}
def tAnd (t u : TT) : TT := fun σ H Q => t σ H fun c H1 => if c = true then u σ H1 Q else Q false H1
def tOr (t u : TT) : TT := fun σ H Q => t σ H fun c H1 => if c = true then Q true H1 else u σ H1 Q
def tNot (t : TT) : TT := fun σ H Q => t σ H fun c H1 => Q (!c) H1
theorem pw_and1 (ha : PT X a tA) : PW X (.BoolOp .And [a] pos) tA := by
  intro wh pins s σ H Q I h
  refine isTrue_and (thn (ha pins s σ H Q I h) fun c s1 e => ?_)
  cases c with
  | true => exact isTrue_and_nil e
  | false => exact e
theorem pw_or1 (ha : PT X a tA) : PW X (.BoolOp .Or [a] pos) tA := by
  intro wh pins s σ H Q I h
  refine isTrue_or (thn (ha pins s σ H Q I h) fun c s1 e => ?_)
  cases c with
  | false => exact isTrue_or_nil e
  | true => exact e
theorem pw_and (ha : PT X a tA) (hb : PW X (.BoolOp .And (b :: rest) pos) tB') : PW X (.BoolOp .And (a :: b :: rest) pos) (tAnd tA tB') := by
  intro wh pins s σ H Q I h
  refine isTrue_and (thn (ha pins s σ H _ I h) fun c s1 ⟨H1, I1, q1⟩ => ?_)
  cases c with
  | true => exact hb wh pins s1 σ H1 Q I1 q1
  | false => exact ⟨H1, I1, q1⟩
theorem pw_or (ha : PT X a tA) (hb : PW X (.BoolOp .Or (b :: rest) pos) tB') : PW X (.BoolOp .Or (a :: b :: rest) pos) (tOr tA tB') := by
  intro wh pins s σ H Q I h
  refine isTrue_or (thn (ha pins s σ H _ I h) fun c s1 ⟨H1, I1, q1⟩ => ?_)
  cases c with
  | true => exact ⟨H1, I1, q1⟩
  | false => exact hb wh pins s1 σ H1 Q I1 q1
theorem pt_not (ha : PT X a tA) : PT X (.UnaryOp .Not a pos) (tNot tA) := by
  intro pins s σ H Q I h
  exact isTrue_not (ha pins s σ H (fun c H1 => Q (!c) H1) I h)
def tAndV (ta tb : TE) : TE := fun σ H Q => ta σ H fun x H1 => ∃ c, x = .bl c ∧ if c = true then tb σ H1 Q else Q (.bl false) H1
def tNotV (ta : TE) : TE := fun σ H Q => ta σ H fun x H1 => ∃ c, x = .bl c ∧ Q (.bl (!c)) H1
theorem pe_one {op} {t : TE} (h : PE X a t) : PE X (.BoolOp op [a] pos) t := fun pins s σ H Q I hw => BoolOp_one (h pins s σ H Q I hw)
theorem pe_and (ha : PE X a ta) (hb : PE X (.BoolOp .And (b :: rest) pos) tb) : PE X (.BoolOp .And (a :: b :: rest) pos) (tAndV ta tb) := by
  intro pins s σ H Q I h
  refine BoolOp_and (thn (ha pins s σ H _ I h) fun v s1 ⟨x, H1, I1, r1, q1⟩ => ?_)
  obtain ⟨c, rfl, q1⟩ := q1
  cases r1
  refine wpAny_truthy_bool ?_
  cases c with
  | true => exact hb pins s1 σ H1 Q I1 q1
  | false => exact ⟨.bl false, H1, I1, rfl, q1⟩
theorem pe_not (ha : PE X a ta) : PE X (.UnaryOp .Not a pos) (tNotV ta) := by
  intro pins s σ H Q I h
  refine UnaryOp_ (thn (ha pins s σ H _ I h) fun v s1 ⟨x, H1, I1, r1, q1⟩ => ?_)
  obtain ⟨c, rfl, q1⟩ := q1
  cases r1
  exact not_of (wpAny_truthy_bool ⟨.bl (!c), H1, I1, rfl, q1⟩)
end
end L2
namespace L2
open PySem PySem.Spec PyProof.Rows
def SqL (K : PySem.W.Frag) (H : Hp) (a : Addr) (xs : List V) : Prop :=
  Rd H a (.lst xs) ∨
    ∃ (o : Obj) (its : Array Value) (n : Nat), K.lookup a = some o ∧ o.cls = .type "list" ∧ o.dict = none ∧ o.data = .seq its n ∧ its.size ≤ sizeLine ∧ Vals xs its.toList
def SqT (K : PySem.W.Frag) (H : Hp) (a : Addr) (xs : List V) : Prop :=
  Rd H a (.tup xs) ∨
    ∃ (o : Obj) (its : Array Value) (n : Nat), K.lookup a = some o ∧ o.cls = .type "tuple" ∧ o.data = .seq its n ∧ its.size ≤ sizeLine ∧ Vals xs its.toList
def absV : Value → Option V
  | .none => some .non
  | .bool b => some (.bl b)
  | .int i _ => some (.int i)
  | .str x _ => some (.str x)
  | .bytes b _ => some (.byt b)
  | .float b _ => some (.flt b)
  | .ref a => some (.ref a)
  | .type n => some (.ty n)
  | _ => none
theorem RelV.abs {x : V} {u : Value} (r : RelV x u) : absV u = some x := by
  cases x with
  | non => cases r; rfl
  | bl _ => cases r; rfl
  | int _ => obtain ⟨t, rfl⟩ := r; rfl
  | str _ => obtain ⟨t, rfl⟩ := r; rfl
  | byt _ => obtain ⟨t, rfl⟩ := r; rfl
  | flt _ => obtain ⟨t, rfl⟩ := r; rfl
  | ref _ => cases r; rfl
  | ty _ => cases r; rfl
theorem RelV.inj {x y : V} {u : Value} (r : RelV x u) (q : RelV y u) : x = y := Option.some.inj (r.abs.symm.trans q.abs)
theorem Vals.inj : ∀ {xs ys : List V} {us : List Value}, Vals xs us → Vals ys us → xs = ys
  | _, _, _, .nil, .nil => rfl
  | _, _, _, .cons r t, .cons r' t' => by rw [r.inj r', Vals.inj t t']
section
variable {X : Cx} {pins : List (Addr × Obj)} {σ : St} {H : Hp} {s : Shared} {a : Addr} {xs ys : List V}
theorem SqL.of {K : PySem.W.Frag} (h : H a = some (.lst xs)) : SqL K H a xs := .inl (.inl h)
theorem SqT.of {K : PySem.W.Frag} (h : H a = some (.tup xs)) : SqT K H a xs := .inl (.inl h)
theorem Inv.list (I : Inv X pins σ H s) (h : SqL X.K H a xs) : ∃ its : List Value, Vals xs its ∧ PlainL s.heap a its.toArray ∧ xs.length ≤ sizeLine := by
  rcases h with h | ⟨o, its, n, hk, hc, hd, hs, hz, r⟩
  · obtain ⟨z, its, n, r, e⟩ := h.ok I.hok
    exact ⟨its, r, ⟨_, n, e, rfl, rfl, rfl⟩, z⟩
  · refine ⟨its.toList, r, ⟨o, n, I.kIn a o hk, hc, hd, by simpa using hs⟩, ?_⟩
    have e := r.length
    simp only [Array.length_toList] at e
    omega
theorem Inv.tuple (I : Inv X pins σ H s) (h : SqT X.K H a xs) : ∃ its : List Value, Vals xs its ∧ IsTup s.heap a its.toArray ∧ xs.length ≤ sizeLine := by
  rcases h with h | ⟨o, its, n, hk, hc, hs, hz, r⟩
  · obtain ⟨z, its, r, p⟩ := h.ok I.hok
    exact ⟨its, r, p, z⟩
  · refine ⟨its.toList, r, ⟨o, I.kIn a o hk, hc, n, by simpa using hs⟩, ?_⟩
    have e := r.length
    simp only [Array.length_toList] at e
    omega
theorem Inv.list_inj (I : Inv X pins σ H s) (h : SqL X.K H a xs) (h' : SqL X.K H a ys) : xs = ys := by
  obtain ⟨its, r, ⟨o, n, e, _, _, d⟩, _⟩ := I.list h
  obtain ⟨its', r', ⟨o', n', e', _, _, d'⟩, _⟩ := I.list h'
  rw [e] at e'; cases e'
  rw [d] at d'
  injection d' with d1 _
  have : its = its' := by simpa using congrArg Array.toList d1
  subst this
  exact r.inj r'
theorem Inv.tuple_inj (I : Inv X pins σ H s) (h : SqT X.K H a xs) (h' : SqT X.K H a ys) : xs = ys := by
  obtain ⟨its, r, ⟨o, e, _, n, d⟩, _⟩ := I.tuple h
  obtain ⟨its', r', ⟨o', e', _, n', d'⟩, _⟩ := I.tuple h'
  rw [e] at e'; cases e'
  rw [d] at d'
  injection d' with d1 _
  have : its = its' := by simpa using congrArg Array.toList d1
  subst this
  exact r.inj r'
end
abbrev Cx.wish (X : Cx) (E : Value → Shared → Prop) : Cx := { X with xe := E }
abbrev Cx.nox (X : Cx) : Cx := X.wish fun _ _ => False
theorem Cx.Ok.wish {X : Cx} (ok : X.Ok) (E : Value → Shared → Prop) : (X.wish E).Ok :=
  ⟨ok.mod, ok.kind, ok.glob, ok.blt, ok.above, ok.inj, ok.has, ok.cab, ok.hd, ok.frames, ok.stk, ok.exf, ok.bs, ok.bsz, ok.noex, ok.exfs, ok.funs, ok.frf⟩
theorem Cx.Ok.unwish {X : Cx} {E : Value → Shared → Prop} (ok : (X.wish E).Ok) : X.Ok :=
  ⟨ok.mod, ok.kind, ok.glob, ok.blt, ok.above, ok.inj, ok.has, ok.cab, ok.hd, ok.frames, ok.stk, ok.exf, ok.bs, ok.bsz, ok.noex, ok.exfs, ok.funs, ok.frf⟩
section
variable {X : Cx} {pins : List (Addr × Obj)} {σ : St} {H : Hp} {s : Shared} {E : Value → Shared → Prop}
theorem Inv.wish (I : Inv X pins σ H s) (E : Value → Shared → Prop) : Inv (X.wish E) pins σ H s := ⟨I.ok.wish E, I.os, I.bare, I.base, I.loc, I.cell, I.free, I.freeC, I.pin, I.hok, I.len⟩
theorem Inv.unwish (I : Inv (X.wish E) pins σ H s) : Inv X pins σ H s := ⟨I.ok.unwish, I.os, I.bare, I.base, I.loc, I.cell, I.free, I.freeC, I.pin, I.hok, I.len⟩
theorem SP.unwish {D : Ends} {f : Flow} {s' : Shared} (h : SP (X.wish E) pins D f s') : SP X pins D f s' := by
  cases f with
  | next => obtain ⟨σ', H', I, q⟩ := h; exact ⟨σ', H', I.unwish, q⟩
  | brk => obtain ⟨σ', H', I, q⟩ := h; exact ⟨σ', H', I.unwish, q⟩
  | cont => obtain ⟨σ', H', I, q⟩ := h; exact ⟨σ', H', I.unwish, q⟩
  | ret u => obtain ⟨v, σ', H', I, r, q⟩ := h; exact ⟨v, σ', H', I.unwish, r, q⟩
theorem PE.nox {e : Expr} {t : TE} (h : PE X.nox e t) : PE X e t := fun pins s σ H Q I hw =>
  wpAny_mono (h pins s σ H Q (I.wish _) hw) (fun _ _ ⟨v, H', I', r, q⟩ => ⟨v, H', I'.unwish, r, q⟩) fun _ _ z => False.elim z
theorem PT.nox {e : Expr} {t : TT} (h : PT X.nox e t) : PT X e t := fun pins s σ H Q I hw =>
  wpAny_mono (h pins s σ H Q (I.wish _) hw) (fun _ _ ⟨H', I', q⟩ => ⟨H', I'.unwish, q⟩) fun _ _ z => False.elim z
theorem PSs.nox {st : List Stmt} {t : TS} (h : PSs X.nox st t) : PSs X st t := fun pins s σ H D I hw =>
  wpAny_mono (h pins s σ H D (I.wish _) hw) (fun _ _ q => q.unwish) fun _ _ z => False.elim z
end
section
variable {X : Cx} {st : Stmt} {rest : List Stmt} {t u : TS} {e : Expr} {te : TE} {pos : Pos}
def tNext : TS := fun D σ H => D.nx σ H
def tSeq (t u : TS) : TS := fun D σ H => t { D with nx := u D } σ H
theorem pss_nil : PSs X [] tNext := fun _ _ σ H _ I h => wpAny_execs_nil ⟨σ, H, I, h⟩
theorem pss_cons (h1 : PS X st t) (h2 : PSs X rest u) : PSs X (st :: rest) (tSeq t u) := by
  intro pins s σ H D I h
  refine wpAny_execs_cons (thn (h1 pins s σ H { D with nx := u D } I h) fun f s1 q => ?_)
  cases f with
  | next =>
    obtain ⟨σ', H', I', q⟩ := q
    exact h2 pins s1 σ' H' D I' q
  | ret v => exact q
  | brk => exact q
  | cont => exact q
theorem Inv.quiet {pins : List (Addr × Obj)} {σ : St} {H : Hp} {s : Shared} (I : Inv X pins σ H s) : interactive X.env = false := by simp [interactive, I.ok.kind]
def tDrop (te : TE) : TS := fun D σ H => te σ H fun _ H1 => D.nx σ H1
theorem ps_expr (he : PE X e te) (hs : swapsWith e none pos.line X.env = pure false := by rfl) : PS X (.Expr e pos) (tDrop te) := by
  intro pins s σ H D I h
  exact wpAny_Expr_any (thn (he pins s σ H _ I h) fun v s1 ⟨x, H1, I1, r1, q1⟩ => ⟨σ, H1, I1, q1⟩) I.quiet hs
def tRet (te : TE) : TS := fun D σ H => te σ H D.rt
theorem ps_ret (he : PE X e te) : PS X (.Return (some e) pos) (tRet te) := by
  intro pins s σ H D I h
  exact wpAny_Return_some (thn (he pins s σ H _ I h) fun v s1 ⟨x, H1, I1, r1, q1⟩ => ⟨x, σ, H1, I1, r1, q1⟩)
def tIfS (c : TT) (t u : TS) : TS := fun D σ H => c σ H fun b H1 => if b = true then t D σ H1 else u D σ H1
theorem ps_if {c : Expr} {a b : List Stmt} {tc : TT} (hc : PT X c tc) (ha : PSs X a t) (hb : PSs X b u) : PS X (.If c a b pos) (tIfS tc t u) := by
  intro pins s σ H D I h
  refine wpAny_If (thn (hc pins s σ H _ I h) fun d s1 ⟨H1, I1, q1⟩ => ?_)
  cases d with
  | true => exact ha pins s1 σ H1 D I1 q1
  | false => exact hb pins s1 σ H1 D I1 q1
def tNever : TS := fun _ _ _ => False
theorem pss_never {sts : List Stmt} : PSs X sts tNever := fun _ _ _ _ _ _ h => h.elim
end
abbrev TG := V → St → Hp → (St → Hp → Prop) → Prop
def PG (X : Cx) (target : Expr) (t : TG) : Prop :=
  ∀ (pins : List (Addr × Obj)) (s : Shared) (σ : St) (H : Hp) (v : V) (u : Value) (Q : St → Hp → Prop), Inv X pins σ H s → RelV v u → t v σ H Q →
    wpAny (model X.prog X.w) X.A (assign target X.env u) (fun _ s' => ∃ σ' H', Inv X pins σ' H' s' ∧ Q σ' H') X.xe s
abbrev TSet := V → V → V → Hp → (Hp → Prop) → Prop
def PSet (X : Cx) (t : TSet) : Prop :=
  ∀ (pins : List (Addr × Obj)) (s : Shared) (σ : St) (H : Hp) (o i v : V) (ov iv u : Value) (Q : Hp → Prop), Inv X pins σ H s → RelV o ov → RelV i iv → RelV v u → t o i v H Q →
    wpAny (model X.prog X.w) X.A (setItem ov iv u) (fun _ s' => ∃ H', Inv X pins σ H' s' ∧ Q H') X.xe s
section
variable {X : Cx} {pos : Pos}
def gName (i : Nat) : TG := fun v σ H Q => Q (σ.set i (some v)) H
theorem pg_name {i : Nat} {x : Str} (hN : X.N.Nodup) (hi : X.N[i]? = some x) (hx : Loc X.env.scope x) (hf : X.fn x = true ∨ X.env.scope.names.lookup x = some .local := by first | exact .inl rfl | exact .inr rfl | assumption) : PG X (.Name x pos) (gName i) := by
  intro pins s σ H v u Q I r h
  exact wpAny_assign_Name (store_ok I hN hi hx r (fun s' I' => ⟨_, H, I', h⟩) hf)
def gSub (to ti : TE) (t : TSet) : TG := fun v σ H Q => to σ H fun o H1 => ti σ H1 fun i H2 => t o i v H2 fun H3 => Q σ H3
theorem pg_sub {o i : Expr} {to ti : TE} {t : TSet} (ho : PE X o to) (hi : PE X i ti) (hs : PSet X t)
    (ha : ∀ v, assign (.Subscript o i pos) X.env v = (do
      let ov ← holding [v] (eval o X.env)
      let iv ← holding [v, ov] (eval i X.env)
      standAt pos
      holding [v, ov, iv] (setItem ov iv v)
      release [v, ov, iv] []) := by intro _; rfl) : PG X (.Subscript o i pos) (gSub to ti t) := by
  intro pins s σ H v u Q I r h
  rw [ha]
  refine wpAny_bind (wpAny_holding (thn (ho pins s σ H _ I h) fun ov s1 ⟨x, H1, I1, r1, q1⟩ => ?_))
  refine wpAny_bind (wpAny_holding (thn (hi pins s1 σ H1 _ I1 q1) fun iv s2 ⟨y, H2, I2, r2, q2⟩ => ?_))
  refine wpAny_bind (wpAny_standAt (wpAny_bind (wpAny_holding (thn (hs pins s2 σ H2 x y v ov iv u _ I2 r1 r2 r q2) fun _ s3 ⟨H3, I3, q3⟩ => ?_))))
  exact wpAny_release ⟨σ, H3, I3, q3⟩
def tAsg (te : TE) (g : TG) : TS := fun D σ H => te σ H fun x H1 => g x σ H1 D.nx
theorem ps_asg {tg e : Expr} {te : TE} {g : TG} (he : PE X e te) (hg : PG X tg g) (hs : swapsWithSole [tg] e pos.line X.env = pure false := by rfl) (hw : swappedStores [tg] e X.env = pure none := by rfl)
    (h1 : (assignEach [tg] X.env).map (·.2) = [assign tg X.env] := by rfl) : PS X (.Assign [tg] e pos) (tAsg te g) := by
  intro pins s σ H D I h
  refine wpAny_Assign_stores (thn (he pins s σ H _ I h) fun v s1 ⟨x, H1, I1, r1, q1⟩ => ?_) hs hw
  rw [h1]
  exact thn (hg pins s1 σ H1 x v _ I1 r1 q1) fun _ s2 q => q
theorem ps_set {i : Nat} {x : Str} {e : Expr} {te : TE} {pos' : Pos} (hN : X.N.Nodup) (hi : X.N[i]? = some x) (hx : Loc X.env.scope x) (he : PE X e te) (hs : swapsWith e (some (.Name x pos')) pos.line X.env = pure false := by rfl) (hf : X.fn x = true ∨ X.env.scope.names.lookup x = some .local := by first | exact .inl rfl | exact .inr rfl | assumption) :
    PS X (.Assign [.Name x pos'] e pos) (tAsg te (gName i)) := by
  intro pins s σ H D I h
  refine wpAny_Assign_Name (thn (he pins s σ H _ I h) fun v s1 ⟨y, H1, I1, r1, q1⟩ => ?_) hs
  exact store_ok I1 hN hi hx r1 (fun s2 I2 => ⟨_, H1, I2, q1⟩) hf
end
section
variable {X : Cx} {pos : Pos}
end
structure It where
  go : Nat → Hp → Prop
  yld : Nat → Hp → V → Hp → Prop
  stop : Nat → Hp → Prop
def FpOk (X : Cx) (pins : List (Addr × Obj)) (H : Hp) (b : Addr) : Prop :=
  H b = none ∧ b ≠ X.env.locals ∧ b ∉ X.fs ∧ (b ∈ X.ex ∨ X.s₀.heap.objs.size ≤ b) ∧ (∀ x c, X.env.cells.lookup x = some c → c ≠ b) ∧ ∀ p ∈ X.pn ++ pins, p.1 ≠ b
theorem Inv.fpOk {X : Cx} {pins : List (Addr × Obj)} {σ : St} {H H' : Hp} {s : Shared} {b : Addr} (I : Inv X pins σ H s) (hb : s.heap.objs.size ≤ b) (hn : H' b = none) : FpOk X pins H' b := by
  refine ⟨hn, Nat.ne_of_gt (Nat.lt_of_lt_of_le I.lt hb), I.nofs hb, .inr (Nat.le_trans I.sz hb), fun x c e z => ?_, fun p hp z => ?_⟩
  · obtain ⟨v, q⟩ := I.cell x c e
    exact absurd (Nat.lt_of_lt_of_le q.lt (by rw [z]; exact hb)) (Nat.lt_irrefl _)
  · exact absurd (Nat.lt_of_lt_of_le (Heap.lt_size (I.pin p hp).1) (by rw [z]; exact hb)) (Nat.lt_irrefl _)
structure Turn (P : Program) (w : World) (K : PySem.W.Frag) (tg : Expr) (J : It) (fp : List Addr) (it : Addr) (tn : Nat → Heap → Prop) : Prop where
  mem : it ∈ fp
  obj : ∀ i h, tn i h → ∀ b ∈ fp, ∃ o, h.get? b = some o ∧ ∀ v, o.data ≠ .cell v
  keep : ∀ i h h', tn i h → (∀ b ∈ fp, ∀ o, h.get? b = some o → h'.get? b = some o) → tn i h'
  item : ∀ (X : Cx), X.prog = P → X.w = w → X.K = K → X.calm = true → ∀ (i : Nat) (pins : List (Addr × Obj)) (s : Shared) (σ : St) (H : Hp) (E : Value → Shared → Prop), Inv X pins σ H s → (∀ b ∈ fp, FpOk X pins H b) → tn i s.heap → J.go i H →
    wpAny (model P w) X.A (pyNext (.ref it)) (fun r s1 => ∃ u, r = some u ∧
      wpAny (model P w) X.A (letOwnedTupleGo tg (.ref it) u) (fun _ s2 => ∃ x H', Inv X pins σ H' s2 ∧ RelV x u ∧ J.yld i H x H' ∧ tn (i + 1) s2.heap ∧ ∀ b ∈ fp, H' b = none) E s1) E s
  done : ∀ (X : Cx), X.prog = P → X.w = w → X.K = K → X.calm = true → ∀ (i : Nat) (pins : List (Addr × Obj)) (s : Shared) (σ : St) (H : Hp) (E : Value → Shared → Prop), Inv X pins σ H s → (∀ b ∈ fp, FpOk X pins H b) → tn i s.heap → J.stop i H →
    wpAny (model P w) X.A (pyNext (.ref it)) (fun r s1 => r = none ∧ Inv X pins σ H s1) E s
  self : ∀ (A : Around) (i : Nat) (s : Shared) (Q : Value → Shared → Prop) (E : Value → Shared → Prop), tn i s.heap → Q (.ref it) s → wpAny (model P w) A (pyIter (.ref it)) Q E s
abbrev TI := St → Hp → (It → Hp → Prop) → Prop
def PIE (X : Cx) (pins : List (Addr × Obj)) (σ : St) (tg : Expr) (R : It → Hp → Prop) (itv : Value) (s2 : Shared) : Prop :=
  ∃ (it : Addr) (fp : List Addr) (tn : Nat → Heap → Prop) (J : It) (H' : Hp), itv = .ref it ∧ Inv X pins σ H' s2 ∧ Turn X.prog X.w X.K tg J fp it tn ∧ tn 0 s2.heap ∧ (∀ b ∈ fp, FpOk X pins H' b) ∧ R J H'
def PI (X : Cx) (tg iter : Expr) (wi : TI) : Prop :=
  ∀ (pins : List (Addr × Obj)) (s : Shared) (σ : St) (H : Hp) (R : It → Hp → Prop), Inv X pins σ H s → wi σ H R →
    wpAny (model X.prog X.w) X.A (eval iter X.env) (fun v s1 => wpAny (model X.prog X.w) X.A (pyIter v) (PIE X pins σ tg R) X.xe s1) X.xe s
theorem go_of {M : Model} {A : Around} {E : Value → Shared → Prop} {s : Shared} {tg : Expr} {it : Addr} {u : Value} {o : Obj} {n : String} {vs : Array Value} {Q : Unit → Shared → Prop} (ho : s.heap.get? it = some o) (hc : o.cls = .type n) (hd : o.data = .fields vs)
    (hn : ["enumerate", "zip", "dict_itemiterator", "dict_reverseitemiterator", "odict_iterator", "itertools.zip_longest", "itertools.pairwise"].contains n = false) (hQ : Q () s) : wpAny M A (letOwnedTupleGo tg (.ref it) u) Q E s := by
  unfold letOwnedTupleGo
  cases tg <;> first
    | exact wpAny_pure hQ
    | (cases u <;> first
        | exact wpAny_pure hQ
        | (refine wpAny_bind (wpAny_load ho ?_)
           rw [hc, hd]
           show wpAny M A (if (["enumerate", "zip", "dict_itemiterator", "dict_reverseitemiterator", "odict_iterator", "itertools.zip_longest", "itertools.pairwise"].contains n && vs[0]? == some (rawInt _)) = true then _ else _) Q E s
           rw [if_neg (by intro h; rw [hn, Bool.false_and] at h; cases h)]
           exact wpAny_pure hQ))
def Itl (K : PySem.W.Frag) (a : Addr) : It :=
  ⟨fun i H => ∃ xs x, SqL K H a xs ∧ xs[i]? = some x, fun i H x H' => H' = H ∧ ∀ xs, SqL K H a xs → xs[i]? = some x, fun i H => ∃ xs, SqL K H a xs ∧ xs.length ≤ i⟩
def Itt (K : PySem.W.Frag) (a : Addr) : It :=
  ⟨fun i H => ∃ xs x, SqT K H a xs ∧ xs[i]? = some x, fun i H x H' => H' = H ∧ ∀ xs, SqT K H a xs → xs[i]? = some x, fun i H => ∃ xs, SqT K H a xs ∧ xs.length ≤ i⟩
def Itr (lo : Int) (n : Nat) : It := ⟨fun i _ => i < n, fun i H x H' => H' = H ∧ x = .int (lo + i), fun i _ => n ≤ i⟩
theorem turn_list {P : Program} {w : World} {K : PySem.W.Frag} {tg : Expr} (a it : Addr) : Turn P w K tg (Itl K a) [it] it (fun i h => h.IsListIter it a i) where
  mem := by simp
  obj := fun i h st b hb => by
    have e : b = it := by simpa using hb
    subst e
    obtain ⟨o, e, c, d⟩ := st
    exact ⟨o, e, fun v z => by rw [d] at z; cases z⟩
  keep := fun i h h' st k => st.at fun o e => k it (by simp) o e
  item := by
    intro X hP hw hK hc i pins s σ H E I hf st hg
    subst hP hw hK
    obtain ⟨xs, x, hq, hx⟩ := hg
    obtain ⟨its, rv, p, hz⟩ := I.list hq
    obtain ⟨u, hu, ru⟩ := rv.get hx
    obtain ⟨f0, f1, f2, f3, f4, f5⟩ := hf it (by simp)
    refine wpAny_pyNext_list_item st p.isList (x := u) (by simpa using hu) fun h' st' sb => ?_
    have I1 : Inv X pins σ H { s with heap := h' } := I.turned (t' := s.toks) (fun b o hb e => (sb.2 b hb).trans e) f0 f1 f3 f4 f5
    obtain ⟨o, e, c, d⟩ := id st'
    exact ⟨u, rfl, go_of (s := { s with heap := h' }) e c d (by decide) ⟨x, H, I1, ru, ⟨rfl, fun ys hy => by rw [I.list_inj hy hq]; exact hx⟩, st', fun b hb => (hf b hb).1⟩⟩
  done := by
    intro X hP hw hK hc i pins s σ H E I hf st hg
    subst hP hw hK
    obtain ⟨xs, hq, hx⟩ := hg
    obtain ⟨its, rv, p, hz⟩ := I.list hq
    obtain ⟨f0, f1, f2, f3, f4, f5⟩ := hf it (by simp)
    have hl := rv.length
    exact wpAny_pyNext_list_end (I.ok.hd hc) st p.isList (by simp; omega) fun h' eb => ⟨rfl, I.turned (t' := s.toks) (fun b o hb e => eb b o hb e) f0 f1 f3 f4 f5⟩
  self := fun _ _ _ _ _ st h => wpAny_pyIter_listiter st h
theorem turn_tuple {P : Program} {w : World} {K : PySem.W.Frag} {tg : Expr} (a it : Addr) : Turn P w K tg (Itt K a) [it] it (fun i h => h.IsTupleIter it a i) where
  mem := by simp
  obj := fun i h st b hb => by
    have e : b = it := by simpa using hb
    subst e
    obtain ⟨o, e, c, d⟩ := st
    exact ⟨o, e, fun v z => by rw [d] at z; cases z⟩
  keep := fun i h h' st k => st.at fun o e => k it (by simp) o e
  item := by
    intro X hP hw hK hc i pins s σ H E I hf st hg
    subst hP hw hK
    obtain ⟨xs, x, hq, hx⟩ := hg
    obtain ⟨its, rv, p, hz⟩ := I.tuple hq
    obtain ⟨u, hu, ru⟩ := rv.get hx
    obtain ⟨f0, f1, f2, f3, f4, f5⟩ := hf it (by simp)
    refine wpAny_pyNext_tuple_item st (show s.heap.IsTuple a its.toArray from p) (x := u) (by simpa using hu) fun h' st' sb => ?_
    have I1 : Inv X pins σ H { s with heap := h' } := I.turned (t' := s.toks) (fun b o hb e => (sb.2 b hb).trans e) f0 f1 f3 f4 f5
    obtain ⟨o, e, c, d⟩ := id st'
    exact ⟨u, rfl, go_of (s := { s with heap := h' }) e c d (by decide) ⟨x, H, I1, ru, ⟨rfl, fun ys hy => by rw [I.tuple_inj hy hq]; exact hx⟩, st', fun b hb => (hf b hb).1⟩⟩
  done := by
    intro X hP hw hK hc i pins s σ H E I hf st hg
    subst hP hw hK
    obtain ⟨xs, hq, hx⟩ := hg
    obtain ⟨its, rv, p, hz⟩ := I.tuple hq
    obtain ⟨f0, f1, f2, f3, f4, f5⟩ := hf it (by simp)
    have hl := rv.length
    exact wpAny_pyNext_tuple_end (I.ok.hd hc) st (show s.heap.IsTuple a its.toArray from p) (by simp; omega) fun h' eb => ⟨rfl, I.turned (t' := s.toks) (fun b o hb e => eb b o hb e) f0 f1 f3 f4 f5⟩
  self := fun _ _ _ _ _ st h => wpAny_pyIter_tupleiter st h
theorem turn_range {P : Program} {w : World} {K : PySem.W.Frag} {tg : Expr} (it : Addr) (lo : Int) (n : Nat) : Turn P w K tg (Itr lo n) [it] it (fun i h => IsRangeIter h it (lo + (i : Nat) * 1) ((n : Int) - (i : Nat)) 1) where
  mem := by simp
  obj := fun i h st b hb => by
    have e : b = it := by simpa using hb
    subst e
    exact ⟨_, st, fun v z => by
      have z' : Data.fields _ = Data.cell v := z
      cases z'⟩
  keep := fun i h h' st k => k it (by simp) _ st
  item := by
    intro X hP hw hK hc i pins s σ H E I hf st hg
    subst hP hw hK
    obtain ⟨f0, f1, f2, f3, f4, f5⟩ := hf it (by simp)
    have W := Walks.range (prog := X.prog) (w := X.w) (I.ok.hd hc) it lo 1 n
    refine W.item i s _ _ hg st fun v h' tk hv st' kk => ?_
    obtain ⟨t, rfl⟩ := hv
    have I1 : Inv X pins σ H { s with heap := h', toks := tk } := I.turned (fun b o hb e => kk b o (by simpa using hb) e) f0 f1 f3 f4 f5
    refine ⟨_, rfl, go_of (s := { s with heap := h', toks := tk }) (n := "range_iterator") st' rfl rfl (by decide) ⟨.int (lo + i), H, I1, ⟨t, ?_⟩, ⟨rfl, rfl⟩, st', fun b hb => (hf b hb).1⟩⟩
    rw [Int.mul_one]
  done := by
    intro X hP hw hK hc i pins s σ H E I hf st hg
    subst hP hw hK
    obtain ⟨f0, f1, f2, f3, f4, f5⟩ := hf it (by simp)
    exact wpAny_pyNext_range_end (I.ok.hd hc) st (by have : n ≤ i := hg; omega) fun h' eb => ⟨rfl, I.turned (t' := s.toks) (fun b o hb e => eb b o hb e) f0 f1 f3 f4 f5⟩
  self := fun _ _ _ _ _ st h => wpAny_pyIter_rangeiter st h
end L2
namespace L2
open PySem PySem.Spec PyProof.Rows
section
variable {X : Cx} {tg : Expr}
def iList (K : PySem.W.Frag) (tl : TE) : TI := fun σ H R => tl σ H fun x H1 => ∃ a, x = .ref a ∧ (∃ xs, SqL K H1 a xs) ∧ R (Itl K a) H1
def iTup (K : PySem.W.Frag) (tl : TE) : TI := fun σ H R => tl σ H fun x H1 => ∃ a, x = .ref a ∧ (∃ xs, SqT K H1 a xs) ∧ R (Itt K a) H1
theorem pi_list {l : Expr} {tl : TE} (hl : PE X l tl) : PI X tg l (iList X.K tl) := by
  intro pins s σ H R I h
  refine thn (hl pins s σ H _ I h) fun v s1 ⟨x, H1, I1, r1, q1⟩ => ?_
  obtain ⟨a, e, ⟨xs, hq⟩, q⟩ := q1
  subst e
  cases r1
  obtain ⟨its, rv, p, hz⟩ := I1.list hq
  refine wpAny_pyIter_list p.isList ?_
  refine ⟨s1.heap.objs.size, [s1.heap.objs.size], _, _, H1, rfl, I1.kept (t' := s1.toks) fun b o e => Heap.get?_push_of_some _ e, turn_list a _, ⟨_, Heap.get?_push_size _ rfl, rfl, rfl⟩, fun b hb => ?_, q⟩
  have e : b = s1.heap.objs.size := by simpa using hb
  subst e
  exact I1.fpOk (Nat.le_refl _) (I1.hok.fresh (Nat.le_refl _))
theorem pi_tup {l : Expr} {tl : TE} (hl : PE X l tl) : PI X tg l (iTup X.K tl) := by
  intro pins s σ H R I h
  refine thn (hl pins s σ H _ I h) fun v s1 ⟨x, H1, I1, r1, q1⟩ => ?_
  obtain ⟨a, e, ⟨xs, hq⟩, q⟩ := q1
  subst e
  cases r1
  obtain ⟨its, rv, p, hz⟩ := I1.tuple hq
  refine wpAny_pyIter_tuple (show s1.heap.IsTuple a its.toArray from p) ?_
  refine ⟨s1.heap.objs.size, [s1.heap.objs.size], _, _, H1, rfl, I1.kept (t' := s1.toks) fun b o e => Heap.get?_push_of_some _ e, turn_tuple a _, ⟨_, Heap.get?_push_size _ rfl, rfl, rfl⟩, fun b hb => ?_, q⟩
  have e : b = s1.heap.objs.size := by simpa using hb
  subst e
  exact I1.fpOk (Nat.le_refl _) (I1.hok.fresh (Nat.le_refl _))
theorem range_it {pins : List (Addr × Obj)} {σ : St} {H : Hp} {s : Shared} {R : It → Hp → Prop} {E : Value → Shared → Prop} {lo hi : Int} {t u v : Tok} {tk : Nat} (I : Inv X pins σ H s) (h1 : -(2 ^ 62) ≤ lo) (h2 : lo < 2 ^ 62) (h3 : -(2 ^ 62) ≤ hi) (h4 : hi < 2 ^ 62)
    (q : R (Itr lo (hi - lo).toNat) H) : wpAny (model X.prog X.w) X.A (pyIter (.ref s.heap.objs.size)) (PIE X pins σ tg R) E { s with heap := s.heap.push { cls := .type "range", data := .fields #[.int lo t, .int hi u, .int 1 v] }, toks := tk } := by
  refine wpAny_pyIter_range (IsRange.new ..) (small_one h1 h2 h3 h4) ?_
  have I1 : Inv X pins σ H { s with heap := s.heap.push { cls := .type "range", data := .fields #[.int lo t, .int hi u, .int 1 v] }, toks := tk } := I.kept fun b o e => Heap.get?_push_of_some _ e
  refine ⟨(s.heap.push { cls := .type "range", data := .fields #[.int lo t, .int hi u, .int 1 v] }).objs.size, [(s.heap.push { cls := .type "range", data := .fields #[.int lo t, .int hi u, .int 1 v] }).objs.size], _, _, H, rfl,
    I1.kept (t' := tk) fun b o e => Heap.get?_push_of_some _ e, turn_range _ lo (hi - lo).toNat, ?_, fun b hb => ?_, q⟩
  · have e1 : lo + ((0 : Nat) : Int) * 1 = lo := by simp
    have e2 : (((hi - lo).toNat : Nat) : Int) - ((0 : Nat) : Int) = Builtin.Range.rangeSize lo hi 1 := by rw [rangeSize_one]; split <;> omega
    show IsRangeIter _ _ (lo + ((0 : Nat) : Int) * 1) ((((hi - lo).toNat : Nat) : Int) - ((0 : Nat) : Int)) 1
    rw [e1, e2]
    exact Heap.get?_push_size _ rfl
  · have e : b = (s.heap.push { cls := .type "range", data := .fields #[.int lo t, .int hi u, .int 1 v] }).objs.size := by simpa using hb
    subst e
    exact I1.fpOk (Nat.le_refl _) (I1.hok.fresh (Nat.le_refl _))
def iRng1 (ta : TA) : TI := fun σ H R => ta σ H fun vs H1 => ∃ j : Int, vs = [.int j] ∧ -(2 ^ 62) ≤ j ∧ j < 2 ^ 62 ∧ R (Itr 0 j.toNat) H1
def iRng2 (ta : TA) : TI := fun σ H R => ta σ H fun vs H1 => ∃ i j : Int, vs = [.int i, .int j] ∧ (-(2 ^ 62) ≤ i ∧ i < 2 ^ 62 ∧ -(2 ^ 62) ≤ j ∧ j < 2 ^ 62) ∧ R (Itr i (j - i).toNat) H1
theorem pi_range1 {a : Expr} {ta : TA} {p pos : Pos} (hg : Gl X "range") (hm : X.mg "range" = none) (ha : PA X [a] ta) (hs : starEach [a] X.env = [(false, eval a X.env)] := by rfl) : PI X tg (.Call (.Name "range" p) [a] [] pos) (iRng1 ta) := by
  intro pins s σ H R I h
  refine Call_ (ld_blt I hg hm boot_range (PyProof.Rows.callWith_type1 (thn (ha pos pins s σ H _ I h) fun us s1 ⟨vs, H1, I1, r1, q1⟩ => ?_) hs rfl))
  obtain ⟨j, e, q1, q2, q⟩ := q1
  subst e
  cases r1 with
  | cons r rr =>
    cases rr
    obtain ⟨t, rfl⟩ := r
    exact call_range_1 (range_it I1 (by omega) (by omega) q1 q2 (by simpa using q))
theorem pi_range2 {a b : Expr} {ta : TA} {p pos : Pos} (hg : Gl X "range") (hm : X.mg "range" = none) (ha : PA X [a, b] ta) (hs : starEach [a, b] X.env = [(false, eval a X.env), (false, eval b X.env)] := by rfl) (hs2 : starEach [b] X.env = [(false, eval b X.env)] := by rfl) :
    PI X tg (.Call (.Name "range" p) [a, b] [] pos) (iRng2 ta) := by
  intro pins s σ H R I h
  refine Call_ (ld_blt I hg hm boot_range (PyProof.Rows.callWith_type1 (thn (ha pos pins s σ H _ I h) fun us s1 ⟨vs, H1, I1, r1, q1⟩ => ?_) (by rw [hs, hs2]) (by rw [hs2]; rfl)))
  obtain ⟨i, j, e, ⟨q1, q2, q3, q4⟩, q⟩ := q1
  subst e
  cases r1 with
  | cons r rr =>
    cases rr with
    | cons r' rr =>
      cases rr
      obtain ⟨t, rfl⟩ := r
      obtain ⟨t', rfl⟩ := r'
      exact call_range_2 (range_it I1 q1 q2 q3 q4 q)
def tFor (wi : TI) (g : TG) (tb : TS) : TS := fun D σ H => wi σ H fun J H1 => ∃ W : Nat → Nat → St → Hp → Prop, (∃ m, W 0 m σ H1) ∧ ∀ i m σ H, W i m σ H →
  (J.stop i H ∧ D.nx σ H) ∨ (J.go i H ∧ ∃ N : St → Hp → Prop, (∀ σ' H', N σ' H' → ∃ m', m' < m ∧ W (i + 1) m' σ' H') ∧ ∀ x H', J.yld i H x H' → g x σ H' fun σ2 H2 => tb { D with nx := N, ct := N, bk := D.nx } σ2 H2)
def pinsAt (fp : List Addr) (h : Heap) : List (Addr × Obj) := fp.filterMap fun b => (h.get? b).map fun o => (b, o)
theorem mem_pinsAt {fp : List Addr} {h : Heap} {b : Addr} {o : Obj} (hb : b ∈ fp) (e : h.get? b = some o) : (b, o) ∈ pinsAt fp h := List.mem_filterMap.mpr ⟨b, hb, by rw [e]; rfl⟩
theorem of_pinsAt {fp : List Addr} {h : Heap} {p : Addr × Obj} (hp : p ∈ pinsAt fp h) : p.1 ∈ fp ∧ h.get? p.1 = some p.2 := by
  obtain ⟨b, hb, e⟩ := List.mem_filterMap.mp hp
  cases q : h.get? b with
  | none => rw [q] at e; cases e
  | some o =>
    rw [q] at e
    have e' : (b, o) = p := Option.some.inj e
    subst e'
    exact ⟨hb, q⟩
theorem Inv.pinned {pins : List (Addr × Obj)} {σ : St} {H : Hp} {s : Shared} {fp : List Addr} (I : Inv X pins σ H s) (hf : ∀ b ∈ fp, FpOk X pins H b) (ho : ∀ b ∈ fp, ∃ o, s.heap.get? b = some o ∧ ∀ v, o.data ≠ .cell v) : Inv X (pins ++ pinsAt fp s.heap) σ H s :=
  I.pins_of fun p hp => (List.mem_append.mp hp).elim (fun z => I.pin p (List.mem_append_right _ z)) fun z => by
    obtain ⟨hb, e⟩ := of_pinsAt z
    obtain ⟨f0, f1, f2, _⟩ := hf p.1 hb
    obtain ⟨o, e', d⟩ := ho p.1 hb
    rw [e] at e'; cases e'
    exact ⟨e, f0, f1, f2, d⟩
theorem Inv.unpinned {pins pl : List (Addr × Obj)} {σ : St} {H : Hp} {s : Shared} (I : Inv X (pins ++ pl) σ H s) : Inv X pins σ H s := I.pins_of fun p hp => I.pin p (List.mem_append_right _ (List.mem_append_left _ hp))
theorem ps_for {iter : Expr} {body : List Stmt} {wi : TI} {g : TG} {tb : TS} {pos : Pos} (hp : PassesOwn (model X.prog X.w) X.A X.env X.xe) (hc : X.calm = true) (hi : PI X tg iter wi) (hg : PG X tg g) (hb : PSs X body tb)
    (hs : ∀ x, foldedSetIterable iter X.env x = pure x := by intro _; rfl) : PS X (.For tg iter body [] pos) (tFor wi g tb) := by
  intro pins s σ H D I h
  refine wpAny_For (thn (hi pins s σ H _ I h) fun v s1 h1 => thn h1 fun itv s2 h2 => ?_) hs
  obtain ⟨it, fp, tn, J, H2, e, I2, T, st2, f2, W, ⟨m0, w0⟩, turn⟩ := h2
  subst e
  have stat : ∀ {H' : Hp}, (∀ b ∈ fp, H' b = none) → ∀ b ∈ fp, FpOk X pins H' b := fun hn b hb => ⟨hn b hb, (f2 b hb).2⟩
  refine codeAny_forLoop_any (fun n s' => ∃ i σ' H', Inv X pins σ' H' s' ∧ tn i s'.heap ∧ (∀ b ∈ fp, H' b = none) ∧ W i n σ' H') ?_ m0 ⟨0, σ, H2, I2, st2, fun b hb => (f2 b hb).1, w0⟩
  rintro n s3 ⟨i, σ3, H3, I3, st3, fr3, w3⟩
  rcases turn i n σ3 H3 w3 with ⟨stop, qn⟩ | ⟨go, N, hN, step⟩
  · refine wpAny_passesOwn hp (thn (T.done X rfl rfl rfl hc i pins s3 σ3 H3 X.xe I3 (stat fr3) st3 stop) fun r s4 ⟨hr, I4⟩ => ?_)
    subst hr
    exact wpAny_execs_nil ⟨σ3, H3, I4, qn⟩
  · refine wpAny_passesOwn hp (thn (T.item X rfl rfl rfl hc i pins s3 σ3 H3 X.xe I3 (stat fr3) st3 go) fun r s4 ⟨u, hr, h4⟩ => ?_)
    subst hr
    refine wpAny_passesOwn hp (thn h4 fun _ s5 ⟨x, H5, I5, r5, y5, st5, fr5⟩ => ?_)
    have I5' := I5.pinned (stat fr5) (T.obj _ _ st5)
    refine wpAny_passesOwn hp (thn (hg _ s5 σ3 H5 x u _ I5' r5 (step x H5 y5)) fun _ s6 ⟨σ6, H6, I6, q6⟩ => ?_)
    refine wpAny_passesOwn hp (thn (hb _ s6 σ6 H6 _ I6 q6) fun f s7 q7 => ?_)
    have again : ∀ {σ7 : St} {H7 : Hp}, Inv X (pins ++ pinsAt fp s5.heap) σ7 H7 s7 → N σ7 H7 → ∃ m, m < n ∧ ∃ i σ' H', Inv X pins σ' H' s7 ∧ tn i s7.heap ∧ (∀ b ∈ fp, H' b = none) ∧ W i m σ' H' := fun {σ7 H7} I7 n7 => by
      obtain ⟨m', hm, w7⟩ := hN σ7 H7 n7
      refine ⟨m', hm, i + 1, σ7, H7, I7.unpinned, T.keep _ _ _ st5 fun b hb o e => (I7.pin (b, o) (List.mem_append_right _ (List.mem_append_right _ (mem_pinsAt hb e)))).1, fun b hb => ?_, w7⟩
      obtain ⟨o, e, d⟩ := T.obj _ _ st5 b hb
      exact (I7.pin (b, o) (List.mem_append_right _ (List.mem_append_right _ (mem_pinsAt hb e)))).2.1
    cases f with
    | next => obtain ⟨σ7, H7, I7, n7⟩ := q7; exact again I7 n7
    | cont => obtain ⟨σ7, H7, I7, n7⟩ := q7; exact again I7 n7
    | brk => obtain ⟨σ7, H7, I7, q7⟩ := q7; exact ⟨σ7, H7, I7.unpinned, q7⟩
    | ret v => obtain ⟨x7, σ7, H7, I7, r7, q7⟩ := q7; exact ⟨x7, σ7, H7, I7.unpinned, r7, q7⟩
end
theorem for_list {K : PySem.W.Frag} {a : Addr} {xs : List V} {g : TG} {tb : TS} {D : Ends} {σ : St} {H : Hp} (Pv : Nat → St → Hp → Prop) (h0 : Pv 0 σ H) (hl : ∀ i σ H, i ≤ xs.length → Pv i σ H → SqL K H a xs)
    (hs : ∀ i x σ H, xs[i]? = some x → Pv i σ H → g x σ H fun σ2 H2 => tb { D with nx := Pv (i + 1), ct := Pv (i + 1), bk := D.nx } σ2 H2) (hd : ∀ σ H, Pv xs.length σ H → D.nx σ H) :
    ∃ W : Nat → Nat → St → Hp → Prop, (∃ m, W 0 m σ H) ∧ ∀ i m σ H, W i m σ H →
      ((Itl K a).stop i H ∧ D.nx σ H) ∨ ((Itl K a).go i H ∧ ∃ N : St → Hp → Prop, (∀ σ' H', N σ' H' → ∃ m', m' < m ∧ W (i + 1) m' σ' H') ∧ ∀ x H', (Itl K a).yld i H x H' → g x σ H' fun σ2 H2 => tb { D with nx := N, ct := N, bk := D.nx } σ2 H2) := by
  refine ⟨fun i m σ H => m = xs.length - i ∧ i ≤ xs.length ∧ Pv i σ H, ⟨xs.length, by simp, Nat.zero_le _, h0⟩, ?_⟩
  rintro i m σ H ⟨rfl, hi, p⟩
  have q := hl i σ H hi p
  by_cases hlt : i < xs.length
  · refine .inr ⟨⟨xs, xs[i], q, by simp [hlt]⟩, Pv (i + 1), fun σ' H' p' => ⟨xs.length - (i + 1), by omega, rfl, hlt, p'⟩, fun x H' y => ?_⟩
    obtain ⟨e, y⟩ := y
    subst e
    exact hs i x σ _ (y xs q) p
  · have e : i = xs.length := by omega
    subst e
    exact .inl ⟨⟨xs, q, Nat.le_refl _⟩, hd σ H p⟩
theorem for_range {lo : Int} {n : Nat} {g : TG} {tb : TS} {D : Ends} {σ : St} {H : Hp} (Pv : Nat → St → Hp → Prop) (h0 : Pv 0 σ H)
    (hs : ∀ i σ H, i < n → Pv i σ H → g (.int (lo + i)) σ H fun σ2 H2 => tb { D with nx := Pv (i + 1), ct := Pv (i + 1), bk := D.nx } σ2 H2) (hd : ∀ σ H, Pv n σ H → D.nx σ H) :
    ∃ W : Nat → Nat → St → Hp → Prop, (∃ m, W 0 m σ H) ∧ ∀ i m σ H, W i m σ H →
      ((Itr lo n).stop i H ∧ D.nx σ H) ∨ ((Itr lo n).go i H ∧ ∃ N : St → Hp → Prop, (∀ σ' H', N σ' H' → ∃ m', m' < m ∧ W (i + 1) m' σ' H') ∧ ∀ x H', (Itr lo n).yld i H x H' → g x σ H' fun σ2 H2 => tb { D with nx := N, ct := N, bk := D.nx } σ2 H2) := by
  refine ⟨fun i m σ H => m = n - i ∧ i ≤ n ∧ Pv i σ H, ⟨n, by simp, Nat.zero_le _, h0⟩, ?_⟩
  rintro i m σ H ⟨rfl, hi, p⟩
  by_cases hlt : i < n
  · refine .inr ⟨hlt, Pv (i + 1), fun σ' H' p' => ⟨n - (i + 1), by omega, rfl, hlt, p'⟩, fun x H' y => ?_⟩
    obtain ⟨e, y⟩ := y
    subst e y
    exact hs i σ _ hlt p
  · have e : i = n := by omega
    subst e
    exact .inl ⟨Nat.le_refl _, hd σ H p⟩
end L2
namespace L2
open PySem PySem.Spec PyProof.Rows
abbrev R2 := V → V → Hp → VK → Prop
def OpR (X : Cx) (f : Value → Value → Sem Value) (r : R2) : Prop :=
  ∀ (pins : List (Addr × Obj)) (s : Shared) (σ : St) (H : Hp) (x y : V) (v u : Value) (Q : VK), Inv X pins σ H s → RelV x v → RelV y u → r x y H Q →
    wpAny (model X.prog X.w) X.A (f v u) (EP X pins σ Q) X.xe s
def UnR (X : Cx) (f : Value → Sem Value) (r : V → Hp → VK → Prop) : Prop :=
  ∀ (pins : List (Addr × Obj)) (s : Shared) (σ : St) (H : Hp) (x : V) (v : Value) (Q : VK), Inv X pins σ H s → RelV x v → r x H Q →
    wpAny (model X.prog X.w) X.A (f v) (EP X pins σ Q) X.xe s
def CallR (X : Cx) (f : Value) (r : List V → Hp → VK → Prop) : Prop :=
  ∀ (pins : List (Addr × Obj)) (s : Shared) (σ : St) (H : Hp) (xs : List V) (us : List Value) (Q : VK), Inv X pins σ H s → Vals xs us → r xs H Q →
    wpAny (model X.prog X.w) X.A (call f us) (EP X pins σ Q) X.xe s
def tOp (r : R2) (ta tb : TE) : TE := fun σ H Q => ta σ H fun x H1 => tb σ H1 fun y H2 => r x y H2 Q
def tUn (r : V → Hp → VK → Prop) (ta : TE) : TE := fun σ H Q => ta σ H fun x H1 => r x H1 Q
def rI (C : Int → Int → Prop) (g : Int → Int → V) : R2 := fun x y H Q => ∃ i j, x = .int i ∧ y = .int j ∧ C i j ∧ Q (g i j) H
def rI0 (g : Int → Int → V) : R2 := fun x y H Q => ∃ i j, x = .int i ∧ y = .int j ∧ Q (g i j) H
def rU (g : Int → V) : V → Hp → VK → Prop := fun x H Q => ∃ i, x = .int i ∧ Q (g i) H
section
variable {X : Cx} {a b c : Expr} {ta tb tc : TE} {pos : Pos}
theorem binT (ha : PE X a ta) (hb : PE X b tb) {pins : List (Addr × Obj)} {s : Shared} {σ : St} {H : Hp} {R : V → V → Hp → Prop} (I : Inv X pins σ H s)
    (h : ta σ H fun x H1 => tb σ H1 fun y H2 => R x y H2) {Q : Value → Shared → Prop} {f : Value → Value → Sem Value}
    (hf : ∀ v u s2 x y H2, Inv X pins σ H2 s2 → RelV x v → RelV y u → R x y H2 → wpAny (model X.prog X.w) X.A (f v u) Q X.xe s2) :
    wpAny (model X.prog X.w) X.A (eval a X.env) (fun v s₁ => wpAny (model X.prog X.w) X.A (eval b X.env) (fun u s₂ => wpAny (model X.prog X.w) X.A (f v u) Q X.xe s₂) X.xe s₁) X.xe s := by
  refine thn (ha pins s σ H _ I h) fun v s1 ⟨x, H1, I1, r1, q1⟩ => ?_
  refine thn (hb pins s1 σ H1 _ I1 q1) fun u s2 ⟨y, H2, I2, r2, q2⟩ => ?_
  exact hf v u s2 x y H2 I2 r1 r2 q2
theorem pe_op {op : Operator} {r : R2} (ho : OpR X (binaryOp op) r) (ha : PE X a ta) (hb : PE X b tb) : PE X (.BinOp a op b pos) (tOp r ta tb) := by
  intro pins s σ H Q I h
  exact wpAny_BinOp (binT ha hb I h fun v u s2 x y H2 I2 rx ry q => ho pins s2 σ H2 x y v u Q I2 rx ry q)
theorem pe_un {op : UnaryOp} {r : V → Hp → VK → Prop} (ho : UnR X (unaryOp op) r) (ha : PE X a ta) : PE X (.UnaryOp op a pos) (tUn r ta) := by
  intro pins s σ H Q I h
  exact UnaryOp_ (thn (ha pins s σ H _ I h) fun v s1 ⟨x, H1, I1, r1, q1⟩ => ho pins s1 σ H1 x v Q I1 r1 q1)
theorem opI {f : Value → Value → Sem Value} {C : Int → Int → Prop} {g : Int → Int → Int}
    (rule : ∀ (i j : Int) (t u : Tok) (s : Shared) (Q : Value → Shared → Prop) (E : Value → Shared → Prop), C i j → Q (.int (g i j) s.toks) { s with toks := s.toks + 1 } → wpAny (model X.prog X.w) X.A (f (.int i t) (.int j u)) Q E s) :
    OpR X f (rI C fun i j => .int (g i j)) := by
  intro pins s σ H x y v u Q I rx ry h
  obtain ⟨i, j, rfl, rfl, hc, q⟩ := h
  obtain ⟨t, rfl⟩ := rx
  obtain ⟨t', rfl⟩ := ry
  exact rule i j t t' s _ _ hc ⟨.int (g i j), H, I.tok _, ⟨_, rfl⟩, q⟩
theorem opI0 {f : Value → Value → Sem Value} {g : Int → Int → Int}
    (rule : ∀ (i j : Int) (t u : Tok) (s : Shared) (Q : Value → Shared → Prop) (E : Value → Shared → Prop), Q (.int (g i j) s.toks) { s with toks := s.toks + 1 } → wpAny (model X.prog X.w) X.A (f (.int i t) (.int j u)) Q E s) :
    OpR X f (rI0 fun i j => .int (g i j)) := by
  intro pins s σ H x y v u Q I rx ry h
  obtain ⟨i, j, rfl, rfl, q⟩ := h
  obtain ⟨t, rfl⟩ := rx
  obtain ⟨t', rfl⟩ := ry
  exact rule i j t t' s _ _ ⟨.int (g i j), H, I.tok _, ⟨_, rfl⟩, q⟩
theorem opB0 {f : Value → Value → Sem Value} {g : Int → Int → Bool}
    (rule : ∀ (i j : Int) (t u : Tok) (s : Shared) (Q : Value → Shared → Prop) (E : Value → Shared → Prop), Q (.bool (g i j)) s → wpAny (model X.prog X.w) X.A (f (.int i t) (.int j u)) Q E s) :
    OpR X f (rI0 fun i j => .bl (g i j)) := by
  intro pins s σ H x y v u Q I rx ry h
  obtain ⟨i, j, rfl, rfl, q⟩ := h
  obtain ⟨t, rfl⟩ := rx
  obtain ⟨t', rfl⟩ := ry
  exact rule i j t t' s _ _ ⟨.bl (g i j), H, I, rfl, q⟩
def CDiv (i j : Int) : Prop := 0 < j ∧ j < 1073741824
def CPow (i j : Int) : Prop := 0 ≤ j ∧ j ≤ 1000000 ∧ i.natAbs < 2 ^ 64
def CMul (i j : Int) : Prop := (-(2 ^ 64) < i ∧ i < 2 ^ 64) ∨ (-(2 ^ 64) < j ∧ j < 2 ^ 64)
theorem CMul.ok {i j : Int} (h : CMul i j) : IntMulOk i j := by
  rcases h with ⟨h1, h2⟩ | ⟨h1, h2⟩
  · exact .of_left (intBits_le_64 h1 h2)
  · exact .of_right (intBits_le_64 h1 h2)
theorem op_add : OpR X (binaryOp .Add) (rI0 fun i j => .int (i + j)) := opI0 fun _ _ _ _ _ _ _ q => add_int q
theorem op_sub : OpR X (binaryOp .Sub) (rI0 fun i j => .int (i - j)) := opI0 fun _ _ _ _ _ _ _ q => sub_int q
theorem op_mul : OpR X (binaryOp .Mult) (rI CMul fun i j => .int (i * j)) := opI fun _ _ _ _ _ _ _ hc q => mul_int q hc.ok
theorem op_fdiv : OpR X (binaryOp .FloorDiv) (rI CDiv fun i j => .int (i / j)) := opI fun i j _ _ _ _ _ hc q => by
  have h1 : (0 : Int) < j := hc.1
  have h2 : j < 1073741824 := hc.2
  exact floordiv_int (by omega) (by rw [Int.fdiv_eq_ediv_of_nonneg i (by omega)]; exact q) (.inl (PyProof.noPylong_small (by omega)))
theorem op_mod : OpR X (binaryOp .Mod) (rI (fun _ j => 0 < j) fun i j => .int (i % j)) := opI fun i j _ _ _ _ _ hc q => by
  have h1 : (0 : Int) < j := hc
  exact mod_int' (by omega) (by rw [Int.fmod_eq_emod_of_nonneg i (by omega)]; exact q)
theorem op_pow : OpR X (binaryOp .Pow) (rI CPow fun i j => .int (i ^ j.toNat)) := opI fun _ _ _ _ _ _ _ hc q => pow_int_small hc.1 hc.2.1 hc.2.2 q
theorem op_xor : OpR X (binaryOp .BitXor) (rI0 fun i j => .int (Builtin.bitXor i j)) := opI0 fun _ _ _ _ _ _ _ q => xor_int q
theorem unI {f : Value → Sem Value} {g : Int → Int}
    (rule : ∀ (i : Int) (t : Tok) (s : Shared) (Q : Value → Shared → Prop) (E : Value → Shared → Prop), Q (.int (g i) s.toks) { s with toks := s.toks + 1 } → wpAny (model X.prog X.w) X.A (f (.int i t)) Q E s) :
    UnR X f (rU fun i => .int (g i)) := by
  intro pins s σ H x v Q I rx h
  obtain ⟨i, rfl, q⟩ := h
  obtain ⟨t, rfl⟩ := rx
  exact rule i t s _ _ ⟨.int (g i), H, I.tok _, ⟨_, rfl⟩, q⟩
theorem un_neg : UnR X (unaryOp .USub) (rU fun i => .int (-i)) := unI fun _ _ _ _ _ q => neg_int q
end
section
variable {X : Cx} {a b c : Expr} {ta tb tc : TE} {pos : Pos}
theorem op_lt : OpR X (compareOp .Lt) (rI0 fun i j => .bl (decide (i < j))) := opB0 fun _ _ _ _ _ _ _ q => lt_int q
theorem op_le : OpR X (compareOp .LtE) (rI0 fun i j => .bl (decide (i ≤ j))) := opB0 fun _ _ _ _ _ _ _ q => le_int q
theorem op_gt : OpR X (compareOp .Gt) (rI0 fun i j => .bl (decide (j < i))) := opB0 fun _ _ _ _ _ _ _ q => gt_int q
theorem op_ge : OpR X (compareOp .GtE) (rI0 fun i j => .bl (decide (j ≤ i))) := opB0 fun _ _ _ _ _ _ _ q => ge_int q
theorem nomark (b : Expr) {op : CmpOp} (h : op ≠ .In := by decide) (h2 : op ≠ .NotIn := by decide) : behindInMarks op b = false := by
  have e1 : (op == CmpOp.In) = false := by cases op <;> first | rfl | exact absurd rfl h
  have e2 : (op == CmpOp.NotIn) = false := by cases op <;> first | rfl | exact absurd rfl h2
  cases b <;> simp [behindInMarks, e1, e2]
def tTest (t : TE) : TT := fun σ H Q => t σ H fun x H' => ∃ k, x = .bl k ∧ Q k H'
theorem pt_cmpR {op : CmpOp} {r : R2} (ho : OpR X (compareOp op) r) (ha : PE X a ta) (hb : PE X b tb) (hm : behindInMarks op b = false) : PT X (.Compare a [op] [b] pos) (tTest (tOp r ta tb)) := by
  intro pins s σ H Q I h
  refine wpAny_isTrue_Compare1 (thn (ha pins s σ H _ I h) fun v s1 ⟨x, H1, I1, r1, q1⟩ => thn (hb pins s1 σ H1 _ I1 q1) fun u s2 ⟨y, H2, I2, r2, q2⟩ =>
    thn (ho pins s2 σ H2 x y v u _ I2 r1 r2 q2) fun c s3 ⟨z, H3, I3, r3, k, e, q3⟩ => ?_) hm
  subst e
  cases r3
  exact wpAny_truthy_bool ⟨H3, I3, q3⟩
def tChain (r r' : R2) (ta tb tc : TE) : TE := fun σ H Q => ta σ H fun x H1 => tb σ H1 fun y H2 => r x y H2 fun z H3 => ∃ k, z = .bl k ∧
  (if k = true then tc σ H3 fun w' H4 => r' y w' H4 Q else Q (.bl false) H3)
theorem pe_chain {op op' : CmpOp} {r r' : R2} (ho : OpR X (compareOp op) r) (ho' : OpR X (compareOp op') r') (ha : PE X a ta) (hb : PE X b tb) (hc : PE X c tc)
    (hm : lastMarks [op, op'] [b, c] = false := by with_unfolding_all rfl) : PE X (.Compare a [op, op'] [b, c] pos) (tChain r r' ta tb tc) := by
  intro pins s σ H Q I h
  refine Compare_chain (thn (ha pins s σ H _ I h) fun v s1 ⟨x, H1, I1, r1, q1⟩ => chain_link (thn (hb pins s1 σ H1 _ I1 q1) fun u s2 ⟨y, H2, I2, r2, q2⟩ =>
    thn (ho pins s2 σ H2 x y v u _ I2 r1 r2 q2) fun d s3 ⟨z, H3, I3, r3, k, e, q3⟩ => ?_)) hm
  subst e
  cases r3
  refine wpAny_truthy_bool ?_
  cases k with
  | false => exact ite_ff ⟨.bl false, H3, I3, rfl, q3⟩
  | true => exact ite_tt (chain_last (thn (hc pins s3 σ H3 _ I3 q3) fun w' s4 ⟨z', H4, I4, r4, q4⟩ => ho' pins s4 σ H4 y z' u w' Q I4 r2 r4 q4))
theorem line63 : (sizeLine : Nat) < 2 ^ 63 := by rw [sizeLine_eq]; decide
theorem vals1 {x : V} {us : List Value} (r : Vals [x] us) : ∃ u, us = [u] ∧ RelV x u := by
  cases r with
  | cons r1 r2 => cases r2; exact ⟨_, rfl, r1⟩
theorem vals2 {x y : V} {us : List Value} (r : Vals [x, y] us) : ∃ u w', us = [u, w'] ∧ RelV x u ∧ RelV y w' := by
  cases r with
  | cons r1 r2 =>
    cases r2 with
    | cons r3 r4 => cases r4; exact ⟨_, _, rfl, r1, r3⟩
theorem call_max2 (hc : X.calm = true) : CallR X (.builtin "max") (fun xs H Q => ∃ i j, xs = [.int i, .int j] ∧ Q (.int (if j > i then j else i)) H) := by
  intro pins s σ H xs us Q I r h
  obtain ⟨i, j, rfl, q⟩ := h
  obtain ⟨u, w', rfl, ⟨t, rfl⟩, ⟨t', rfl⟩⟩ := vals2 r
  refine max_two_ints (I.ok.hd hc) fun h' tk k => ⟨_, H, I.kept k, ?_, q⟩
  by_cases hj : j > i
  · rw [if_pos hj, if_pos hj]; exact ⟨_, rfl⟩
  · rw [if_neg hj, if_neg hj]; exact ⟨_, rfl⟩
theorem call_min2 (hc : X.calm = true) : CallR X (.builtin "min") (fun xs H Q => ∃ i j, xs = [.int i, .int j] ∧ Q (.int (if j < i then j else i)) H) := by
  intro pins s σ H xs us Q I r h
  obtain ⟨i, j, rfl, q⟩ := h
  obtain ⟨u, w', rfl, ⟨t, rfl⟩, ⟨t', rfl⟩⟩ := vals2 r
  refine min_two_ints (I.ok.hd hc) fun h' tk k => ⟨_, H, I.kept k, ?_, q⟩
  by_cases hj : j < i
  · rw [if_pos hj, if_pos hj]; exact ⟨_, rfl⟩
  · rw [if_neg hj, if_neg hj]; exact ⟨_, rfl⟩
theorem call_int1 : CallR X (.type "int") (fun xs H Q => (∃ i, xs = [.int i] ∧ Q (.int i) H) ∨ ∃ k, xs = [.bl k] ∧ Q (.int (if k then 1 else 0)) H) := by
  intro pins s σ H xs us Q I r h
  rcases h with ⟨i, rfl, q⟩ | ⟨k, rfl, q⟩
  · obtain ⟨u, rfl, t, rfl⟩ := vals1 r
    exact call_int_int ⟨.int i, H, I, ⟨_, rfl⟩, q⟩
  · obtain ⟨u, rfl, r1⟩ := vals1 r
    cases r1
    exact call_int_bool ⟨.int (if k then 1 else 0), H, I.tok _, ⟨_, rfl⟩, q⟩
end
end L2
namespace L2
open PySem PySem.Spec PyProof.Rows
structure ObjM (h : Heap) (x dx C : Addr) (mA : Str → Option Value) : Prop where
  obj : h.get? x = some (PySem.W.instObj C dx)
  ns : h.Ns1 dx mA
  ne : dx ≠ x
theorem lookIn_ns {h : Heap} {dx : Addr} {mA : Str → Option Value} (n : h.Ns1 dx mA) : ∃ od, h.get? dx = some od ∧ ∀ name, PySem.W.lookIn name od = some (mA name) := by
  obtain ⟨o, es, ep, ho, hd, hk, _, hm⟩ := n
  refine ⟨o, ho, fun name => ?_⟩
  have e := hm name
  unfold nsFind findBy at e
  rw [← Array.find?_toList] at e
  unfold PySem.W.lookIn
  rw [hd]
  dsimp only
  split
  · rename_i y q
    rw [q] at e
    exact congrArg some e
  · rename_i q
    rw [q] at e
    have a : es.toList.any (·.refKey) = false := by
      rw [List.any_eq_false]
      intro y hy
      obtain ⟨z, t, hkey⟩ := hk y (Array.mem_toList_iff.mp hy)
      simp [DictEntry.refKey, hkey]
    have a' : ¬ es.toList.any (·.refKey) = true := by rw [a]; exact Bool.false_ne_true
    rw [if_neg a']
    exact congrArg some e
theorem ObjM.look {h : Heap} {x dx C : Addr} {mA : Str → Option Value} (I : ObjM h x dx C mA) : ∃ od, PySem.W.InstAt h x (PySem.W.instObj C dx) C (some od) ∧ ∀ name, PySem.W.lookIn name od = some (mA name) :=
  let ⟨od, ho, hl⟩ := lookIn_ns I.ns
  ⟨od, ⟨I.obj, rfl, rfl, ho⟩, hl⟩
section
variable {prog : Program} {w : World} {A : Around} {E : Value → Shared → Prop} {s : Shared} {K : PySem.W.Frag} {x dx C f : Addr} {mA : Str → Option Value} {name : Str} {v : Value}
end
section
variable {P : Program} {w : World} {H H' : Hp} {h h' : Heap} {a C dx : Addr} {fs fs' : List (Str × V)}
theorem ins_get (hok : HOk P w H h) (e : H a = some (.ins C dx fs)) : ∃ mA, ObjM h a dx C mA ∧ (∀ f, RelO (fs.lookup f) (mA f)) ∧ PySem.Within mA (fs.map (·.1)) ∧ fs.length ≤ 1000 ∧ H dx = some (.own a) := by
  obtain ⟨d, z, ne, ob, mA, n, r, q⟩ := (show ObjOk P w H h a (.ins C dx fs) from hok a _ e)
  exact ⟨mA, ⟨ob, n, ne⟩, r, q, z, d⟩
end
structure Cls (K : PySem.W.Frag) (C : Addr) : Prop where
  pg : PySem.W.plainGet K C Str.empty = true
  hd : PySem.W.hasDictIn K C = true
  po : PySem.W.plainOver K C = true
  sa : PySem.W.findIn K (.ref C) "__setattr__" = some (some (.builtin "object.__setattr__"))
theorem Cls.get {K : PySem.W.Frag} {C : Addr} (c : Cls K C) (f : Str) : PySem.W.plainGet K C f = true := c.pg
structure Con (K : PySem.W.Frag) (C : Addr) (f : Str) (v : V) (u : Value) : Prop where
  at_ : PySem.W.findIn K (.ref C) f = some (some u)
  rel : RelV v u
  get : PySem.W.specialIn K u "__get__" = some none
  cp : PySem.W.copiedNames.contains f = false
structure Meth (K : PySem.W.Frag) (C : Addr) (m : Str) (f : Addr) : Prop where
  at_ : PySem.W.findIn K (.ref C) m = some (some (.ref f))
  fn : PySem.W.isFn K (.ref f) = true
  kp : PySem.W.keepIn K (.ref f) = true
section
variable {X : Cx} {pins : List (Addr × Obj)} {σ : St} {H : Hp} {s : Shared} {a C dx : Addr} {fs : List (Str × V)} {f : Str} {v : V} {A : Around} {E : Value → Shared → Prop}
theorem Inv.made (I : Inv X pins σ H s) : Inv X pins σ (upd (upd H s.heap.objs.size (.own (s.heap.objs.size + 1))) (s.heap.objs.size + 1) (.ins C s.heap.objs.size []))
    { s with heap := (s.heap.push PySem.W.emptyDict).push (PySem.W.instObj C s.heap.objs.size) } := by
  have e1 : (s.heap.push PySem.W.emptyDict).get? s.heap.objs.size = some PySem.W.emptyDict := Heap.get?_push_size s.heap rfl
  have e2 : ((s.heap.push PySem.W.emptyDict).push (PySem.W.instObj C s.heap.objs.size)).get? (s.heap.objs.size + 1) = some (PySem.W.instObj C s.heap.objs.size) := by
    have := Heap.get?_push_size (s.heap.push PySem.W.emptyDict) (o := PySem.W.instObj C s.heap.objs.size) rfl
    rwa [Heap.size_push] at this
  have e3 : (s.heap.push PySem.W.emptyDict).Ns s.heap.objs.size (fun _ => none) := ⟨PySem.W.emptyDict, #[], _, e1, rfl, (fun e he => absurd he (by simp)), fun _ => rfl⟩
  have I1 := I.laid (a := s.heap.objs.size) (o := .own (s.heap.objs.size + 1)) (h' := s.heap.push PySem.W.emptyDict) (t' := s.toks) (fun b u q => Heap.get?_push_of_some _ q) (Nat.le_refl _) ⟨_, e1⟩
  refine I1.laid (a := s.heap.objs.size + 1) (o := .ins C s.heap.objs.size []) (t' := s.toks) (fun b u q => Heap.get?_push_of_some _ q) (Nat.le_of_eq (Heap.size_push _ _)) ?_
  have ne : s.heap.objs.size ≠ s.heap.objs.size + 1 := Nat.ne_of_lt (Nat.lt_succ_self _)
  refine ⟨by rw [upd_ne ne, upd_same], Nat.zero_le _, ne, e2, fun _ => none, (Heap.Ns1.of_empty e3).at fun o q => Heap.get?_push_of_some _ q, fun _ => True.intro, fun y hy => absurd rfl hy⟩
end
section
variable {X : Cx} {o e value : Expr} {f : Str} {pos pos' tpos : Pos} {ta tv : TE}
end
section
variable {X : Cx} {pins : List (Addr × Obj)} {σ : St} {H : Hp} {s : Shared} {A : Around} {E : Value → Shared → Prop} {Q : Value → Shared → Prop} {c : Value} {b : Bool}
inductive TyOf (K : PySem.W.Frag) (H : Hp) : V → Value → Prop where
  | non : TyOf K H .non (.type "NoneType")
  | bl (x : Bool) : TyOf K H (.bl x) (.type "bool")
  | int (i : Int) : TyOf K H (.int i) (.type "int")
  | str (x : Str) : TyOf K H (.str x) (.type "str")
  | flt (x : UInt64) : TyOf K H (.flt x) (.type "float")
  | lst {a : Addr} {xs : List V} (e : H a = some (.lst xs)) : TyOf K H (.ref a) (.type "list")
  | frz {a : Addr} {o : Obj} {xs : List V} (e : H a = some (.frz o (.lst xs))) : TyOf K H (.ref a) (.type "list")
  | tup {a : Addr} {xs : List V} (e : H a = some (.tup xs)) : TyOf K H (.ref a) (.type "tuple")
  | dK {a : Addr} {kvs : List (Key × V)} (e : H a = some (.dK kvs)) : TyOf K H (.ref a) (.type "dict")
  | dT {a : Addr} {kvs : List (List Key × V)} (e : H a = some (.dT kvs)) : TyOf K H (.ref a) (.type "dict")
  | ins {a C dx : Addr} {fs : List (Str × V)} (e : H a = some (.ins C dx fs)) (cl : Cls K C) (ha : PySem.W.findIn K (.ref C) "__class__" = some (some (.builtin "object.__class__")))
      (hn : PySem.W.specialIn K (.builtin "object.__class__") "__get__" = some (some (.builtin "getset_descriptor.__get__"))) (htk : PySem.W.takesIn K (.builtin "object.__class__") = some true)
      (hm : PySem.W.mroIn K C (.type "object") = some true) : TyOf K H (.ref a) (.ref C)
theorem isinst_ok {x : V} {u t : Value} (I : Inv X pins σ H s) (rx : RelV x u) (ty : TyOf X.K H x t) (e : PySem.W.kitOne X.K t c = some b) (h : ∀ tk, Q (.bool b) { s with toks := tk }) :
    wpAny (model X.prog X.w) A (call (.builtin "isinstance") [u, c]) Q E s := by
  cases ty with
  | non => cases (show u = Value.none from rx); exact PySem.W.kia_one PySem.W.kitx_none I.kIn True.intro e (fun z => nomatch z) h
  | bl y => cases (show u = Value.bool y from rx); exact PySem.W.kia_one PySem.W.kitx_bool I.kIn True.intro e (fun z => nomatch z) h
  | int i => obtain ⟨t, q⟩ := (show ∃ t, u = Value.int i t from rx); cases q; exact PySem.W.kia_one PySem.W.kitx_int I.kIn True.intro e (fun z => nomatch z) h
  | str y => obtain ⟨t, q⟩ := (show ∃ t, u = Value.str y t from rx); cases q; exact PySem.W.kia_one PySem.W.kitx_str I.kIn True.intro e (fun z => nomatch z) h
  | flt y => obtain ⟨t, q⟩ := (show ∃ t, u = Value.float y t from rx); cases q; exact PySem.W.kia_one PySem.W.kitx_float I.kIn True.intro e (fun z => nomatch z) h
  | @lst a xs ea =>
    cases (show u = Value.ref a from rx)
    obtain ⟨_, _, n, _, h1⟩ := (show ObjOk X.prog X.w H s.heap a (.lst xs) from I.hok a _ ea)
    exact PySem.W.kia_one PySem.W.kitx_list I.kIn ⟨_, h1, rfl⟩ e (fun z => nomatch z) h
  | @frz a ob xs ea =>
    cases (show u = Value.ref a from rx)
    obtain ⟨_, _, _, n, _, h1⟩ := (show ObjOk X.prog X.w H s.heap a (.frz ob (.lst xs)) from I.hok a _ ea)
    exact PySem.W.kia_one PySem.W.kitx_list I.kIn ⟨_, h1, rfl⟩ e (fun z => nomatch z) h
  | @tup a xs ea =>
    cases (show u = Value.ref a from rx)
    obtain ⟨_, _, _, p⟩ := (show ObjOk X.prog X.w H s.heap a (.tup xs) from I.hok a _ ea)
    obtain ⟨o, h1, h2, _⟩ := p
    exact PySem.W.kia_one PySem.W.kitx_tuple I.kIn ⟨o, h1, h2⟩ e (fun z => nomatch z) h
  | @dK a kvs ea =>
    cases (show u = Value.ref a from rx)
    obtain ⟨_, _, vs, _, p⟩ := (show ObjOk X.prog X.w H s.heap a (.dK kvs) from I.hok a _ ea)
    obtain ⟨o, es, ep, h1, h2, _⟩ := p
    exact PySem.W.kia_one PySem.W.kitx_dict I.kIn ⟨o, h1, h2.1⟩ e (fun z => nomatch z) h
  | @dT a kvs ea =>
    cases (show u = Value.ref a from rx)
    obtain ⟨_, _, xs, _, o, es, ep, h1, h2, _⟩ := (show ObjOk X.prog X.w H s.heap a (.dT kvs) from I.hok a _ ea)
    exact PySem.W.kia_one PySem.W.kitx_dict I.kIn ⟨o, h1, h2.1⟩ e (fun z => nomatch z) h
  | @ins a C dx fs ea cl ha hn htk hm =>
    cases (show u = Value.ref a from rx)
    obtain ⟨mA, O, _⟩ := ins_get I.hok ea
    obtain ⟨od, J, _⟩ := O.look
    exact PySem.W.kia_one (PySem.W.kitx_own (cl.get _) cl.hd ha hn htk hm) I.kIn J e (fun z => nomatch z) h
end
end L2
namespace L2
open PySem PySem.Spec PyProof.Rows
structure Room (k : Nat) (A : Around) : Prop where
  hd : A.handled = none
  dp : A.depth + 3 * k + 5 < recursionLimit
  un : A.units + 16 * k + 200 < cLine
theorem Room.mono {j k : Nat} {A : Around} (r : Room k A) (h : j ≤ k) : Room j A := ⟨r.hd, by have := r.dp; omega, by have := r.un; omega⟩
theorem Room.deeper {k : Nat} {A : Around} (r : Room (k + 1) A) (env : Env) : Room k (A.deeper env) :=
  ⟨r.hd, by have := r.dp; show A.depth + 1 + 3 * k + 5 < _; omega, by have := r.un; show A.units + 3 + 16 * k + 200 < _; omega⟩
theorem Room.in1 {k : Nat} {A : Around} (r : Room (k + 1) A) : Room k A.in1 :=
  ⟨r.hd, by have := r.dp; show A.depth + 3 * k + 5 < _; omega, by have := r.un; show A.units + 1 + 16 * k + 200 < _; omega⟩
theorem Room.depth {k : Nat} {A : Around} (r : Room k A) : A.depth < recursionLimit := by have := r.dp; omega
theorem Room.units {k : Nat} {A : Around} (r : Room k A) : A.units + 64 < cLine := by have := r.un; omega
def tNil : TA := fun _ H Q => Q [] H
def tCons (ta : TE) (tr : TA) : TA := fun σ H Q => ta σ H fun x H1 => tr σ H1 fun xs H2 => Q (x :: xs) H2
section
variable {X : Cx} {e : Expr} {es : List Expr} {te : TE} {t : TA} {pos : Pos}
theorem pa_nil : PA X [] tNil := fun _ _ _ _ H Q I h => Calls.spliced_nil ⟨[], H, I, .nil, h⟩
theorem pa_cons (ha : PE X e te) (hr : PA X es t) (hs : starEach (e :: es) X.env = (false, eval e X.env) :: starEach es X.env := by rfl) : PA X (e :: es) (tCons te t) := by
  intro pos pins s σ H Q I h
  rw [hs]
  show wpAny _ _ (spliced ((false, eval e X.env) :: backTo pos (starEach es X.env))) _ _ s
  refine Calls.spliced_cons (thn (ha pins s σ H _ I h) fun u s1 ⟨x, H1, I1, r1, q1⟩ => ?_)
  exact thn (hr pos pins s1 σ H1 _ I1 q1) fun us s2 ⟨xs, H2, I2, r2, q2⟩ => ⟨x :: xs, H2, I2, .cons r1 r2, q2⟩
def tTup (t : TA) : TE := fun σ H Q => t σ H fun xs H1 => xs.length ≤ sizeLine ∧ ∀ p, H1 p = none → Q (.ref p) (upd H1 p (.tup xs))
def tLst (t : TA) : TE := fun σ H Q => t σ H fun xs H1 => xs.length ≤ sizeLine ∧ ∀ p, H1 p = none → Q (.ref p) (upd H1 p (.lst xs))
theorem pe_tup {x1} (h : PA X es t) : PE X (.Tuple es x1 pos) (tTup t) := by
  intro pins s σ H Q I hq
  refine wpAny_Tuple_spliced (thn (h pos pins s σ H _ I hq) fun us s1 ⟨xs, H1, I1, r, z, q⟩ => ⟨by rw [← r.length]; exact z, ?_⟩)
  have hf : H1 s1.heap.objs.size = none := I1.hok.fresh (Nat.le_refl _)
  refine ⟨.ref s1.heap.objs.size, upd H1 s1.heap.objs.size (.tup xs), I1.laid (t' := s1.toks) (fun b u e => Heap.get?_push_of_some _ e) (Nat.le_refl _) ?_, rfl, q _ hf⟩
  exact ⟨z, us, r, ⟨_, Heap.get?_push_size _ rfl, rfl, _, rfl⟩⟩
theorem pe_lst (h : PA X es t) : PE X (.List es pos) (tLst t) := by
  intro pins s σ H Q I hq
  refine wpAny_List_spliced (thn (h pos pins s σ H _ I hq) fun us s1 ⟨xs, H1, I1, r, z, q⟩ => ⟨by rw [← r.length]; exact z, ?_⟩)
  have hf : H1 s1.heap.objs.size = none := I1.hok.fresh (Nat.le_refl _)
  refine ⟨.ref s1.heap.objs.size, upd H1 s1.heap.objs.size (.lst xs), I1.laid (t' := s1.toks) (fun b u e => Heap.get?_push_of_some _ e) (Nat.le_refl _) ?_, rfl, q _ hf⟩
  exact ⟨z, us, 0, r, Heap.get?_push_size _ rfl⟩
end
abbrev Sp := List V → Hp → VK → XK → Prop
abbrev CXT := List Env → Hp → Shared → XK → Value → Shared → Prop
structure Env0 (P : Program) (w : World) (K : PySem.W.Frag) (mg : Str → Option Value) (base : Heap) (A : Around) (outer : List Env) (s : Shared) (H : Hp) : Prop where
  frames : A.frames = some outer
  mod : Mod K mg base
  bs : ∀ b o, base.get? b = some o → s.heap.get? b = some o ∧ H b = none
  bsz : base.objs.size ≤ s.heap.objs.size
  funs : s.heap.FunFrames base outer
  frf : ∀ b ∈ frs outer, H b = none
  hok : HOk P w H s.heap
  bare : AllBare s.gens
def CE (outer : List Env) (P : Program) (w : World) (H : Hp) (s : Shared) (Q : VK) (u : Value) (s' : Shared) : Prop :=
  ∃ v H', s'.os = s.os ∧ AllBare s'.gens ∧ Un (frs outer) [] H H' s.heap s'.heap ∧ HOk P w H' s'.heap ∧ RelV v u ∧ Q v H'
def CR (CX : CXT) (outer : List Env) (P : Program) (w : World) (H : Hp) (s : Shared) (Q : VK) (E : XK) (r : Result) (s' : Shared) : Prop :=
  match r with
  | .ok (.ret u) => CE outer P w H s Q u s'
  | .ok _ => False
  | .error e => CX outer H s E e s'
structure FnOk (P : Program) (w : World) (K : PySem.W.Frag) (mg : Str → Option Value) (base : Heap) (CX : CXT) (k : Nat) (f : Addr) (fd : FuncData) (ps : List Str) (sp : Sp) : Prop where
  len : ∀ vs H Q E, sp vs H Q E → vs.length = ps.length
  run : ∀ (A : Around) (outer : List Env) (s : Shared) (H : Hp) (args : Args) (us : List Value) (vs : List V) (Q : VK) (E : XK), Room k A → Env0 P w K mg base A outer s H → BindsTo s fd args (ps.zip us) → Vals vs us → sp vs H Q E →
    codeAny (model P w) A (.call (.ref f) args) (CR CX outer P w H s Q E) s
theorem FnOk.mono {P : Program} {w : World} {K : PySem.W.Frag} {mg : Str → Option Value} {base : Heap} {CX : CXT} {j k : Nat} {f : Addr} {fd : FuncData} {ps : List Str} {sp : Sp} (F : FnOk P w K mg base CX j f fd ps sp) (h : j ≤ k) :
    FnOk P w K mg base CX k f fd ps sp := ⟨F.len, fun A outer s H args us vs Q E hr => F.run A outer s H args us vs Q E (hr.mono h)⟩
theorem FnOk.imp {P : Program} {w : World} {K : PySem.W.Frag} {mg : Str → Option Value} {base : Heap} {CX : CXT} {k : Nat} {f : Addr} {fd : FuncData} {ps : List Str} {sp sp' : Sp} (F : FnOk P w K mg base CX k f fd ps sp)
    (h : ∀ vs H Q E, sp' vs H Q E → sp vs H Q E) : FnOk P w K mg base CX k f fd ps sp' :=
  ⟨fun vs H Q E q => F.len vs H Q E (h _ _ _ _ q), fun A outer s H args us vs Q E hr he hb hv hs => F.run A outer s H args us vs Q E hr he hb hv (h _ _ _ _ hs)⟩
theorem Env0.in1 {P : Program} {w : World} {K : PySem.W.Frag} {mg : Str → Option Value} {base : Heap} {A : Around} {outer : List Env} {s : Shared} {H : Hp} (e : Env0 P w K mg base A outer s H) :
    Env0 P w K mg base A.in1 outer s H := ⟨e.frames, e.mod, e.bs, e.bsz, e.funs, e.frf, e.hok, e.bare⟩
section
variable {X : Cx} {pins : List (Addr × Obj)} {σ : St} {H : Hp} {s s' : Shared}
theorem Inv.env0 (I : Inv X pins σ H s) : Env0 X.prog X.w X.K X.mg X.base X.A X.stack s H :=
  ⟨I.ok.frames, I.ok.mod, I.bs, Nat.le_trans I.ok.bsz I.sz, I.stack, I.stkFree, I.hok, I.bare⟩
theorem Inv.after {Q : VK} {u : Value} (I : Inv X pins σ H s) (h : CE X.stack X.prog X.w H s Q u s') : EP X pins σ Q u s' := by
  obtain ⟨v, H', os, bare, un, hok, r, q⟩ := h
  obtain ⟨hh, g, d, t, os'⟩ := s'
  obtain rfl : os' = s.os := os
  exact ⟨v, H', I.call (h' := hh) (g' := g) (d' := d) (t' := t) (ch := []) un hok bare (fun b z => absurd z (by simp)), r, q⟩
end
def tCall (sp : Sp) (dvs : List V) (E : XK) (t : TA) : TE := fun σ H Q => t σ H fun vs H1 => sp (vs ++ dvs) H1 Q E
def Binds (K : PySem.W.Frag) (fd : FuncData) (ps : List Str) (ds : List Value) : Prop :=
  ∀ (s : Shared) (us : List Value), K.In s.heap → (us ++ ds).length = ps.length → BindsTo s fd ⟨us, []⟩ (ps.zip (us ++ ds))
theorem Binds.all {K : PySem.W.Frag} {fd : FuncData} {ps : List Str} (h : ∀ us : List Value, us.length = ps.length → bindArgs fd ⟨us, []⟩ = pure (ps.zip us)) : Binds K fd ps [] := fun s us _ hl => by
  rw [List.append_nil] at hl ⊢
  exact .of_eq (h us hl)
def Passes (CX : CXT) (X : Cx) (E : XK) : Prop := ∀ (pins : List (Addr × Obj)) (σ : St) (H : Hp) (s : Shared) (e : Value) (s' : Shared), Inv X pins σ H s → CX X.stack H s E e s' → X.xe e s'
section
variable {X : Cx} {CX : CXT} {k : Nat} {f C : Addr} {fd : FuncData} {ps : List Str} {sp : Sp} {dvs : List V} {ds : List Value} {E : XK} {x m : Str} {p pos apos : Pos} {e o : Expr} {es : List Expr} {ta : TE} {t : TA}
theorem run_fn {pins : List (Addr × Obj)} {σ : St} {H : Hp} {s : Shared} {Q : VK} {us : List Value} {vs : List V} (F : FnOk X.prog X.w X.K X.mg X.base CX k f fd ps sp) (hr : Room k X.A) (hb : Binds X.K fd ps ds) (hd : Vals dvs ds) (hx : Passes CX X E)
    (I : Inv X pins σ H s) (r : Vals vs us) (h : sp (vs ++ dvs) H Q E) : wpAny (model X.prog X.w) X.A (call (.ref f) us) (EP X pins σ Q) X.xe s := by
  have r2 : Vals (vs ++ dvs) (us ++ ds) := r.append hd
  have hl : (us ++ ds).length = ps.length := by rw [← r2.length]; exact F.len _ _ _ _ h
  refine wpAny_call (codeAny_mono (F.run X.A X.stack s H ⟨us, []⟩ (us ++ ds) (vs ++ dvs) Q E hr I.env0 (hb s us I.kIn hl) r2 h) fun r s' hq => ?_)
  cases r with
  | error e => exact hx pins σ H s e s' I hq
  | ok fl =>
    cases fl with
    | ret u => exact I.after hq
    | next => exact False.elim hq
    | brk => exact False.elim hq
    | cont => exact False.elim hq
theorem pe_call (F : FnOk X.prog X.w X.K X.mg X.base CX k f fd ps sp) (hr : Room k X.A) (hg : Gl X x) (hm : X.mg x = some (.ref f)) (hk : PySem.W.keepIn X.K (.ref f) = true) (hb : Binds X.K fd ps ds) (hd : Vals dvs ds) (hx : Passes CX X E)
    (ha : PA X (e :: es) t) (hdb : (x == ("__debug__" : Str)) = false := by decide) (he : starEach (e :: es) X.env = (false, eval e X.env) :: starEach es X.env := by rfl) (hpl : (backTo pos (starEach es X.env)).any (·.1) = false := by rfl) :
    PE X (.Call (.Name x p) (e :: es) [] pos) (tCall sp dvs E t) := by
  intro pins s σ H Q I h
  refine wpAny_Call_Name_kw (ld_glob I hg hm ?_ hdb)
  refine PySem.W.callWith_K (h₀ := X.base) I.ok.mod.kin hk (thn (ha pos pins s σ H _ I h) fun us s1 ⟨vs, H1, I1, r, q⟩ => ⟨I1.kIn, ?_⟩) he hpl
  exact run_fn F hr hb hd hx I1 r q
structure Mk (K : PySem.W.Frag) (C f : Addr) : Prop where
  makes : PySem.W.makesIn K C = true
  init : PySem.W.findIn K (.ref C) "__init__" = some (some (.ref f))
  fn : PySem.W.isFn K (.ref f) = true
  kp : PySem.W.keepIn K (.ref C) = true
end
section
variable {X : Cx} {CX : CXT} {k : Nat} {f C : Addr} {fd : FuncData} {ps ks : List Str} {sp : Sp} {E : XK} {x m : Str} {p pos apos kpos : Pos} {e o : Expr} {es : List Expr} {kws : List Keyword} {te ta : TE} {t tk : TA} {nm : Option Str}
structure KBinds (K : PySem.W.Frag) (fd : FuncData) (ps ks : List Str) (g : List Value → List Value → List Value) (gV : List V → List V → List V) : Prop where
  to : ∀ (s : Shared) (us ws : List Value), K.In s.heap → (g us ws).length = ps.length → BindsTo s fd ⟨us, ks.zip ws⟩ (ps.zip (g us ws))
  rel : ∀ {vs : List V} {us : List Value} {zs : List V} {ws : List Value}, Vals vs us → Vals zs ws → Vals (gV vs zs) (g us ws)
variable {g : List Value → List Value → List Value} {gV : List V → List V → List V}
end
structure FnScope (N P : List Str) (sc : Scope) : Prop where
  kind : sc.kind = .function
  co : sc.isCoroutine = false
  gen : sc.isGenerator = false
  nd : N.Nodup
  pre : N.take P.length = P
  par : ∀ x ∈ P, sc.names.lookup x = some .local ∨ sc.names.lookup x = some .cell
  nofree : ∀ y ∈ sc.names, y.2 ≠ .free
theorem bindL_out {kindOf : Str → Option NameKind} {x : Str} : ∀ {binds : List (Str × Value)} {m : Str → Option Value}, (∀ v, (x, v) ∉ binds) → bindL kindOf binds m x = m x
  | [], _, _ => rfl
  | (n, v) :: r, m, h => by
    unfold bindL
    rw [bindL_out fun w hw => h w (List.mem_cons_of_mem _ hw)]
    split
    · have : x ≠ n := by rintro rfl; exact h v List.mem_cons_self
      simp [this]
    · rfl
theorem bindC_out {kindOf : Str → Option NameKind} {x : Str} : ∀ {binds : List (Str × Value)} {m : Str → Option Value}, (∀ v, (x, v) ∉ binds) → bindC kindOf binds m x = m x
  | [], _, _ => rfl
  | (n, v) :: r, m, h => by
    unfold bindC
    rw [bindC_out fun w hw => h w (List.mem_cons_of_mem _ hw)]
    split
    · rfl
    · have : x ≠ n := by rintro rfl; exact h v List.mem_cons_self
      simp [this]
theorem bindL_get {kindOf : Str → Option NameKind} {x : Str} {v : Value} : ∀ {P : List Str} {vs : List Value} {i : Nat} {m : Str → Option Value}, P.Nodup → P[i]? = some x → vs[i]? = some v → kindOf x = some .local →
    bindL kindOf (P.zip vs) m x = some v
  | [], _, _, _, _, h, _, _ => by simp at h
  | _ :: _, [], _, _, _, _, h, _ => by simp at h
  | p :: P, w :: vs, 0, m, nd, h1, h2, hk => by
    simp at h1 h2; subst h1; subst h2
    show bindL kindOf ((p, w) :: P.zip vs) m p = _
    unfold bindL
    rw [bindL_out fun v hv => (List.nodup_cons.mp nd).1 (List.of_mem_zip hv).1, if_pos hk]
    simp
  | p :: P, w :: vs, i + 1, m, nd, h1, h2, hk => by
    show bindL kindOf ((p, w) :: P.zip vs) m x = _
    unfold bindL
    exact bindL_get (i := i) (List.nodup_cons.mp nd).2 (by simpa using h1) (by simpa using h2) hk
theorem bindC_get {kindOf : Str → Option NameKind} {x : Str} {v : Value} : ∀ {P : List Str} {vs : List Value} {i : Nat} {m : Str → Option Value}, P.Nodup → P[i]? = some x → vs[i]? = some v → kindOf x ≠ some .local →
    bindC kindOf (P.zip vs) m x = some v
  | [], _, _, _, _, h, _, _ => by simp at h
  | _ :: _, [], _, _, _, _, h, _ => by simp at h
  | p :: P, w :: vs, 0, m, nd, h1, h2, hk => by
    simp at h1 h2; subst h1; subst h2
    show bindC kindOf ((p, w) :: P.zip vs) m p = _
    unfold bindC
    rw [bindC_out fun v hv => (List.nodup_cons.mp nd).1 (List.of_mem_zip hv).1, if_neg hk]
    simp
  | p :: P, w :: vs, i + 1, m, nd, h1, h2, hk => by
    show bindC kindOf ((p, w) :: P.zip vs) m x = _
    unfold bindC
    exact bindC_get (i := i) (List.nodup_cons.mp nd).2 (by simpa using h1) (by simpa using h2) hk
def start (N : List Str) (vs : List V) : St := vs.map some ++ List.replicate (N.length - vs.length) none
def cxOf (CX : CXT) (P : Program) (w : World) (K : PySem.W.Frag) (mg : Str → Option Value) (base : Heap) (N : List Str) (qual : Str) (scope : Scope) (f : Addr) (cd : Value) (A : Around) (outer : List Env) (s : Shared) (H : Hp) (E : XK) : Cx where
  prog := P
  w := w
  K := K
  mg := mg
  base := base
  A := A.deeper (envOfC qual scope s.heap.objs.size f cd)
  N := N
  s₀ := s
  H₀ := H
  env := envOfC qual scope s.heap.objs.size f cd
  outer := outer
  stack := envOfC qual scope s.heap.objs.size f cd :: outer
  ex := []
  calm := true
  fn := fun _ => true
  pn := []
  xe := fun e s' => wpAny (model P w) (A.deeper (envOfC qual scope s.heap.objs.size f cd)) (leaving (envOfC qual scope s.heap.objs.size f cd) e) (fun _ s'' => CX outer H s E e s'') (fun e' s'' => CX outer H s E e' s'') s'
theorem cell_has {sc : Scope} {n : Nat} {x : Str} (h : sc.names.lookup x = some .cell) : ∃ c, (cellsFrom n sc.names []).lookup x = some c := by
  have q := PySem.W.cellsFrom_some sc.names n [] (.inl h)
  exact Option.isSome_iff_exists.mp q
theorem inv_start {CX : CXT} {P : Program} {w : World} {K : PySem.W.Frag} {mg : Str → Option Value} {base : Heap} {N ps : List Str} {qual : Str} {scope : Scope} {f : Addr} {cd : Value} {A : Around} {outer : List Env} {s s1 : Shared} {H : Hp} {E : XK} {us : List Value} {vs : List V}
    (S : FnScope N ps scope) (hd : A.handled = none) (e0 : Env0 P w K mg base A outer s H) (hl : vs.length = ps.length) (r : Vals vs us)
    (x : InCallC s s.heap.objs.size (bindL (envOfC qual scope s.heap.objs.size f cd).kindOf (ps.zip us) fun _ => none) (cellsFrom (s.heap.objs.size + 1) scope.names []) (bindC (envOfC qual scope s.heap.objs.size f cd).kindOf (ps.zip us) fun _ => none) s1) :
    Inv (cxOf CX P w K mg base N qual scope f cd A outer s H E) [] (start N vs) H s1 := by
  have hpl : ps.length ≤ N.length := by have := congrArg List.length S.pre; rw [List.length_take] at this; omega
  obtain ⟨h1, tk, rfl, hk⟩ := x.done
  have noA : ∀ b : Addr, b ∉ (cxOf CX P w K mg base N qual scope f cd A outer s H E).ex := fun b z => absurd (show b ∈ ([] : List Addr) from z) (by simp)
  refine ⟨⟨e0.mod, S.kind, rfl, rfl, Nat.le_refl _, fun y z c h1 h2 => ?_, fun y hy => ?_, fun y c _ h => ?_, fun _ => hd, Around.frames_deeper e0.frames, .inr ⟨rfl, rfl⟩, fun b z => absurd z (noA b), e0.bs, e0.bsz, fun b _ _ => noA b, fun b z => absurd z (noA b), e0.funs, e0.frf⟩,
    rfl, e0.bare, Un.kept hk, ⟨_, x.toInCall.ns, fun i y v h1 h2 h3 => ?_⟩, fun y c h => ⟨_, x.cell y c h⟩, e0.hok.fresh (Nat.le_refl _), fun y c h => ?_, fun p hp => absurd (show p ∈ ([] : List (Addr × Obj)) from hp) (by simp), e0.hok.kept hk, ?_⟩
  · exact name_of_addr x.apart (PySem.mem_of_lookup h1) (PySem.mem_of_lookup h2)
  · have hy : scope.names.lookup y = some .cell ∨ scope.names.lookup y = some .free := hy
    rcases hy with hy | hy
    · exact cell_has hy
    · exact absurd rfl (S.nofree _ (PySem.mem_of_lookup hy))
  · exact Nat.le_of_lt (x.above y c (PySem.mem_of_lookup h))
  · have hi : i < vs.length := by
      unfold start at h2
      by_cases hi : i < vs.length
      · exact hi
      · rw [List.getElem?_append_right (by simpa using hi)] at h2
        rw [List.getElem?_replicate] at h2
        split at h2 <;> cases h2
    have ha : vs[i]? = some v := by
      unfold start at h2
      rw [List.getElem?_append_left (by simpa using hi), List.getElem?_map] at h2
      cases e : vs[i]? with
      | none => rw [e] at h2; cases h2
      | some a => rw [e] at h2; cases h2; rfl
    obtain ⟨u, hu, rv⟩ := r.get ha
    have hp : ps[i]? = some y := by
      rw [← S.pre, List.getElem?_take_of_lt (by omega)]; exact h1
    have ndP : ps.Nodup := by rw [← S.pre]; exact S.nd.sublist (List.take_sublist _ _)
    refine ⟨u, rv, ?_⟩
    rcases S.par y (List.mem_of_getElem? hp) with k | k
    · exact .inl ⟨k, bindL_get ndP hp hu k⟩
    · obtain ⟨c, e⟩ := cell_has (n := s.heap.objs.size + 1) k
      refine .inr ⟨.inl k, c, e, ?_⟩
      have q := x.cell y c e
      rw [bindC_get ndP hp hu (by show scope.names.lookup y ≠ _; rw [k]; decide)] at q
      exact q
  · exact e0.hok.fresh (Nat.le_of_lt (x.above y c (PySem.mem_of_lookup h)))
  · unfold start
    show _ = N.length
    rw [List.length_append, List.length_map, List.length_replicate]
    omega
theorem fn_of {CX : CXT} {P : Program} {w : World} {K : PySem.W.Frag} {mg : Str → Option Value} {base : Heap} {k : Nat} {f : Addr} {name qual : Str} {params : Arguments} {body : List Stmt} {scope : Scope} {dV kV doc pm cdv ct oc : Value} {an od : Option Addr}
    {osl : Array (Option Value)} {N ps : List Str} {sp : Sp} (lk : K.lookup f = some ⟨oc, od, .func (PySem.W.fnOf name qual params body scope dV kV doc pm an cdv ct), osl⟩) (hcd : PySem.W.codeIn K cdv qual = true) (S : FnScope N ps scope)
    (len : ∀ vs H Q E, sp vs H Q E → vs.length = ps.length)
    (hbody : ∀ (A : Around) (outer : List Env) (s : Shared) (H : Hp) (vs : List V) (Q : VK) (E : XK), Room k (A.deeper (envOfC qual scope s.heap.objs.size f cdv)) → sp vs H Q E →
      ∃ t, PSs (cxOf CX P w K mg base N qual scope f cdv A outer s H E) body t ∧ t { nx := fun _ H' => Q .non H', rt := Q } (start N vs) H) :
    FnOk P w K mg base CX (k + 1) f (PySem.W.fnOf name qual params body scope dV kV doc pm an cdv ct) ps sp := by
  refine ⟨len, fun A outer s H args us vs Q E hr e0 hb r hsp => ?_⟩
  have hl := len _ _ _ _ hsp
  have KX : K.In s.heap := e0.mod.kin.keeps fun b o e => (e0.bs b o e).1
  have lim : s.heap.NoLimit := e0.mod.nolimit.keeps fun b o e => (e0.bs b o e).1
  have hkind : ∀ y ∈ ps.zip us, scope.names.lookup y.1 = some .local ∨ (scope.names.lookup y.1 = some .cell ∧ ((cellsFrom (s.heap.objs.size + 1) scope.names []).lookup y.1).isSome = true) := fun ⟨n, v⟩ hy => by
    rcases S.par n (List.of_mem_zip hy).1 with q | q
    · exact .inl q
    · exact .inr ⟨q, PySem.W.cellsFrom_some _ _ _ (.inl q)⟩
  refine codeAny_call_function hr.depth (KX _ _ lk) rfl S.co S.gen rfl (PySem.W.codeRec_of KX hcd) (hb _ _ _ _ ?_)
  refine wpAny_newFunctionEnv_cells S.kind hkind fun env he s1 x => ?_
  subst he
  refine ⟨lim.keeps x.toInCall.keep, codeAny_func ?_⟩
  obtain ⟨t, ht, hq⟩ := hbody A outer s H vs Q E (hr.deeper _) hsp
  have I : Inv (cxOf CX P w K mg base N qual scope f cdv A outer s H E) [] (start N vs) H s1 := inv_start S hr.hd e0 hl r x
  refine wpAny_mono (ht [] s1 (start N vs) H _ I hq) (fun fl s' hs => ?_) fun e s' hs => hs
  have fin : ∀ {σ' : St} {H' : Hp} {v : V} {u : Value}, Inv (cxOf CX P w K mg base N qual scope f cdv A outer s H E) [] σ' H' s' → RelV v u → Q v H' → CE outer P w H s Q u s' :=
    fun {σ' H' v u} J rv q => ⟨v, H', J.os, J.bare, J.base, J.hok, rv, q⟩
  cases fl with
  | ret u =>
    obtain ⟨v, σ', H', J, rv, q⟩ := hs
    exact fin J rv q
  | next =>
    obtain ⟨σ', H', J, q⟩ := hs
    exact fin (v := V.non) (u := Value.none) J rfl q
  | brk =>
    obtain ⟨_, _, _, q⟩ := hs
    exact False.elim q
  | cont =>
    obtain ⟨_, _, _, q⟩ := hs
    exact False.elim q
end L2
namespace L2
open PySem PySem.Spec PyProof.Rows
section
variable {X : Cx} {x : Str} {p pos : Pos} {e : Expr} {es : List Expr} {t : TA} {id T : String} {r : List V → Hp → VK → Prop}
def tCB (r : List V → Hp → VK → Prop) (t : TA) : TE := fun σ H Q => t σ H fun vs H1 => r vs H1 Q
theorem pe_callB (hc : CallR X (.builtin id) r) (hg : Gl X x) (hm : X.mg x = none) (hv : bootBuiltins x = some (.builtin id)) (ha : PA X (e :: es) t) (hn : x ≠ "__name__" := by decide) (hdb : (x == ("__debug__" : Str)) = false := by decide)
    (he : starEach (e :: es) X.env = (false, eval e X.env) :: starEach es X.env := by rfl) (hpl : (backTo pos (starEach es X.env)).any (·.1) = false := by rfl) : PE X (.Call (.Name x p) (e :: es) [] pos) (tCB r t) := by
  intro pins s σ H Q I h
  refine wpAny_Call_Name_kw (ld_blt I hg hm hv ?_ hn hdb)
  exact PyProof.Rows.callWith_builtin1 (thn (ha pos pins s σ H _ I h) fun us s1 ⟨vs, H1, I1, r1, q1⟩ => hc pins s1 σ H1 vs us Q I1 r1 q1) he hpl
theorem pe_callTy (hc : CallR X (.type T) r) (hg : Gl X x) (hm : X.mg x = none) (hv : bootBuiltins x = some (.type T)) (ha : PA X (e :: es) t) (hn : x ≠ "__name__" := by decide) (hdb : (x == ("__debug__" : Str)) = false := by decide)
    (he : starEach (e :: es) X.env = (false, eval e X.env) :: starEach es X.env := by rfl) (hpl : (backTo pos (starEach es X.env)).any (·.1) = false := by rfl) : PE X (.Call (.Name x p) (e :: es) [] pos) (tCB r t) := by
  intro pins s σ H Q I h
  refine wpAny_Call_Name_kw (ld_blt I hg hm hv ?_ hn hdb)
  exact PyProof.Rows.callWith_type1 (thn (ha pos pins s σ H _ I h) fun us s1 ⟨vs, H1, I1, r1, q1⟩ => hc pins s1 σ H1 vs us Q I1 r1 q1) he hpl
end
end L2
namespace HT
open PySem PyProof.Rows
section
open PySem.SeqAt
open PySem.AutoSeq1 (wpAny_loadPart')
open PySem.MeetsSeq PySem.MeetsSeq2 PySem.MeetsSeq3
end
section
variable {prog : Program} {w : World} {A : Around} {E : Value → Shared → Prop} {s : Shared}
theorem cat_tup {t b : Addr} {vs ws : List Value} {Q : Value → Shared → Prop} (ht : IsTup s.heap t vs.toArray) (hb : IsTup s.heap b ws.toArray) (hv : vs ≠ [])
    (h1 : ws = [] → Q (.ref t) s) (h2 : ws ≠ [] → Q (.ref s.heap.objs.size) { s with heap := s.heap.push { cls := .type "tuple", data := .seq (vs ++ ws).toArray } })
    (hsz : vs.length + ws.length ≤ sizeLine) : wpAny (model prog w) A (binaryOp .Add (.ref t) (.ref b)) Q E s := by
  obtain ⟨⟨cls, dd, data, sl⟩, ho, hc, n, hd⟩ := id ht
  obtain ⟨⟨cls2, dd2, data2, sl2⟩, ho2, hc2, n2, hd2⟩ := id hb
  simp only at hc hd hc2 hd2
  subst hc hd hc2 hd2
  have e : vs.toArray ++ ws.toArray = (vs ++ ws).toArray := by simp
  by_cases hw : ws = []
  · exact concat_meets ⟨_, ho, rfl⟩ ⟨_, ho2, rfl⟩ noFill_tuple_add seq_tuple_add PySem.F.slot_tuple_add PySem.F.entry_tuple_add (PySem.F.args_tuple_add_2 _ _)
      (tuple_addW1 t b vs.toArray ws.toArray n n2 dd dd2 sl sl2 (by simpa using hv) (by simp [hw])) ⟨ho, ho2, h1 hw⟩
  · refine concat_meets ⟨_, ho, rfl⟩ ⟨_, ho2, rfl⟩ noFill_tuple_add seq_tuple_add PySem.F.slot_tuple_add PySem.F.entry_tuple_add (PySem.F.args_tuple_add_2 _ _)
      (tuple_addW2 t b vs.toArray ws.toArray n n2 dd dd2 sl sl2 (by simpa using hv) (by simpa using hw) (by rw [List.size_toArray, List.size_toArray]; exact hsz)) ⟨ho, ho2, ?_⟩
    rw [e]
    exact h2 hw
def sIx (n d : Nat) : Option Int → Nat
  | none => d
  | some v => if v < 0 then (v + (n : Int)).toNat else min v.toNat n
theorem sIx_le (n d : Nat) (hd : d ≤ n) (o : Option Int) : sIx n d o ≤ n := by
  cases o with
  | none => exact hd
  | some v =>
    show (if v < 0 then (v + (n : Int)).toNat else min v.toNat n) ≤ n
    by_cases hv : v < 0
    · rw [if_pos hv]; omega
    · rw [if_neg hv]; exact Nat.min_le_right _ _
theorem clip_eq (v : Int) (n d : Nat) : (if v < 0 then max (v + (n : Int)) 0 else min v (n : Int)) = ((sIx n d (some v) : Nat) : Int) := by
  show (if v < 0 then max (v + (n : Int)) 0 else min v (n : Int)) = (((if v < 0 then (v + (n : Int)).toNat else min v.toNat n) : Nat) : Int)
  by_cases hv : v < 0
  · simp only [if_pos hv]; omega
  · simp only [if_neg hv]; omega
theorem adjust_gen (lo hi : Option Int) (n : Nat) : Builtin.Slice.sliceAdjust lo hi 1 (n : Int) = (((sIx n 0 lo : Nat) : Int), ((sIx n n hi : Nat) : Int)) := by
  have h1 : ¬ ((1 : Int) < 0) := by omega
  unfold Builtin.Slice.sliceAdjust
  simp only [h1, if_false]
  refine Prod.ext ?_ ?_
  · cases lo with
    | none => rfl
    | some v => exact clip_eq v n 0
  · cases hi with
    | none => rfl
    | some v => exact clip_eq v n n
theorem places_gen (i j : Nat) : Builtin.Slice.slicePlaces (i : Int) (j : Int) 1 = j - i := by
  unfold Builtin.Slice.slicePlaces
  have h1 : (1 : Int) > 0 := by omega
  simp only [h1, if_true, Int.ediv_one]
  split <;> omega
theorem slicePart_ {v : Value} {o : Option Int} {Q : Option Int → Shared → Prop} (p : IsPart v o) (h : Q o s) : wpAny (model prog w) A (Builtin.Slice.slicePartIndex v) Q E s := by
  cases p with
  | none => exact slicePart_none h
  | int i t => exact slicePart_int h
theorem sliceApplied_gen {sl : Addr} {vl vu : Value} {lo hi : Option Int} {n : Nat} {Q : Int × Int × Nat → Shared → Prop} (hs : s.heap.IsSliceOf sl vl vu .none) (pl : IsPart vl lo) (pu : IsPart vu hi)
    (h : Q (((sIx n 0 lo : Nat) : Int), 1, sIx n n hi - sIx n 0 lo) s) : wpAny (model prog w) A (Builtin.Slice.sliceApplied (.ref sl) (pure (n : Int))) Q E s := by
  obtain ⟨os, hos, hcs, hds⟩ := id hs
  unfold Builtin.Slice.sliceApplied Builtin.Slice.sliceFields
  refine wpAny_bind (wpAny_bind (wpAny_field hos hds (x := vl) rfl (wpAny_bind (wpAny_field hos hds (x := vu) rfl (wpAny_bind (wpAny_field hos hds (x := .none) rfl (wpAny_pure ?_)))))))
  refine wpAny_bind (slicePart_none ?_)
  show wpAny _ _ (if ((1 : Int) == 0) = true then _ else _) _ _ s
  rw [if_neg (by decide)]
  refine wpAny_bind (slicePart_ pl (wpAny_bind (slicePart_ pu (wpAny_bind (wpAny_pure ?_)))))
  show wpAny _ _ (match Builtin.Slice.sliceAdjust lo hi 1 (n : Int) with | (lo, hi) => pure (lo, (1 : Int), Builtin.Slice.slicePlaces lo hi 1)) _ _ s
  rw [adjust_gen lo hi n]
  show wpAny _ _ (pure (((sIx n 0 lo : Nat) : Int), (1 : Int), Builtin.Slice.slicePlaces ((sIx n 0 lo : Nat) : Int) ((sIx n n hi : Nat) : Int) 1)) _ _ s
  rw [places_gen]
  exact wpAny_pure h
theorem pick_gen (xs : Array Value) (i k : Nat) : ((List.range k).filterMap fun (m : Nat) => xs[((i : Int) + (m : Int) * 1).toNat]?).toArray = ((xs.toList.drop i).take k).toArray := by
  have e : (fun (m : Nat) => xs[((i : Int) + (m : Int) * 1).toNat]?) = fun m => xs[i + m]? := by
    funext m
    have : ((i : Int) + (m : Int) * 1).toNat = i + m := by omega
    rw [this]
  rw [e]
  have := pick_run xs i k
  rw [List.filterMap_map] at this
  have e2 : ((fun x => xs[x]?) ∘ fun x => i + x) = fun m => xs[i + m]? := rfl
  rw [e2] at this
  rw [this]
theorem getItem_tuple_cut {t sl : Addr} {items : Array Value} {vl vu : Value} {lo hi : Option Int} {Q : Value → Shared → Prop} (ht : IsTup s.heap t items) (hs : s.heap.IsSliceOf sl vl vu .none) (pl : IsPart vl lo) (pu : IsPart vu hi)
    (hw : ¬ (sIx items.size 0 lo = 0 ∧ sIx items.size items.size hi = items.size))
    (h : Q (.ref s.heap.objs.size) { s with heap := s.heap.push { cls := .type "tuple", data := .seq ((items.toList.drop (sIx items.size 0 lo)).take (sIx items.size items.size hi - sIx items.size 0 lo)).toArray } })
    (hsz : items.size ≤ sizeLine) : wpAny (model prog w) A (getItem (.ref t) (.ref sl)) Q E s := by
  have htake : sizeOk (.seq ((items.toList.drop (sIx items.size 0 lo)).take (sIx items.size items.size hi - sIx items.size 0 lo)).toArray) := by
    show ((items.toList.drop (sIx items.size 0 lo)).take (sIx items.size items.size hi - sIx items.size 0 lo)).toArray.size ≤ sizeLine
    rw [List.size_toArray, List.length_take, List.length_drop, Array.length_toList]
    omega
  have hj : sIx items.size items.size hi ≤ items.size := sIx_le _ _ (Nat.le_refl _) hi
  obtain ⟨os, hos, hcs, hds⟩ := id hs
  have hTs : s.TypeIs (.ref sl) "slice" := ⟨os, hos, hcs⟩
  unfold getItem
  try with_reducible refine wpAny_holding ?_
  first | refine wpAny_bind (wpAny_pure ?_) | skip
  refine wpAny_bind (wpAny_sequenceKey ht.typeIs (by decide) ?_)
  refine wpAny_bind (wpAny_callSpecial?_slot (name := Str.ofString "__getitem__") ht.typeIs PyProof.Rows.slot_tuple_getitem
    (wpAny_call_entry PyProof.Rows.slot_tuple_getitem ht.typeIs entry_tuple_getitem ?_ (args_tuple_getitem _ _)))
  show wpAny _ _ (Builtin.Tuple.tupleItemsOf (.ref t) >>= _) _ _ s
  refine wpAny_bind (tupleItemsOf_ ht ?_)
  refine wpAny_bind (wpAny_typeOf hTs ?_)
  rw [if_pos (by decide)]
  refine wpAny_bind (sliceApplied_gen hs pl pu ?_)
  have hno : ¬ ((((sIx items.size 0 lo : Nat) : Int) == 0 && (1 : Int) == 1 && (sIx items.size items.size hi - sIx items.size 0 lo) == items.size) = true) := by
    intro q
    rw [Bool.and_eq_true, Bool.and_eq_true] at q
    have q1 : ((sIx items.size 0 lo : Nat) : Int) = 0 := eq_of_beq q.1.1
    have q2 : sIx items.size items.size hi - sIx items.size 0 lo = items.size := eq_of_beq q.2
    exact hw ⟨by omega, by omega⟩
  show wpAny _ _ (if (((sIx items.size 0 lo : Nat) : Int) == 0 && (1 : Int) == 1 && (sIx items.size items.size hi - sIx items.size 0 lo) == items.size) = true then _ else _) _ _ s
  rw [if_neg hno, pick_gen]
  first
    | exact wpAny_bind (m := Builtin.Tuple.tupleExact _) (wpAny_newObj_type (wpAny_pure ⟨_, rfl, wpAny_pure h⟩) htake)
    | exact wpAny_bind (m := Builtin.Tuple.tupleExact _) (wpAny_newObj_type (wpAny_bind (wpAny_pure (wpAny_pure ⟨_, rfl, wpAny_pure h⟩))) htake)
    | exact wpAny_bind (wpAny_bind (m := Builtin.Tuple.tupleExact _) (wpAny_newObj_type (wpAny_pure (wpAny_pure ⟨_, rfl, wpAny_pure h⟩)) htake))
    | exact wpAny_bind (wpAny_bind (m := Builtin.Tuple.tupleExact _) (wpAny_newObj_type (wpAny_pure ⟨_, rfl, wpAny_pure h⟩) htake))
end
end HT
namespace L2
open PySem PySem.Spec PyProof.Rows
abbrev TO := St → Hp → (Option Int → Hp → Prop) → Prop
def PO (X : Cx) (e : Option Expr) (t : TO) : Prop :=
  ∀ (pins : List (Addr × Obj)) (s : Shared) (σ : St) (H : Hp) (Q : Option Int → Hp → Prop), Inv X pins σ H s → t σ H Q →
    wpAny (model X.prog X.w) X.A (evalPart e X.env) (fun u s' => ∃ o H', Inv X pins σ H' s' ∧ IsPart u o ∧ Q o H') X.xe s
def tNoPart : TO := fun _ H Q => Q none H
def tPart (t : TE) : TO := fun σ H Q => t σ H fun x H1 => ∃ i, x = .int i ∧ Q (some i) H1
theorem intsAre_of {ns : List Int} : ∀ {us : List Value}, Vals (ns.map V.int) us → IntsAre us ns := by
  induction ns with
  | nil => intro us r; rw [List.map_nil] at r; cases r; exact .nil
  | cons n ns ih =>
    intro us r
    rw [List.map_cons] at r
    cases r with
    | cons r1 r2 =>
      obtain ⟨t, e⟩ := r1
      subst e
      exact .cons n t (ih r2)
section
variable {X : Cx} {e : Expr} {te : TE} {lo hi : Option Expr} {tl th : TO} {pos p2 : Pos}
theorem po_none : PO X none tNoPart := by
  intro pins s σ H Q I h
  rw [evalPart_none]
  exact wpAny_pure ⟨none, H, I, .none, h⟩
theorem po_some (h : PE X e te) : PO X (some e) (tPart te) := by
  intro pins s σ H Q I hw
  rw [evalPart_some]
  refine thn (h pins s σ H _ I hw) fun u s1 ⟨x, H1, I1, r1, q1⟩ => ?_
  obtain ⟨i, rfl, q⟩ := q1
  obtain ⟨t, rfl⟩ := r1
  exact ⟨some i, H1, I1, .int i t, q⟩
def SlR (X : Cx) (r : V → Option Int → Option Int → Hp → VK → Prop) : Prop :=
  ∀ (pins : List (Addr × Obj)) (s : Shared) (σ : St) (H : Hp) (x : V) (v vl vu : Value) (lo hi : Option Int) (sl : Addr) (Q : VK), Inv X pins σ H s → RelV x v → s.heap.IsSliceOf sl vl vu .none → IsPart vl lo → IsPart vu hi → r x lo hi H Q →
    ∃ T id, typeLookup (.type T) "__getitem__" = pure (some (.builtin id)) ∧ s.TypeIs v T ∧ wpAny (model X.prog X.w) X.A (getItem v (.ref sl)) (EP X pins σ Q) X.xe s
def tSl (r : V → Option Int → Option Int → Hp → VK → Prop) (te : TE) (tl th : TO) : TE := fun σ H Q => te σ H fun x H1 => tl σ H1 fun l H2 => th σ H2 fun u H3 => r x l u H3 Q
theorem pe_slice {r : V → Option Int → Option Int → Hp → VK → Prop} (hr : SlR X r) (he : PE X e te) (hl : PO X lo tl) (hu : PO X hi th) : PE X (.Subscript e (.Slice lo hi none p2) pos) (tSl r te tl th) := by
  intro pins s σ H Q I h
  refine Subscript_ (thn (he pins s σ H _ I h) fun v s1 ⟨x, H1, I1, r1, q1⟩ => ?_)
  refine wpAny_Slice (thn (hl pins s1 σ H1 _ I1 q1) fun vl s2 ⟨l, H2, I2, pl, q2⟩ => thn (hu pins s2 σ H2 _ I2 q2) fun vu s3 ⟨u, H3, I3, pu, q3⟩ => ?_)
  rw [evalPart_none]
  refine wpAny_pure ?_
  have I4 : Inv X pins σ H3 { s3 with heap := s3.heap.push { cls := .type "slice", data := .fields #[vl, vu, .none] } } := I3.kept (t' := s3.toks) fun b ob q => Heap.get?_push_of_some _ q
  obtain ⟨T, id, hT, ht, hg⟩ := hr pins { s3 with heap := s3.heap.push { cls := .type "slice", data := .fields #[vl, vu, .none] } } σ H3 x v vl vu l u s3.heap.objs.size Q I4 r1 (Heap.IsSliceOf.new ..) pl pu q3
  show wpAny (model X.prog X.w) X.A (subscriptTail e (.Slice lo hi none p2) v (.ref s3.heap.objs.size)) (EP X pins σ Q) X.xe { s3 with heap := s3.heap.push { cls := .type "slice", data := .fields #[vl, vu, .none] } }
  exact tail_any (ops := [.ref s3.heap.objs.size, v]) ht hT hg (by with_unfolding_all rfl)
def cutV (xs : List V) (lo hi : Option Int) : List V := (xs.drop (HT.sIx xs.length 0 lo)).take (HT.sIx xs.length xs.length hi - HT.sIx xs.length 0 lo)
theorem cutV_length (xs : List V) (lo hi : Option Int) : (cutV xs lo hi).length ≤ xs.length := by
  unfold cutV
  rw [List.length_take, List.length_drop]
  omega
def rSlT (K : PySem.W.Frag) : V → Option Int → Option Int → Hp → VK → Prop := fun x lo hi H Q => ∃ a xs, x = .ref a ∧ SqT K H a xs ∧
  ¬ (HT.sIx xs.length 0 lo = 0 ∧ HT.sIx xs.length xs.length hi = xs.length) ∧ ∀ p, H p = none → Q (.ref p) (upd H p (.tup (cutV xs lo hi)))
theorem sl_tup : SlR X (rSlT X.K) := by
  intro pins s σ H x v vl vu lo hi sl Q I rx hs pl pu h
  obtain ⟨a, xs, rfl, hx, hw, q⟩ := h
  cases rx
  obtain ⟨its, r, ht, hz⟩ := I.tuple hx
  have hlen : its.toArray.size = xs.length := by rw [List.size_toArray]; exact r.length.symm
  refine ⟨"tuple", _, PyProof.Rows.slot_tuple_getitem.lookup, ht.typeIs, ?_⟩
  refine HT.getItem_tuple_cut ht hs pl pu (by rw [hlen]; exact hw) ?_ (by rw [hlen]; exact hz)
  rw [hlen]
  refine ⟨.ref s.heap.objs.size, _, I.laid (t' := s.toks) (o := .tup (cutV xs lo hi)) (fun b ob q => Heap.get?_push_of_some _ q) (Nat.le_refl _) ?_, rfl, q _ (I.hok.fresh (Nat.le_refl _))⟩
  exact ⟨Nat.le_trans (cutV_length xs lo hi) hz, _, (r.drop (HT.sIx xs.length 0 lo)).take (HT.sIx xs.length xs.length hi - HT.sIx xs.length 0 lo), IsTup.new _ _⟩
def rCatT (K : PySem.W.Frag) : R2 := fun x y H Q => ∃ a b xs ys, x = .ref a ∧ y = .ref b ∧ SqT K H a xs ∧ SqT K H b ys ∧ xs ≠ [] ∧ xs.length + ys.length ≤ sizeLine ∧
  (ys = [] → Q (.ref a) H) ∧ (ys ≠ [] → ∀ p, H p = none → Q (.ref p) (upd H p (.tup (xs ++ ys))))
theorem Vals.nil_iff {xs : List V} {us : List Value} (r : Vals xs us) : us = [] ↔ xs = [] := by
  cases r with
  | nil => simp
  | cons _ _ => simp
theorem op_catT : OpR X (binaryOp .Add) (rCatT X.K) := by
  intro pins s σ H x y v u Q I rx ry h
  obtain ⟨a, b, xs, ys, rfl, rfl, ha, hb, hx, hz, q1, q2⟩ := h
  cases rx
  cases ry
  obtain ⟨its, r1, p1, _⟩ := I.tuple ha
  obtain ⟨its2, r2, p2, _⟩ := I.tuple hb
  refine HT.cat_tup p1 p2 (fun z => hx (r1.nil_iff.mp z)) (fun z => ⟨.ref a, H, I, rfl, q1 (r2.nil_iff.mp z)⟩) (fun z => ?_) (by rw [← r1.length, ← r2.length]; exact hz)
  refine ⟨.ref s.heap.objs.size, _, I.laid (t' := s.toks) (o := .tup (xs ++ ys)) (fun b ob q => Heap.get?_push_of_some _ q) (Nat.le_refl _) ?_, rfl, q2 (fun w => z (r2.nil_iff.mpr w)) _ (I.hok.fresh (Nat.le_refl _))⟩
  exact ⟨by rw [List.length_append]; exact hz, _, r1.append r2, IsTup.new _ _⟩
end
end L2
namespace L2
open PySem PySem.Spec PyProof.Rows
def ixN (n : Nat) (i : Int) : Option Nat := if 0 ≤ i then (if i < n then some i.toNat else none) else if -(n : Int) ≤ i then some (i + n).toNat else none
def atI {α : Type} (xs : List α) (i : Int) : Option α := (ixN xs.length i).bind fun j => xs[j]?
theorem ixN_seq {n : Nat} {i : Int} {j : Nat} (h : ixN n i = some j) : seqIndex? i n = some j ∧ j < n ∧ -(n : Int) ≤ i ∧ i < n := by
  unfold ixN at h
  by_cases h0 : 0 ≤ i
  · rw [if_pos h0] at h
    by_cases h1 : i < n
    · rw [if_pos h1] at h
      have e : i.toNat = j := Option.some.inj h
      exact ⟨by rw [seqIndex_of h0 h1, e], by omega, by omega, h1⟩
    · rw [if_neg h1] at h; cases h
  · rw [if_neg h0] at h
    by_cases h1 : -(n : Int) ≤ i
    · rw [if_pos h1] at h
      have e : (i + n).toNat = j := Option.some.inj h
      exact ⟨by rw [seqIndex_neg (by omega) h1, e], by omega, h1, by omega⟩
    · rw [if_neg h1] at h; cases h
theorem atI_get {α : Type} {xs : List α} {i : Int} {v : α} (h : atI xs i = some v) : ∃ j, seqIndex? i xs.length = some j ∧ xs[j]? = some v ∧ j < xs.length ∧ -(xs.length : Int) ≤ i ∧ i < xs.length := by
  unfold atI at h
  cases e : ixN xs.length i with
  | none => rw [e] at h; cases h
  | some j =>
    rw [e] at h
    obtain ⟨h1, h2, h3, h4⟩ := ixN_seq e
    exact ⟨j, h1, h, h2, h3, h4⟩
theorem atI_nat {α : Type} {xs : List α} {j : Nat} {v : α} (h : xs[j]? = some v) : atI xs (j : Int) = some v := by
  have hj : j < xs.length := (List.getElem?_eq_some_iff.mp h).1
  have e : ixN xs.length (j : Int) = some j := by
    unfold ixN
    rw [if_pos (by omega), if_pos (by omega)]; simp
  unfold atI; rw [e]; exact h
def PlainIx (b : Expr) : Prop := ∀ o i, subscripted b false o i = operate [o, i] (getItem o i)
def IxR (X : Cx) (r : R2) : Prop :=
  ∀ (value slice : Expr) (pins : List (Addr × Obj)) (s : Shared) (σ : St) (H : Hp) (x y : V) (v u : Value) (Q : VK), Inv X pins σ H s → RelV x v → RelV y u → r x y H Q →
    subscripted slice false v u = operate [v, u] (getItem v u) → wpAny (model X.prog X.w) X.A (subscriptTail value slice v u) (EP X pins σ Q) X.xe s
def MtR (X : Cx) (id : String) (r : V → List V → Hp → VK → Prop) : Prop :=
  ∀ (pins : List (Addr × Obj)) (s : Shared) (σ : St) (H : Hp) (x : V) (xs : List V) (v : Value) (us : List Value) (Q : VK), Inv X pins σ H s → RelV x v → Vals xs us → r x xs H Q →
    wpAny (model X.prog X.w) X.A (call (.builtin id) (v :: us)) (EP X pins σ Q) X.xe s
section
variable {X : Cx} {a b : Expr} {ta tb : TE} {pos : Pos}
theorem pe_ix {r : R2} (hr : IxR X r) (ha : PE X a ta) (hb : PE X b tb) (hs : PlainIx b) : PE X (.Subscript a b pos) (tOp r ta tb) := by
  intro pins s σ H Q I h
  exact Subscript_ (binT ha hb I h fun v u s2 x y H2 I2 rx ry q => hr a b pins s2 σ H2 x y v u Q I2 rx ry q (hs _ _))
def rIxL (K : PySem.W.Frag) : R2 := fun x y H Q => ∃ p xs i v, x = .ref p ∧ y = .int i ∧ SqL K H p xs ∧ atI xs i = some v ∧ Q v H
def rIxT (K : PySem.W.Frag) : R2 := fun x y H Q => ∃ p xs i v, x = .ref p ∧ y = .int i ∧ SqT K H p xs ∧ atI xs i = some v ∧ Q v H
theorem ix_list : IxR X (rIxL X.K) := by
  intro value slice pins s σ H x y v u Q I rx ry h hs
  obtain ⟨p, xs, i, z, rfl, rfl, hq, he, q⟩ := h
  cases rx
  obtain ⟨t, rfl⟩ := ry
  obtain ⟨its, r, pl, hz⟩ := I.list hq
  obtain ⟨j, h1, h2, h3, h4, h5⟩ := atI_get he
  obtain ⟨w, ew, rw'⟩ := r.get h2
  have hl := r.length
  have hn := line63
  have fin : EP X pins σ Q w s := ⟨z, H, I, rw', q⟩
  by_cases h0 : 0 ≤ i
  · have hj : i.toNat = j := by
      rw [seqIndex_of h0 h5] at h1
      exact Option.some.inj h1
    exact item_listR pl.isList h0 (by omega) (by rw [hj]; simpa using ew) fin hs
  · have hj : (i + (its.toArray.size : Int)).toNat = j := by
      rw [seqIndex_neg (by omega) h4] at h1
      rw [List.size_toArray, ← hl]
      exact Option.some.inj h1
    exact subscriptTail_builtinR (x := w) pl.isList.typeIs slot_list_getitem.lookup
      (wpAny_getItem_list_neg (Q := fun r s' => r = w ∧ EP X pins σ Q r s') pl.isList (by omega) (by rw [List.size_toArray] <;> omega) (by omega) (by rw [hj]; simpa using ew) ⟨rfl, fin⟩) hs
theorem ix_tup : IxR X (rIxT X.K) := by
  intro value slice pins s σ H x y v u Q I rx ry h hs
  obtain ⟨p, xs, i, z, rfl, rfl, hq, he, q⟩ := h
  cases rx
  obtain ⟨t, rfl⟩ := ry
  obtain ⟨its, r, pl, hz⟩ := I.tuple hq
  obtain ⟨j, h1, h2, h3, h4, h5⟩ := atI_get he
  obtain ⟨w, ew, rw'⟩ := r.get h2
  have hl := r.length
  have hn := line63
  have fin : EP X pins σ Q w s := ⟨z, H, I, rw', q⟩
  exact subscriptTail_builtinR (x := w) pl.typeIs slot_tuple_getitem.lookup
    (getItem_tuple (j := j) (Q := fun r s' => r = w ∧ EP X pins σ Q r s') pl (by omega) (by omega) (by rw [List.size_toArray, ← hl]; exact h1) (by simpa using ew) ⟨rfl, fin⟩) hs
theorem mapSeq_set (its : List Value) (n j : Nat) (u : Value) : Obj.mapSeq (·.setIfInBounds j u) { cls := .type "list", data := .seq its.toArray n } = { cls := .type "list", data := .seq (its.set j u).toArray n } := by
  simp [Obj.mapSeq]
theorem Inv.lst {pins : List (Addr × Obj)} {σ : St} {H : Hp} {s : Shared} {p : Addr} {xs : List V} (I : Inv X pins σ H s) (h : H p = some (.lst xs)) :
    ∃ (its : List Value) (n : Nat), Vals xs its ∧ s.heap.get? p = some { cls := .type "list", data := .seq its.toArray n } ∧ xs.length ≤ sizeLine := by
  obtain ⟨z, its, n, r, e⟩ := I.hok p _ h
  exact ⟨its, n, r, e, z⟩
theorem Inv.lstUpd {pins : List (Addr × Obj)} {σ : St} {H : Hp} {s : Shared} {p : Addr} {xs ys : List V} {its its' : List Value} {n n' : Nat} {f : Obj → Obj} (I : Inv X pins σ H s) (h : H p = some (.lst xs))
    (ho : s.heap.get? p = some { cls := .type "list", data := .seq its.toArray n }) (hf : f { cls := .type "list", data := .seq its.toArray n } = { cls := .type "list", data := .seq its'.toArray n' }) (r : Vals ys its') (hz : ys.length ≤ sizeLine) (t : Nat) :
    Inv X pins σ (upd H p (.lst ys)) { s with heap := s.heap.update p f, toks := t } := by
  have e : (s.heap.update p f).get? p = some { cls := .type "list", data := .seq its'.toArray n' } := by
    rw [Heap.get?_update_self f ho (by rw [hf] <;> rfl), hf]
  refine I.write (x := p) (e := p) (by rw [h]; trivial) (.inl rfl) (fun b u hb q => (Heap.get?_update_other _ _ (Ne.symm hb)).trans q) ⟨_, e⟩ ?_
  exact ⟨hz, its', n', r, e⟩
def rSetL : V → V → V → Hp → (Hp → Prop) → Prop := fun o i v H Q => ∃ p xs k j, o = .ref p ∧ i = .int k ∧ H p = some (.lst xs) ∧ ixN xs.length k = some j ∧ Q (upd H p (.lst (xs.set j v)))
theorem set_list : PSet X rSetL := by
  intro pins s σ H o i v ov iv u Q I ro ri rv h
  obtain ⟨p, xs, k, j, rfl, rfl, hp, hj, q⟩ := h
  cases ro
  obtain ⟨t, rfl⟩ := ri
  obtain ⟨its, n, r, ho, hz⟩ := I.lst hp
  obtain ⟨h1, h2, h3, h4⟩ := ixN_seq hj
  have hl := r.length
  have hn := line63
  have I' : Inv X pins σ (upd H p (.lst (xs.set j v))) { s with heap := s.heap.update p (Obj.mapSeq (·.setIfInBounds j u)) } :=
    I.lstUpd hp ho (mapSeq_set its n j u) (r.set rv j) (by rw [List.length_set]; exact hz) s.toks
  by_cases h0 : 0 ≤ k
  · have hk : k.toNat = j := by
      rw [seqIndex_of h0 h4] at h1
      exact Option.some.inj h1
    exact PySem.W.ki_setAt ho h0 (by omega) (by rw [List.size_toArray, ← hl]; exact h4) (by rw [hk]; exact ⟨_, I', q⟩)
  · have hk : (k + (its.toArray.size : Int)).toNat = j := by
      rw [seqIndex_neg (by omega) h3] at h1
      rw [List.size_toArray, ← hl]
      exact Option.some.inj h1
    exact PySem.W.ki_setBack ho (by omega) (by rw [List.size_toArray, ← hl]; exact h3) (by omega) (by rw [hk]; exact ⟨_, I', q⟩)
theorem slice_bounds (lo hi : Option Int) (n : Nat) : (sliceBounds lo hi none n).1 = ((HT.sIx n 0 lo : Nat) : Int) ∧ (sliceBounds lo hi none n).2.1 = ((HT.sIx n n hi : Nat) : Int) ∧ (sliceBounds lo hi none n).2.2 = 1 := by
  refine ⟨?_, ?_, rfl⟩
  · cases lo with
    | none => simp [sliceBounds, HT.sIx]
    | some i =>
      simp only [sliceBounds, HT.sIx, Option.getD_none, show (1 : Int) > 0 by decide, if_true]
      by_cases h : i < 0
      · simp only [h, if_true] <;> omega
      · simp only [h, if_false] <;> omega
  · cases hi with
    | none => simp [sliceBounds, HT.sIx]
    | some i =>
      simp only [sliceBounds, HT.sIx, Option.getD_none, show (1 : Int) > 0 by decide, if_true]
      by_cases h : i < 0
      · simp only [h, if_true] <;> omega
      · simp only [h, if_false] <;> omega
theorem slicePick_cut (its : List Value) (lo hi : Option Int) : slicePick its.toArray lo hi none = ((its.drop (HT.sIx its.length 0 lo)).take (HT.sIx its.length its.length hi - HT.sIx its.length 0 lo)).toArray := by
  obtain ⟨h1, h2, h3⟩ := slice_bounds lo hi its.toArray.size
  unfold slicePick
  rw [h1, h2, h3]
  simp only [sliceRange_one, pick_run, List.size_toArray] <;> rfl
def rSlL (K : PySem.W.Frag) : V → Option Int → Option Int → Hp → VK → Prop := fun x lo hi H Q => ∃ a xs, x = .ref a ∧ SqL K H a xs ∧ ∀ p, H p = none → Q (.ref p) (upd H p (.lst (cutV xs lo hi)))
theorem sl_list : SlR X (rSlL X.K) := by
  intro pins s σ H x v vl vu lo hi sl Q I rx hs pl pu h
  obtain ⟨a, xs, rfl, hx, q⟩ := h
  cases rx
  obtain ⟨its, r, ht, hz⟩ := I.list hx
  have hlen := r.length
  refine ⟨"list", _, slot_list_getitem.lookup, ht.isList.typeIs, ?_⟩
  refine wpAny_getItem_list_slice ht.isList hs pl pu .none (by simp) ?_ (by rw [List.size_toArray] <;> omega)
  rw [slicePick_cut, ← hlen]
  refine ⟨.ref s.heap.objs.size, _, I.laid (t' := s.toks) (o := .lst (cutV xs lo hi)) (fun b ob q => Heap.get?_push_of_some _ q) (Nat.le_refl _) ?_, rfl, q _ (I.hok.fresh (Nat.le_refl _))⟩
  exact ⟨Nat.le_trans (cutV_length xs lo hi) hz, _, 0, (r.drop (HT.sIx xs.length 0 lo)).take (HT.sIx xs.length xs.length hi - HT.sIx xs.length 0 lo), Heap.get?_push_size _ rfl⟩
def flatV : V → Bool
  | .non => true
  | .bl _ => true
  | .int _ => true
  | .str _ => true
  | _ => false
def eqV : V → V → Bool
  | .non, .non => true
  | .bl a, .bl b => a == b
  | .bl a, .int b => (if a then 1 else 0) == b
  | .int a, .bl b => a == (if b then 1 else 0)
  | .int a, .int b => a == b
  | .str a, .str b => a == b
  | _, _ => false
theorem eqAt_V {A : Around} {s : Shared} {y x : V} {u v : Value} (ry : RelV y u) (rx : RelV x v) (fy : flatV y = true) (fx : flatV x = true) : SeqAt.EqAt A s u v (eqV y x) := by
  cases y with
  | non =>
    cases ry
    cases x with
    | non => cases rx; exact SeqAt.EqAt.same _
    | bl b => cases rx; exact SeqAt.EqAt.none_bool b
    | int b => obtain ⟨t, rfl⟩ := rx; exact SeqAt.EqAt.none_int b t
    | str b => obtain ⟨t, rfl⟩ := rx; exact SeqAt.EqAt.none_str b t
    | _ => exact absurd (show false = true from fx) Bool.false_ne_true
  | bl a =>
    cases ry
    cases x with
    | non => cases rx; exact SeqAt.EqAt.bool_none a
    | bl b => cases rx; exact SeqAt.EqAt.bool_bool a b
    | int b => obtain ⟨t, rfl⟩ := rx; exact SeqAt.EqAt.bool_int a b t
    | str b => obtain ⟨t, rfl⟩ := rx; exact SeqAt.EqAt.bool_str a b t
    | _ => exact absurd (show false = true from fx) Bool.false_ne_true
  | int a =>
    obtain ⟨t', rfl⟩ := ry
    cases x with
    | non => cases rx; exact SeqAt.EqAt.int_none a t'
    | bl b => cases rx; exact SeqAt.EqAt.int_bool a t' b
    | int b => obtain ⟨t, rfl⟩ := rx; exact SeqAt.EqAt.int_int a t' b t
    | str b => obtain ⟨t, rfl⟩ := rx; exact SeqAt.EqAt.int_str a t' b t
    | _ => exact absurd (show false = true from fx) Bool.false_ne_true
  | str a =>
    obtain ⟨t', rfl⟩ := ry
    cases x with
    | non => cases rx; exact SeqAt.EqAt.str_none a t'
    | bl b => cases rx; exact SeqAt.EqAt.str_bool a t' b
    | int b => obtain ⟨t, rfl⟩ := rx; exact SeqAt.EqAt.str_int a t' b t
    | str b => obtain ⟨t, rfl⟩ := rx; exact SeqAt.EqAt.str_str a t' b t
    | _ => exact absurd (show false = true from fx) Bool.false_ne_true
  | _ => exact absurd (show false = true from fy) Bool.false_ne_true
def eqU (x : V) (u : Value) : Bool := match u with
  | .none => eqV .non x
  | .bool b => eqV (.bl b) x
  | .int i _ => eqV (.int i) x
  | .str z _ => eqV (.str z) x
  | _ => false
theorem eqU_of {x y : V} {u : Value} (r : RelV y u) (f : flatV y = true) : eqU x u = eqV y x := by
  cases y with
  | non => cases r; rfl
  | bl b => cases r; rfl
  | int i => obtain ⟨t, rfl⟩ := r; rfl
  | str z => obtain ⟨t, rfl⟩ := r; rfl
  | _ => exact absurd (show false = true from f) Bool.false_ne_true
theorem any_eqU {x : V} : ∀ {xs : List V} {us : List Value}, Vals xs us → xs.all flatV = true → us.any (eqU x) = xs.any fun y => eqV y x
  | _, _, .nil, _ => rfl
  | y :: xs, u :: us, .cons r t, f => by
    rw [List.all_cons, Bool.and_eq_true] at f
    rw [List.any_cons, List.any_cons, eqU_of r f.1, any_eqU t f.2]
theorem mem_eqAt {A : Around} {s : Shared} {x : V} {v : Value} (rx : RelV x v) (fx : flatV x = true) : ∀ {xs : List V} {us : List Value}, Vals xs us → xs.all flatV = true → ∀ u ∈ us, SeqAt.EqAt A s u v (eqU x u)
  | _, _, .nil, _ => fun u hu => by cases hu
  | y :: xs, u :: us, .cons r t, f => fun u' hu => by
    rw [List.all_cons, Bool.and_eq_true] at f
    rcases List.mem_cons.mp hu with rfl | hu
    · rw [eqU_of r f.1]; exact eqAt_V r rx f.1 fx
    · exact mem_eqAt rx fx t f.2 u' hu
def inV (x : V) (xs : List V) : Bool := xs.any fun y => eqV y x
def rIn (K : PySem.W.Frag) (neg : Bool) : R2 := fun x y H Q => ∃ p xs, y = .ref p ∧ (SqL K H p xs ∨ SqT K H p xs) ∧ flatV x = true ∧ xs.all flatV = true ∧ Q (.bl (if neg then !inV x xs else inV x xs)) H
theorem op_in_seq : OpR X (compareOp .In) (rIn X.K false) := by
  intro pins s σ H x y v u Q I rx ry h
  obtain ⟨p, xs, rfl, hq, fx, fs, q⟩ := h
  cases ry
  rcases hq with hq | hq
  · obtain ⟨its, r, pl, hz⟩ := I.list hq
    refine SeqAt.in_listAt (eqU x) pl.isList (fun w hw => mem_eqAt rx fx r fs w (by simpa using hw)) ⟨.bl _, H, I, rfl, ?_⟩
    rw [show its.toArray.any (eqU x) = its.any (eqU x) by simp, any_eqU r fs]
    exact q
  · obtain ⟨its, r, pl, hz⟩ := I.tuple hq
    refine SeqAt.in_tupleAt (eqU x) pl (fun w hw => mem_eqAt rx fx r fs w (by simpa using hw)) ⟨.bl _, H, I, rfl, ?_⟩
    rw [show its.toArray.any (eqU x) = its.any (eqU x) by simp, any_eqU r fs]
    exact q
theorem op_notIn_seq : OpR X (compareOp .NotIn) (rIn X.K true) := by
  intro pins s σ H x y v u Q I rx ry h
  obtain ⟨p, xs, rfl, hq, fx, fs, q⟩ := h
  cases ry
  rcases hq with hq | hq
  · obtain ⟨its, r, pl, hz⟩ := I.list hq
    refine SeqAt.notIn_listAt (eqU x) pl.isList (fun w hw => mem_eqAt rx fx r fs w (by simpa using hw)) ⟨.bl _, H, I, rfl, ?_⟩
    rw [show its.toArray.any (eqU x) = its.any (eqU x) by simp, any_eqU r fs]
    exact q
  · obtain ⟨its, r, pl, hz⟩ := I.tuple hq
    refine SeqAt.notIn_tupleAt (eqU x) pl (fun w hw => mem_eqAt rx fx r fs w (by simpa using hw)) ⟨.bl _, H, I, rfl, ?_⟩
    rw [show its.toArray.any (eqU x) = its.any (eqU x) by simp, any_eqU r fs]
    exact q
theorem call_len_seq : CallR X (.builtin "len") (fun xs H Q => ∃ p ys, xs = [.ref p] ∧ (SqL X.K H p ys ∨ SqT X.K H p ys) ∧ Q (.int ys.length) H) := by
  intro pins s σ H xs us Q I r h
  obtain ⟨p, ys, rfl, hq, q⟩ := h
  obtain ⟨u, rfl, rx⟩ := vals1 r
  cases rx
  have hn := line63
  rcases hq with hq | hq
  · obtain ⟨its, r', pl, hz⟩ := I.list hq
    have hlen := r'.length
    exact Calls.call_len_list pl.isList (by simp only [List.size_toArray] <;> omega) ⟨.int ys.length, H, I.tok _, ⟨s.toks + 1, by rw [List.size_toArray, hlen]⟩, q⟩
  · obtain ⟨its, r', pl, hz⟩ := I.tuple hq
    have hlen := r'.length
    exact len_tuple pl (by simp only [List.size_toArray] <;> omega) ⟨.int ys.length, H, I.tok _, ⟨s.toks + 1, by rw [List.size_toArray, hlen]⟩, q⟩
theorem call_len_str : CallR X (.builtin "len") (fun xs H Q => ∃ z, xs = [.str z] ∧ z.length ≤ sizeLine ∧ Q (.int z.length) H) := by
  intro pins s σ H xs us Q I r h
  obtain ⟨z, rfl, hz, q⟩ := h
  obtain ⟨u, rfl, t, rfl⟩ := vals1 r
  have hn := line63
  exact len_str (by omega) ⟨.int z.length, H, I.tok _, ⟨_, rfl⟩, q⟩
theorem call_list_of : CallR X (.type "list") (fun xs H Q => ∃ p ys, xs = [.ref p] ∧ (SqL X.K H p ys ∨ SqT X.K H p ys) ∧ ∀ l, H l = none → Q (.ref l) (upd H l (.lst ys))) := by
  intro pins s σ H xs us Q I r h
  obtain ⟨p, ys, rfl, hq, q⟩ := h
  obtain ⟨u, rfl, rx⟩ := vals1 r
  cases rx
  have fin : ∀ (its : List Value), Vals ys its → ys.length ≤ sizeLine → ∀ (h' : Heap) (c' : Nat), (∀ b o', s.heap.get? b = some o' → h'.get? b = some o') →
      h'.get? s.heap.objs.size = some { cls := .type "list", dict := none, data := .seq its.toArray c', slots := #[] } → EP X pins σ Q (.ref s.heap.objs.size) { s with heap := h' } := fun its r' hz h' c' kp e =>
    ⟨.ref s.heap.objs.size, _, I.laid (t' := s.toks) kp (Nat.le_refl _) (show ObjOk X.prog X.w _ h' _ (.lst ys) from ⟨hz, its, c', r', e⟩), rfl, q _ (I.hok.fresh (Nat.le_refl _))⟩
  rcases hq with hq | hq
  · obtain ⟨its, r', pl, hz⟩ := I.list hq
    have hlen := r'.length
    obtain ⟨o, ho, hc, n, hd⟩ := pl.isList
    exact call_list_seq p (.inl rfl) ho hc hd (fun h' c' kp e => fin its r' hz h' c' kp e) (by simp only [List.size_toArray] <;> omega)
  · obtain ⟨its, r', pl, hz⟩ := I.tuple hq
    have hlen := r'.length
    obtain ⟨o, ho, hc, n, hd⟩ := pl
    exact call_list_seq p (.inr rfl) ho hc hd (fun h' c' kp e => fin its r' hz h' c' kp e) (by simp only [List.size_toArray] <;> omega)
theorem call_tuple_of : CallR X (.type "tuple") (fun xs H Q => ∃ p ys, xs = [.ref p] ∧ ((SqL X.K H p ys ∧ ∀ l, H l = none → Q (.ref l) (upd H l (.tup ys))) ∨ (SqT X.K H p ys ∧ Q (.ref p) H))) := by
  intro pins s σ H xs us Q I r h
  obtain ⟨p, ys, rfl, h⟩ := h
  obtain ⟨u, rfl, rx⟩ := vals1 r
  cases rx
  rcases h with ⟨hq, q⟩ | ⟨hq, q⟩
  · obtain ⟨its, r', pl, hz⟩ := I.list hq
    have hlen := r'.length
    refine call_tuple_list pl.isList (fun h' kp => ?_) (by simp only [List.size_toArray] <;> omega)
    have I1 : Inv X pins σ H { s with heap := h' } := I.kept (t' := s.toks) kp
    have I2 : Inv X pins σ (upd H h'.objs.size (.tup ys)) { s with heap := h'.push { cls := .type "tuple", data := .seq its.toArray } } :=
      I1.laid (t' := s.toks) (fun b o e => Heap.get?_push_of_some _ e) (Nat.le_refl _) (show ObjOk X.prog X.w _ _ _ (.tup ys) from ⟨hz, its, r', IsTup.new _ _⟩)
    exact ⟨.ref h'.objs.size, _, I2, rfl, q _ (I1.hok.fresh (Nat.le_refl _))⟩
  · obtain ⟨its, r', pl, hz⟩ := I.tuple hq
    exact call_tuple_same pl ⟨.ref p, H, I, rfl, q⟩
def tyV (K : PySem.W.Frag) (T : String) (x : V) (H : Hp) : Prop := match x with
  | .str _ => T = "str"
  | .int _ => T = "int"
  | .ref p => (T = "list" ∧ ∃ xs, SqL K H p xs) ∨ (T = "tuple" ∧ ∃ o, K.lookup p = some o ∧ o.cls = .type "tuple" ∧ o.dict = none) ∨
      (T = "dict" ∧ ((∃ kvs, H p = some (.dK kvs)) ∨ ∃ kvs, H p = some (.dT kvs))) ∨ (T = "set" ∧ ∃ S n, H p = some (.set S n))
  | _ => False
theorem tyV_is {pins : List (Addr × Obj)} {σ : St} {H : Hp} {s : Shared} {T : String} {x : V} {v : Value} (I : Inv X pins σ H s) (r : RelV x v) (ty : tyV X.K T x H) :
    s.TypeIs v T ∧ ∀ a, v = .ref a → ∃ ob, s.heap.get? a = some ob ∧ ob.dict = none := by
  cases x with
  | str z =>
    obtain ⟨t, rfl⟩ := r
    cases (show T = "str" from ty)
    exact ⟨typeIs_str s z t, fun _ e => nomatch e⟩
  | int i =>
    obtain ⟨t, rfl⟩ := r
    cases (show T = "int" from ty)
    exact ⟨typeIs_int s i t, fun _ e => nomatch e⟩
  | ref p =>
    cases r
    rcases ty with ⟨rfl, xs, hq⟩ | ⟨rfl, o, hk, hc, hd⟩ | ⟨rfl, hk⟩ | ⟨rfl, S, n, hk⟩
    · obtain ⟨its, _, pl, _⟩ := I.list hq
      refine ⟨pl.isList.typeIs, fun a e => ?_⟩
      cases e
      obtain ⟨o, n, e, c, hd, _⟩ := pl
      exact ⟨o, e, hd⟩
    · refine ⟨⟨o, I.kIn p o hk, hc⟩, fun a e => ?_⟩
      cases e
      exact ⟨o, I.kIn _ o hk, hd⟩
    · have z : ∃ o, s.heap.get? p = some o ∧ o.ExactDict := by
        rcases hk with ⟨kvs, hk⟩ | ⟨kvs, hk⟩
        · obtain ⟨_, _, _, _, o, _, _, e, ex, _⟩ := I.hok p _ hk
          exact ⟨o, e, ex⟩
        · obtain ⟨_, _, _, _, o, _, _, e, ex, _⟩ := I.hok p _ hk
          exact ⟨o, e, ex⟩
      obtain ⟨o, e, ex⟩ := z
      refine ⟨⟨o, e, ex.1⟩, fun a e2 => ?_⟩
      cases e2
      exact ⟨o, e, ex.2.1⟩
    · obtain ⟨o, _, _, _, e, ex, _⟩ := I.hok p _ hk
      refine ⟨⟨o, e, ex.1⟩, fun a e2 => ?_⟩
      cases e2
      exact ⟨o, e, ex.2.1⟩
  | _ => exact False.elim ty
def tBM (K : PySem.W.Frag) (T : String) (r : V → List V → Hp → VK → Prop) (to : TE) (t : TA) : TE := fun σ H Q => to σ H fun x H1 => tyV K T x H1 ∧ t σ H1 fun xs H2 => r x xs H2 Q
variable {o e : Expr} {es : List Expr} {to : TE} {t : TA} {name : Str} {apos cpos : Pos} {T id : String} {r : V → List V → Hp → VK → Prop}
theorem pe_bm (pa : PlainAttrs T) (slot : Slot T name id) (hty : typeOf (.builtin id) = pure (.type "method_descriptor")) (hm : MtR X id r) (ho : PE X o to) (ha : PA X (e :: es) t)
    (hbase : attributeBase o name X.env (eval o X.env) = eval o X.env := by rfl)
    (hfew : ((backTo cpos (starEach (e :: es) X.env)).all (fun x => !x.1) && (backToKw cpos (keywordEach [] X.env)).all (fun x => x.1.isSome)
      && decide ((e :: es).length + ([] : List Keyword).length + (if ([] : List Keyword).isEmpty then 0 else 1) < 30)) = true := by rfl)
    (hline : (apos.endLine == cpos.line) = true := by rfl) (hs : starEach (e :: es) X.env = (false, eval e X.env) :: starEach es X.env := by rfl) (hplain : (backTo cpos (starEach es X.env)).any (·.1) = false := by rfl) :
    PE X (.Call (.Attribute o name apos) (e :: es) [] cpos) (tBM X.K T r to t) := by
  intro pins s σ H Q I h
  refine wpAny_Call_method_late hbase hfew hline rfl (thn (ho pins s σ H _ I h) fun v s1 ⟨x, H1, I1, r1, ty, q1⟩ => ?_)
  obtain ⟨h1, h2⟩ := tyV_is I1 r1 ty
  refine ⟨T, id, pa, slot, hty, h1, h2, ?_⟩
  have hA := ha cpos pins s1 σ H1 _ I1 q1
  rw [hs] at hA ⊢
  refine Calls.callWith_builtin (by show (false || (backTo cpos (starEach es X.env)).any (·.1)) = false; rw [hplain] <;> rfl) (Calls.evalArgs_plain ?_)
  exact thn hA fun us s2 ⟨vs, H2, I2, r2, q2⟩ => hm pins s2 σ H2 x vs v us Q I2 r1 r2 q2
end
end L2
namespace L2
open PySem PySem.Spec PyProof.Rows
def MtM (X : Cx) (id : String) (r : V → List V → Hp → VK → Prop) : Prop :=
  ∀ (pins : List (Addr × Obj)) (s : Shared) (σ : St) (H : Hp) (x : V) (xs : List V) (v : Value) (us : List Value) (Q : VK), Inv X pins σ H s → RelV x v → Vals xs us → r x xs H Q →
    wpAny (model X.prog X.w) X.A (call (.builtin id) (v :: us)) (EP X pins σ Q) X.xe s
theorem Vals.one : ∀ {x : V} {us : List Value}, Vals [x] us → ∃ u, us = [u] ∧ RelV x u
  | _, _, .cons r .nil => ⟨_, rfl, r⟩
theorem Vals.two : ∀ {x y : V} {us : List Value}, Vals [x, y] us → ∃ u v, us = [u, v] ∧ RelV x u ∧ RelV y v
  | _, _, _, .cons r (.cons q .nil) => ⟨_, _, rfl, r, q⟩
theorem Vals.zero : ∀ {us : List Value}, Vals [] us → us = []
  | _, .nil => rfl
theorem Vals.eraseIdx : ∀ {xs : List V} {us : List Value} (i : Nat), Vals xs us → Vals (xs.eraseIdx i) (us.eraseIdx i)
  | _, _, _, .nil => .nil
  | _, _, 0, .cons _ t => t
  | _, _, i + 1, .cons r t => .cons r (Vals.eraseIdx i t)
section
variable {X : Cx} {pins : List (Addr × Obj)} {σ : St} {H : Hp} {s : Shared} {l b : Addr} {xs ys zs : List V}
theorem Inv.lset {its its' : List Value} {n : Nat} {f : Array Value → Array Value} {t' : Nat} (I : Inv X pins σ H s) (hH : H l = some (.lst xs))
    (e : s.heap.get? l = some { cls := .type "list", data := .seq its.toArray n }) (hf : f its.toArray = its'.toArray) (hv : Vals ys its') (hz : ys.length ≤ sizeLine) :
    Inv X pins σ (upd H l (.lst ys)) { s with heap := s.heap.update l (Obj.mapSeq f), toks := t' } := by
  have q := PySem.IsL.update e f
  rw [hf] at q
  refine I.write (x := l) (e := l) (by rw [hH]; exact trivial) (.inl rfl) (fun b' u hb hu => (Heap.get?_update_other s.heap (Obj.mapSeq f) (Ne.symm hb)).trans hu) ⟨_, q⟩ ?_
  exact ⟨hz, its', _, hv, q⟩
theorem Inv.fresh (I : Inv X pins σ H s) : H s.heap.objs.size = none := I.hok.fresh (Nat.le_refl _)
theorem Inv.lstM (I : Inv X pins σ H s) (hH : H l = some (.lst xs)) : xs.length ≤ sizeLine ∧ ∃ (its : List Value) (n : Nat), Vals xs its ∧ xs.length = its.length ∧ s.heap.get? l = some { cls := .type "list", data := .seq its.toArray n } := by
  obtain ⟨z, its, n, r, e⟩ := I.hok l _ hH
  exact ⟨z, its, n, r, r.length, e⟩
end
section
variable {X : Cx}
def rAppend : V → List V → Hp → VK → Prop := fun x vs H Q => ∃ l xs y, x = .ref l ∧ vs = [y] ∧ H l = some (.lst xs) ∧ xs.length < sizeLine ∧ Q .non (upd H l (.lst (xs ++ [y])))
theorem mt_append : MtM X "list.append" rAppend := by
  intro pins s σ H x vs v us Q I rx rv h
  obtain ⟨l, xs, y, rfl, rfl, hH, hz, q⟩ := h
  cases rx
  obtain ⟨u, rfl, ru⟩ := rv.one
  obtain ⟨z, its, n, r, hl, e⟩ := I.lstM hH
  refine call_meets F.slot_list_append ⟨_, e, rfl⟩ F.entry_list_append (F.args_list_append_2 _ _) (PySem.list_append l its.toArray n u (by rw [List.size_toArray]; omega)) ⟨e, ?_⟩
  refine ⟨.non, _, I.lset (its' := its ++ [u]) hH e (by simp) (r.append (.cons ru .nil)) ?_, rfl, q⟩
  rw [List.length_append, List.length_singleton]
  omega
end
section
variable {prog : Program} {w : World} {A : Around} {E : Value → Shared → Prop} {s : Shared}
end
section
variable {X : Cx}
end
end L2
namespace Att
open PySem PySem.W PySem.Calls PyProof.Rows
theorem ints_of_wellAll {P : Params} {h : Heap} : ∀ (ns : List Int) (vs : List Value), WellAll P h vs (ns.map WData.int) → IntsAre vs ns := by
  intro ns
  induction ns with
  | nil =>
    intro vs w
    rw [List.map_nil] at w
    cases w
    exact .nil
  | cons n ns ih =>
    intro vs w
    rw [List.map_cons] at w
    cases w with
    | cons a b =>
      cases a
      exact .cons _ _ (ih _ b)
theorem script_of {l : OpenLaw} {n : Nat} (hn : l.most = some n) {P : Params} {h : Heap} {args : List WData} {vals : List Value}
    (hpre : l.row.toRowW.claim.pre args = true) (hwl : WellAll P h vals args) :
    ∃ a vs ns, vals = [Value.ref a] ∧ args = [WData.list (ns.map WData.int)] ∧ h.get? a = some { cls := .type "list", data := .seq vs.toArray } ∧ IntsAre vs ns ∧ ns.length ≤ n := by
  have hsh : WShape.hasAll [] args [.list .int] = true := (pre_splitW hpre).1
  have hc : l.pre.holds [] { args := args } = true := (pre_splitW hpre).2
  obtain ⟨d, r, rfl, h1, h2⟩ := hasAllW_cons hsh
  obtain rfl := hasAllW_nil h2
  obtain ⟨xs, rfl, h3⟩ := hasW_list h1
  obtain ⟨ns, rfl⟩ := items_int h3
  have hlen : ns.length ≤ n := by
    unfold OpenLaw.pre at hc
    have h4 : (WTm.not (.lt (.lit (.int (n : Int))) (.len (.arg 0)))).holds [] { args := [.list (ns.map .int)] } = true := by
      have h4 := (holds_andW hc).1
      rw [hn] at h4
      exact h4
    have h5 := condW_of h4 (w_not (w_lt w_lit (w_len_list (w_arg rfl))))
    rw [List.length_map] at h5
    refine Nat.le_of_not_lt fun q => ?_
    have q' : (n : Int) < ((ns.length : Nat) : Int) := by omega
    first
      | (rw [decide_eq_true q'] at h5; exact absurd h5 (by decide))
      | (simp at h5; omega)
  cases hwl with
  | cons w1 w2 =>
    cases w2
    cases w1 with
    | list ho hall => exact ⟨_, _, ns, rfl, rfl, ho, ints_of_wellAll ns _ hall, hlen⟩
theorem post_true (l : OpenLaw) (args : List WData) : l.row.toRowW.claim.post args (.bool true) args = true :=
  postW_of (r := l.row.toRowW) (X := (true == true))
    (show WShape.has [] (.bool true) .bool = true by first | rfl | decide | simp [WShape.has, WShape.arms, WShape.armsAll])
    (show (WTm.eq .res (.lit (.bool true))).value [] { args := args, res := some (.bool true), after := args } = some (.bool (true == true)) from w_eq_bool (w_res rfl) w_lit) rfl
theorem attach_call {l : OpenLaw} {n : Nat} {q : Program} {loose : List Str} {XP : (Str → Option Value) → Heap → Prop} {YP : World → Heap → Prop} {d : DefRec}
    (hn : l.most = some n) (hdf : d.params.defaults = [])
    (call : ∀ (w : World) (s₀ s₁ : Shared) (mg mb : Str → Option Value) (fa : Addr) (o : Obj) (pm cd doc : Value) (a : Addr) (vs : List Value) (ns : List Int),
      Ground q loose [] XP w s₀ mg mb s₁.heap → YP w s₁.heap →
      s₁.heap.get? fa = some o → o.data = .func (docDef d.name d.params d.body d.scope pm cd doc) → s₁.heap.CodeRec cd d.name → mg d.name = some (.ref fa) →
      s₁.heap.get? a = some { cls := .type "list", data := .seq vs.toArray } → IntsAre vs ns → ns.length ≤ n → s₁.gens = #[] →
      codeAny (model l.prog w) callerA (.call (.ref fa) ⟨[.ref a], []⟩) (fun r s' => r = .ok (.ret (.bool true)) ∧ OldK s₁.heap s'.heap ∧ s'.os = s₁.os ∧ AllBare s'.gens) s₁) :
    WalkO q loose XP YP l.row.toRowW d [] (fun f vs => PySem.call f vs) := by
  intro w s₀ s₁ mg mb G Y fa o pm cd doc dV kV ho hd hcd hD hmg hg args vals as hpre hlay hrd hwl hlo
  obtain rfl : dV = .none := Dflts.none hD hdf
  obtain rfl : kV = .none := Dflts.noKw hD
  obtain ⟨a, vs, ns, rfl, rfl, hobj, hints, hlen⟩ := script_of hn hpre hwl
  refine enter_call (codeAny_mono (call w s₀ s₁ mg mb fa o pm cd doc a vs ns G Y ho (fd_plain hd) hcd hmg hobj hints hlen hg) fun r s' hq => ?_)
  obtain ⟨rfl, h2, h3, h4⟩ := hq
  exact ⟨.inl ⟨.bool true, .bool true, [], rfl, fun _ => rfl, .bool true, post_true l _, fun _ => ⟨List.Pairwise.nil, fun _ hm => (nomatch hm)⟩⟩, h2, h3, h4⟩
section
variable {prog : Program} {w : World} {A : Around} {E : Value → Shared → Prop} {s : Shared} {K : Frag}
end
end Att
namespace L2
open PySem PySem.Spec PyProof.Rows
theorem vals_ints : ∀ {vs : List Value} {ns : List Int}, IntsAre vs ns → Vals (ns.map V.int) vs
  | _, _, .nil => .nil
  | _, _, .cons n t h => .cons ⟨t, rfl⟩ (vals_ints h)
def Only (H : Hp) : Prop := ∀ b, H b = none ∨ ∃ o xs, H b = some (.frz o (.lst xs))
theorem law_call {P : Program} {w : World} {K : PySem.W.Frag} {mg mb : Str → Option Value} {CX : CXT} {k : Nat} {fa a : Addr} {fd : FuncData} {x : Str} {sp : Sp} {s₁ : Shared} {vs : List Value} {ns : List Int}
    (KX : K.In s₁.heap) (hns : s₁.heap.Ns mainGlobals mg) (hb : s₁.heap.Ns builtinsNs mb) (hbb : ∀ x : Str, x ≠ "__name__" → mb x = bootBuiltins x) (hlim : s₁.heap.NoLimit) (hg : s₁.gens = #[])
    (ha : s₁.heap.get? a = some { cls := .type "list", data := .seq vs.toArray }) (hi : IntsAre vs ns) (hl : ns.length ≤ sizeLine) (hr : Room k callerA)
    (F : ∀ base : Heap, K.In base → base.Ns mainGlobals mg → FnOk P w K mg base CX k fa fd [x] sp) (hbind : ∀ (s : Shared) (u : Value), BindsTo s fd ⟨[u], []⟩ [(x, u)])
    (hsp : ∀ H : Hp, Only H → SqL K H a (ns.map V.int) → sp [.ref a] H (fun v _ => v = .bl true) fun _ _ _ => False)
    (hCX : ∀ H e s', CX [] H s₁ (fun _ _ _ => False) e s' → False) :
    codeAny (model P w) callerA (.call (.ref fa) ⟨[.ref a], []⟩) (fun r s' => r = .ok (.ret (.bool true)) ∧ OldK s₁.heap s'.heap ∧ s'.os = s₁.os ∧ AllBare s'.gens) s₁ := by
  have rv := vals_ints hi
  have lenV := hi.length
  have core : ∀ H : Hp, Only H → SqL K H a (ns.map V.int) → HOk P w H s₁.heap → (∀ b, H b ≠ none → b = a) → (H a ≠ none → K.lookup a = none) →
      codeAny (model P w) callerA (.call (.ref fa) ⟨[.ref a], []⟩) (fun r s' => r = .ok (.ret (.bool true)) ∧ OldK s₁.heap s'.heap ∧ s'.os = s₁.os ∧ AllBare s'.gens) s₁ := by
    intro H hO hS hok hA hK
    have base_of : ∀ {b : Addr} {o : Obj}, s₁.heap.get? b = some o → H b = none → (hidT s₁.heap H).get? b = some o := fun e n => hidT_get e n
    have noA : ∀ {b : Addr} {o : Obj} {es : Array DictEntry} {ep : Nat}, s₁.heap.get? b = some o → o.data = .dict es ep → H b = none := fun {b o es ep} e d => by
      cases q : H b with
      | none => rfl
      | some u =>
        have e' : b = a := hA b (by rw [q]; simp)
        subst e'
        rw [ha] at e; cases e
        have d' : Data.seq vs.toArray _ = Data.dict es ep := d
        cases d'
    have nsK : ∀ {b : Addr} {m : Str → Option Value}, s₁.heap.Ns b m → (hidT s₁.heap H).Ns b m := fun {b m} ⟨o, es, ep, e, d, r⟩ => ⟨o, es, ep, base_of e (noA e d), d, r⟩
    have hKb : K.In (hidT s₁.heap H) := fun b o e => base_of (KX b o e) (by
      cases q : H b with
      | none => rfl
      | some u =>
        have e' : b = a := hA b (by rw [q]; simp)
        subst e'
        rw [hK (by rw [q]; simp)] at e; cases e)
    have hM : Mod K mg (hidT s₁.heap H) := ⟨hKb, nsK hns, ⟨mb, nsK hb, hbb⟩, let ⟨mc, h1, h2⟩ := hlim; ⟨mc, nsK h1, h2⟩⟩
    have e0 : Env0 P w K mg (hidT s₁.heap H) callerA [] s₁ H := ⟨rfl, hM, fun b o e => of_hidT e, Nat.le_of_eq (hidT_size _ _), trivial, fun b hb => absurd (show b ∈ ([] : List Addr) from hb) (by simp), hok, .of_eq hg⟩
    refine codeAny_mono ((F _ hKb (nsK hns)).run callerA [] s₁ H ⟨[.ref a], []⟩ [.ref a] [.ref a] _ _ hr e0 (hbind s₁ (.ref a)) (.cons rfl .nil) (hsp H hO hS)) fun r s' h => ?_
    cases r with
    | error e => exact (hCX H e s' h).elim
    | ok fl =>
      cases fl with
      | next => exact False.elim h
      | brk => exact False.elim h
      | cont => exact False.elim h
      | ret u =>
        obtain ⟨v, H', os, bare, un, hok', r', q⟩ := h
        have q' : v = .bl true := q
        subst q'
        obtain rfl : u = Value.bool true := r'
        refine ⟨rfl, OldK.of_keep fun b o e => ?_, os, bare⟩
        cases q : H b with
        | none => exact un.keep b o e q (by intro z; exact absurd (show b ∈ ([] : List Addr) from z) (by simp)) (by simp)
        | some u =>
          rcases hO b with z | ⟨ob, xs, z⟩
          · rw [q] at z; cases z
          · have z2 := un.frzs b ob _ z
            obtain ⟨e1, _⟩ := hok b _ z
            obtain ⟨e2, _⟩ := hok' b _ z2
            rw [e] at e1; cases e1
            exact e2
  cases hk : K.lookup a with
  | some o =>
    have e := KX a o hk
    rw [ha] at e
    cases e
    refine core (fun _ => none) (fun _ => .inl rfl) (.inr ⟨_, vs.toArray, _, hk, rfl, rfl, rfl, by rw [List.size_toArray, lenV]; exact hl, by simpa using rv⟩) (fun b u z => by have z' : (none : Option HO) = some u := z; cases z') (fun b z => absurd rfl z) fun z => absurd rfl z
  | none =>
    refine core (fun b => if b = a then some (.frz { cls := .type "list", data := .seq vs.toArray } (.lst (ns.map V.int))) else none) (fun b => ?_) (.inl (.inr ⟨{ cls := .type "list", data := .seq vs.toArray }, if_pos rfl⟩)) (fun b u z => ?_) (fun b z => ?_) fun _ => hk
    · by_cases hb : b = a
      · exact .inr ⟨_, _, if_pos hb⟩
      · exact .inl (if_neg hb)
    · by_cases hb : b = a
      · have z' := (if_pos hb).symm.trans z
        cases z'
        subst hb
        exact ⟨ha, by rw [List.length_map]; exact hl, vs, _, rv, ha⟩
      · have z' := (if_neg hb).symm.trans z
        cases z'
    · by_cases hb : b = a
      · exact hb
      · exact absurd (if_neg hb) z
end L2
namespace L2
open PySem PySem.Spec PyProof.Rows
theorem walk_of {l : PySem.W.OpenLaw} {n k : Nat} {q : Program} {loose : List Str} {XP : (Str → Option Value) → Heap → Prop} {YP : World → Heap → Prop} {d : DefRec} {K : Params → PySem.W.Frag} {CX : World → CXT} {sp : World → Sp} {x : Str}
    (hn : l.most = some n) (hn2 : n ≤ sizeLine) (hdf : d.params.defaults = []) (hr : Room k callerA)
    (hY : ∀ (w : World) (h : Heap), YP w h → (K w.params).In h)
    (F : ∀ (w : World) (mg : Str → Option Value) (fa : Addr) (h : Heap), (K w.params).In h → h.Ns mainGlobals mg → mg d.name = some (.ref fa) →
      ∃ fd : FuncData, (∀ (s : Shared) (u : Value), BindsTo s fd ⟨[u], []⟩ [(x, u)]) ∧
        ∀ base : Heap, (K w.params).In base → base.Ns mainGlobals mg → FnOk l.prog w (K w.params) mg base (CX w) k fa fd [x] (sp w))
    (hsp : ∀ (w : World) (H : Hp) (a : Addr) (ns : List Int), ns.length ≤ n → Only H → SqL (K w.params) H a (ns.map V.int) → sp w [.ref a] H (fun v _ => v = .bl true) fun _ _ _ => False)
    (hCX : ∀ (w : World) (H : Hp) (s : Shared) (e : Value) (s' : Shared), CX w [] H s (fun _ _ _ => False) e s' → False) :
    PySem.W.WalkO q loose XP YP l.row.toRowW d [] (fun f vs => PySem.call f vs) := by
  refine Att.attach_call hn hdf fun w s₀ s₁ mg mb fa o pm cd doc a vs ns G Y ho hd hcd hmg hobj hints hlen hg => ?_
  have KX := hY w _ Y
  obtain ⟨fd, hb, hF⟩ := F w mg fa _ KX G.T.g hmg
  exact law_call KX G.T.g G.T.b G.T.builtins G.T.nolimit hg hobj hints (Nat.le_trans hlen hn2) hr hF hb (fun H hO hS => hsp w H a ns hlen hO hS) fun H e s' => hCX w H s₁ e s'
end L2
namespace L2
open PySem PySem.Spec PyProof.Rows
def defArgs (s : Stmt) : Arguments := match s with
  | .FunctionDef _ a _ _ _ _ _ _ _ _ => a
  | _ => { posonlyargs := [], args := [], vararg := none, kwonlyargs := [], kw_defaults := [], kwarg := none, defaults := [] }
def defBody (s : Stmt) : List Stmt := match s with
  | .FunctionDef _ _ b _ _ _ _ _ _ _ => b
  | _ => []
def defScope (s : Stmt) : Scope := match s with
  | .FunctionDef _ _ _ _ _ _ sc _ _ _ => sc
  | _ => { kind := .function, names := [], isGenerator := false, isCoroutine := false }
abbrev CX0 : CXT := fun _ _ _ _ _ _ => False
abbrev E0 : XK := fun _ _ _ => False
theorem pass0 {X : Cx} : Passes CX0 X E0 := fun _ _ _ _ _ _ _ h => h.elim
structure Fun (K : PySem.W.Frag) (x qual : Str) (st : Stmt) (f : Addr) (fd : FuncData) : Prop where
  ex : ∃ (oc : Value) (od : Option Addr) (kV doc pm : Value) (an : Option Addr) (cdv ct : Value) (osl : Array (Option Value)),
    fd = PySem.W.fnOf x qual (defArgs st) (defBody st) (defScope st) .none kV doc pm an cdv ct ∧ K.lookup f = some ⟨oc, od, .func fd, osl⟩ ∧ PySem.W.codeIn K cdv qual = true
  kp : PySem.W.keepIn K (.ref f) = true
section
variable {P : Program} {w : World} {K : PySem.W.Frag} {mg : Str → Option Value} {base : Heap}
theorem Fun.ok {x qual : Str} {st : Stmt} {f : Addr} {fd : FuncData} {N ps : List Str} {k : Nat} {sp : Sp} (F : Fun K x qual st f fd) (S : FnScope N ps (defScope st)) (len : ∀ vs H Q E, sp vs H Q E → vs.length = ps.length)
    (hbody : ∀ (cdv : Value) (A : Around) (outer : List Env) (s : Shared) (H : Hp) (vs : List V) (Q : VK) (E : XK), Room k (A.deeper (envOfC qual (defScope st) s.heap.objs.size f cdv)) → sp vs H Q E →
      ∃ t, PSs (cxOf CX0 P w K mg base N qual (defScope st) f cdv A outer s H E).nox (defBody st) t ∧ t { nx := fun _ H' => Q .non H', rt := Q } (start N vs) H) : FnOk P w K mg base CX0 (k + 1) f fd ps sp := by
  obtain ⟨oc, od, kV, doc, pm, an, cdv, ct, osl, rfl, lk, hcd⟩ := F.ex
  refine fn_of lk hcd S len fun A outer s H vs Q E hr hsp => ?_
  obtain ⟨t, h, q⟩ := hbody cdv A outer s H vs Q E hr hsp
  exact ⟨t, h.nox, q⟩
theorem Fun.binds {x qual : Str} {st : Stmt} {f : Addr} {fd : FuncData} {ps : List Str} (F : Fun K x qual st f fd)
    (h : ∀ (kV doc pm : Value) (an : Option Addr) (cdv ct : Value) (us : List Value), us.length = ps.length → bindArgs (PySem.W.fnOf x qual (defArgs st) (defBody st) (defScope st) .none kV doc pm an cdv ct) ⟨us, []⟩ = pure (ps.zip us)) : Binds K fd ps [] := by
  obtain ⟨oc, od, kV, doc, pm, an, cdv, ct, osl, rfl, lk, hcd⟩ := F.ex
  exact .all (h kV doc pm an cdv ct)
theorem fun_mk {x qual : Str} {st : Stmt} {f : Addr} {oc : Value} {od an : Option Addr} {osl : Array (Option Value)} {kV doc pm cdv ct : Value} (l : K.lookup f = some ⟨oc, od, .func (PySem.W.fnOf x qual (defArgs st) (defBody st) (defScope st) .none kV doc pm an cdv ct), osl⟩)
    (c : PySem.W.codeIn K cdv qual = true) (k : PySem.W.keepIn K (.ref f) = true) : Fun K x qual st f (PySem.W.fnOf x qual (defArgs st) (defBody st) (defScope st) .none kV doc pm an cdv ct) := ⟨⟨oc, od, kV, doc, pm, an, cdv, ct, osl, rfl, l, c⟩, k⟩
end
section
variable {X : Cx}
theorem pv (i : Nat) {x : Str} {pos : Pos} (hN : X.N[i]? = some x := by rfl) (hv : Vis X.env.scope x := by first | exact Or.inl rfl | exact Or.inr (Or.inl rfl) | exact Or.inr (Or.inr rfl)) (hd : (x == ("__debug__" : Str)) = false := by decide)
    (hcd : (x == ("__classdict__" : Str)) = false := by decide) : PE X (.Name x pos) (tVar i) := pe_var hN hv hd hcd
end
theorem iteF {A B : Prop} (h : B) : if false = true then A else B := by
  rw [if_neg Bool.false_ne_true]
  exact h
theorem iteT {A B : Prop} (h : A) : if true = true then A else B := by
  rw [if_pos rfl]
  exact h
def Same (H H' : Hp) : Prop := ∀ b o, H b = some o → H' b = some o
theorem Same.refl (H : Hp) : Same H H := fun _ _ h => h
theorem Same.trans {H H1 H2 : Hp} (a : Same H H1) (b : Same H1 H2) : Same H H2 := fun c o h => b c o (a c o h)
theorem Same.free {H H' : Hp} (e : Same H H') {l : Addr} (h : H' l = Option.none) : H l = Option.none := by
  cases q : H l with
  | none => rfl
  | some o =>
    rw [e l o q] at h
    cases h
theorem Same.seq {K : PySem.W.Frag} {H H' : Hp} {a : Addr} {xs : List V} (e : Same H H') (h : SqL K H a xs) : SqL K H' a xs := by
  rcases h with (h | ⟨o, h⟩) | h
  · exact .inl (.inl (e _ _ h))
  · exact .inl (.inr ⟨o, e _ _ h⟩)
  · exact .inr h
end L2
set_option maxRecDepth 100000
set_option maxHeartbeats 4000000
namespace L2
open PySem PySem.Spec PyProof.Rows
def OwnG (k : Nat) (g : TG) : Prop := ∀ v σ H (Q Q' : St → Hp → Prop),
  (∀ σ2 H2, σ2.length = σ.length → (∀ j, k ≤ j → σ2[j]? = σ[j]?) → Q σ2 H2 → Q' σ2 H2) → g v σ H Q → g v σ H Q'
theorem own_name {k i : Nat} (h : i < k) : OwnG k (gName i) := by
  intro v σ H Q Q' m q
  refine m _ _ (by simp) (fun j hj => ?_) q
  rw [List.getElem?_set_ne (by omega)]
def cxComp (X : Cx) (scope : Scope) (cl : List (Str × Addr)) (C : Addr) (N : List Str) (s : Shared) (H : Hp) (ex : List Addr) : Cx :=
  { X with N := N, s₀ := s, H₀ := H, env := compEnvC scope cl C X.env, outer := X.stack, ex := ex, fn := fun _ => false, pn := [], xe := fun _ _ => False }
def CompOk (osc : Scope) (oN : List Str) (k : Nat) (ix : List Nat) (N : List Str) (scope : Scope) : Prop :=
  scope.kind = .function ∧ (∀ y ∈ scope.names, y.2 ≠ .cell) ∧ (∀ y ∈ scope.names, y.2 = .local → scope.names.lookup y.1 = some .local) ∧
  (∀ y ∈ scope.names, y.2 = .free → osc.names.lookup y.1 = some .cell ∨ osc.names.lookup y.1 = some .free) ∧
  N.length = k + ix.length ∧ (∀ p ∈ (N.drop k).zip ix, oN[p.2]? = some p.1 ∧ scope.names.lookup p.1 = some .free)
instance {osc : Scope} {oN : List Str} {k : Nat} {ix : List Nat} {N : List Str} {scope : Scope} : Decidable (CompOk osc oN k ix N scope) := by
  unfold CompOk
  exact inferInstance
def outS (ix : List Nat) (σ : St) : St := ix.map fun i => (σ[i]?).getD none
theorem closure_ok (env : Env) : ∀ (ns : List (Str × NameKind)) (acc : List (Str × Addr)), (∀ y ∈ ns, y.2 = .free → ∃ c, env.cells.lookup y.1 = some c) →
    ∃ cl, (forIn (m := Sem) ns acc fun (y : Str × NameKind) r => match y with
      | (n, k) => if (k == .free) = true then (do let c ← cellOf env n; pure (ForInStep.yield ((n, c) :: r))) else pure (ForInStep.yield r)) = pure cl ∧
      (∀ n c, cl.lookup n = some c → acc.lookup n = some c ∨ env.cells.lookup n = some c) ∧ ∀ n, ((acc.lookup n).isSome = true ∨ (n, NameKind.free) ∈ ns) → (cl.lookup n).isSome = true
  | [], acc, _ => ⟨acc, rfl, fun _ _ h => .inl h, fun n h => h.elim id fun z => by cases z⟩
  | (n, k) :: ns, acc, h => by
    by_cases hk : k = .free
    · subst hk
      obtain ⟨c, hc⟩ := h (n, .free) List.mem_cons_self rfl
      obtain ⟨cl, e, p, q⟩ := closure_ok env ns ((n, c) :: acc) fun y hy => h y (List.mem_cons_of_mem _ hy)
      refine ⟨cl, ?_, fun m d hm => ?_, fun m hm => ?_⟩
      · rw [List.forIn_cons]
        simp only [cellOf, hc, beq_self_eq_true, if_true, pure_bind]
        exact e
      · rcases p m d hm with z | z
        · rw [List.lookup_cons] at z
          split at z
          · rename_i hmn
            cases z
            have : m = n := by simpa using hmn
            subst this
            exact .inr hc
          · exact .inl z
        · exact .inr z
      · refine q m ?_
        rw [List.lookup_cons]
        split
        · exact .inl rfl
        · rename_i hmn
          rcases hm with z | z
          · exact .inl z
          · rcases List.mem_cons.mp z with z | z
            · cases z
              simp at hmn
            · exact .inr z
    · obtain ⟨cl, e, p, q⟩ := closure_ok env ns acc fun y hy => h y (List.mem_cons_of_mem _ hy)
      have hb : (k == NameKind.free) = false := by simpa using hk
      refine ⟨cl, ?_, p, fun m hm => q m (hm.imp id fun z => ?_)⟩
      · rw [List.forIn_cons]
        simp only [hb, Bool.false_eq_true, if_false, pure_bind]
        exact e
      · rcases List.mem_cons.mp z with z | z
        · cases z
          exact absurd rfl hk
        · exact z
theorem closureFor_ok (env : Env) (scope : Scope) (h : ∀ y ∈ scope.names, y.2 = .free → ∃ c, env.cells.lookup y.1 = some c) :
    ∃ cl, closureFor scope env = pure cl ∧ (∀ n c, cl.lookup n = some c → env.cells.lookup n = some c) ∧ ∀ n, (n, NameKind.free) ∈ scope.names → ∃ c, cl.lookup n = some c := by
  obtain ⟨cl, e, p, q⟩ := closure_ok env scope.names [] h
  refine ⟨cl, ?_, fun n c z => (p n c z).elim (fun z => by cases z) id, fun n hn => Option.isSome_iff_exists.mp (q n (.inr hn))⟩
  unfold closureFor
  simpa using e
theorem comp_loop {prog : Program} {w : World} {A : Around} {R : Result → Shared → Prop} {s : Shared} {elt target iter : Expr} {ifs : List Expr} {scope : Scope} {pos : Pos} {it acc : Value} {env : Env}
    (J : Nat → Shared → Prop)
    (turn : ∀ n s, J n s → wpAny (model prog w) A (pyNext it) (fun r s1 => match r with
      | none => R (.ok .next) s1
      | some v => wpAny (model prog w) A (letOwnedTupleGo target it v) (fun _ s2 => wpAny (model prog w) A (assign target env v) (fun _ s3 =>
          wpAny (model prog w) A (forIn ifs true fun c r => if r = true then do let ok ← isTrue c env (eval c env); pure (ForInStep.yield ok) else pure (ForInStep.yield r)) (fun ok s4 =>
            if ok = true then wpAny (model prog w) A (eval elt env) (fun x s5 =>
              wpAny (model prog w) A (call (.builtin "list.append") [acc, x]) (fun _ s6 => ∃ m, m < n ∧ J m s6) (fun _ _ => False) s5) (fun _ _ => False) s4
            else ∃ m, m < n ∧ J m s4) (fun _ _ => False) s3) (fun _ _ => False) s2) (fun _ _ => False) s1) (fun _ _ => False) s)
    (n : Nat) (h : J n s) : codeAny (model prog w) A (.compLoop (.ListComp elt [⟨target, iter, ifs, 0⟩] scope pos) 0 it acc env) R s := by
  refine codeAny_loop rfl J (fun n s hJ => ?_) n h
  show wpAny (model prog w) A ((compTurn (.ListComp elt [⟨target, iter, ifs, 0⟩] scope pos) 0 it acc env).onRaise (fun y => do noteFrame y env; theTreesLotGoes y)) _ _ s
  refine wpAny_noted ?_
  rw [compTurn_list]
  refine wpAny_bind (wpAny_standAt (wpAny_bind (wpAny_mono (turn n s hJ) (fun r s1 h1 => ?_) fun _ _ z => z.elim)))
  cases r with
  | none => exact wpAny_pure h1
  | some v =>
    refine wpAny_bind (wpAny_mono h1 (fun _ s2 h2 => ?_) fun _ _ z => z.elim)
    refine wpAny_bind (wpAny_mono h2 (fun _ s3 h3 => ?_) fun _ _ z => z.elim)
    refine wpAny_bind (wpAny_mono h3 (fun ok s4 h4 => ?_) fun _ _ z => z.elim)
    cases ok with
    | false => exact wpAny_pure ⟨rfl, h4⟩
    | true =>
      refine wpAny_bind (wpAny_bind (wpAny_mono h4 (fun x s5 h5 => ?_) fun _ _ z => z.elim))
      exact wpAny_bind (wpAny_mono h5 (fun _ s6 h6 => wpAny_pure (wpAny_pure ⟨rfl, h6⟩)) fun _ _ z => z.elim)
def PF (X : Cx) (ifs : List Expr) (t : TT) : Prop :=
  ∀ (pins : List (Addr × Obj)) (s : Shared) (σ : St) (H : Hp) (Q : Bool → Hp → Prop), Inv X pins σ H s → t σ H Q →
    wpAny (model X.prog X.w) X.A (forIn ifs true fun c r => if r = true then do let ok ← isTrue c X.env (eval c X.env); pure (ForInStep.yield ok) else pure (ForInStep.yield r)) (TP X pins σ Q) X.xe s
def tYes : TT := fun _ H Q => Q true H
theorem pf_nil {X : Cx} : PF X [] tYes := fun _ _ _ H _ I h => wpAny_tests_nil ⟨H, I, h⟩
theorem pf_one {X : Cx} {c : Expr} {t : TT} (hc : PT X c t) : PF X [c] t := fun pins s σ H Q I h => wpAny_tests_one (hc pins s σ H Q I h)
section
variable {X : Cx} {pins : List (Addr × Obj)} {σ : St} {H : Hp} {s : Shared}
theorem comp_ctx_ok {scope : Scope} {cl : List (Str × Addr)} {C : Addr} {N : List Str} {fp : List Addr} {k : Nat} {ix : List Nat} (I : Inv X pins σ H s) (hc : CompOk X.env.scope X.N k ix N scope)
    (hcl : ∀ n c, cl.lookup n = some c → X.env.cells.lookup n = some c) (hcl2 : ∀ n, (n, NameKind.free) ∈ scope.names → ∃ c, cl.lookup n = some c)
    (hC : s.heap.objs.size ≤ C) (hf : ∀ b ∈ fp, FpOk X pins H b) (hlt : ∀ b ∈ fp, b < s.heap.objs.size) : (cxComp X scope cl C N s H fp).Ok := by
  obtain ⟨kind, nocell, names, free, len, own⟩ := hc
  have lk : ∀ (l : List (Str × NameKind)) (x : Str) (kd : NameKind), l.lookup x = some kd → (x, kd) ∈ l := fun l x kd e => PySem.mem_of_lookup e
  refine ⟨I.ok.mod, kind, I.ok.glob, I.ok.blt, hC, fun x y c h1 h2 => I.ok.inj x y c (hcl x c h1) (hcl y c h2), fun x hx => ?_, fun x c z => (by cases z), I.ok.hd, I.ok.frames, .inl rfl, fun b hb => ⟨Nat.ne_of_lt (Nat.lt_of_lt_of_le (hlt b hb) hC), fun x c e => (hf b hb).2.2.2.2.1 x c (hcl x c e)⟩,
    I.bs, Nat.le_trans I.ok.bsz I.sz, fun b o e z => ?_, fun b hb z => ?_, I.stack, I.stkFree⟩
  ·
    have hx' : (relabel scope X.env).names.lookup x = some .cell ∨ (relabel scope X.env).names.lookup x = some .free := hx
    have key : (x, NameKind.free) ∈ scope.names := by
      have : ∃ kd, (x, kd) ∈ (relabel scope X.env).names ∧ (kd = .cell ∨ kd = .free) := by
        rcases hx' with z | z
        · exact ⟨_, lk _ _ _ z, .inl rfl⟩
        · exact ⟨_, lk _ _ _ z, .inr rfl⟩
      obtain ⟨kd, hm, hkd⟩ := this
      unfold relabel at hm
      obtain ⟨⟨n, k0⟩, h1, h2⟩ := List.mem_map.mp hm
      dsimp only at h2
      by_cases hc : (k0 == NameKind.free && X.env.scope.kind == .function && X.env.kindOf n == some .cell) = true
      · rw [if_pos hc] at h2
        cases h2
        have : k0 = .free := by
          simp only [Bool.and_eq_true] at hc
          simpa using hc.1.1
        rw [← this]
        exact h1
      · rw [if_neg hc] at h2
        cases h2
        rcases hkd with z | z
        · exact absurd z (nocell _ h1)
        · rw [← z]
          exact h1
    exact hcl2 x key
  · obtain ⟨_, _, _, hx, _⟩ := hf b z
    rcases hx with hx | hx
    · exact I.ok.noex b o e hx
    · exact absurd (Nat.lt_of_lt_of_le (Heap.lt_size (I.ok.bs b o e).1) hx) (Nat.lt_irrefl _)
  · rcases List.mem_cons.mp (I.stkSub b z) with e | e
    · exact (hf b hb).2.1 e
    · exact (hf b hb).2.2.1 e
theorem look_comp {scope : Scope} {cl : List (Str × Addr)} {C : Addr} {h' : Heap} {m m' : Str → Option Value} {x : Str} {u : Value} (hl : scope.names.lookup x = some .free)
    (ho : X.env.scope.names.lookup x = some .cell ∨ X.env.scope.names.lookup x = some .free) (hcl : ∀ n c, cl.lookup n = some c → X.env.cells.lookup n = some c) (hcl2 : ∃ c, cl.lookup x = some c)
    (l : Look X.env s.heap m x u) (hk : ∀ b o, s.heap.get? b = some o → h'.get? b = some o) : Look (compEnvC scope cl C X.env) h' m' x u := by
  rcases l with ⟨hk1, _⟩ | ⟨hk1, c, hc, o, e1, e2⟩
  · have hk1' : X.env.scope.names.lookup x = some .local := hk1
    rcases ho with z | z <;> rw [hk1'] at z <;> cases z
  · obtain ⟨c', hc'⟩ := hcl2
    have := hcl x c' hc'
    rw [hc] at this
    cases this
    refine .inr ⟨?_, c, hc', o, hk _ _ e1, e2⟩
    show (relabel scope X.env).names.lookup x = some .cell ∨ (relabel scope X.env).names.lookup x = some .free
    unfold relabel
    dsimp only
    revert hl
    generalize scope.names = ns
    intro hl
    induction ns with
    | nil => cases hl
    | cons y r ih =>
      obtain ⟨n, k0⟩ := y
      rw [List.map_cons]
      dsimp only
      rw [List.lookup_cons] at hl
      by_cases hxn : (x == n) = true
      · rw [hxn] at hl
        cases hl
        have exn : x = n := by simpa using hxn
        subst exn
        by_cases hc : (NameKind.free == NameKind.free && X.env.scope.kind == .function && X.env.kindOf x == some .cell) = true
        · rw [if_pos hc, List.lookup_cons, beq_self_eq_true]
          exact .inl rfl
        · rw [if_neg hc, List.lookup_cons, beq_self_eq_true]
          exact .inr rfl
      · have hxn' : (x == n) = false := by simpa using hxn
        rw [hxn'] at hl
        have hnn : ∀ (kk : NameKind), (List.lookup x ((n, kk) :: List.map (fun (y : Str × NameKind) => if (y.2 == NameKind.free && X.env.scope.kind == .function && X.env.kindOf y.1 == some .cell) = true then (y.1, NameKind.cell) else (y.1, y.2)) r)) = List.lookup x (List.map (fun (y : Str × NameKind) => if (y.2 == NameKind.free && X.env.scope.kind == .function && X.env.kindOf y.1 == some .cell) = true then (y.1, NameKind.cell) else (y.1, y.2)) r) := fun kk => by
          rw [List.lookup_cons, hxn']
        by_cases hc : (k0 == NameKind.free && X.env.scope.kind == .function && X.env.kindOf n == some .cell) = true
        · rw [if_pos hc]
          exact (hnn .cell).symm ▸ ih hl
        · rw [if_neg hc]
          exact (hnn k0).symm ▸ ih hl
theorem comp_inv {scope : Scope} {cl : List (Str × Addr)} {C : Addr} {N : List Str} {fp : List Addr} {k : Nat} {ix : List Nat} {h' : Heap} {m' : Str → Option Value} {t' : Nat} (I : Inv X pins σ H s) (hc : CompOk X.env.scope X.N k ix N scope)
    (hcl : ∀ n c, cl.lookup n = some c → X.env.cells.lookup n = some c) (hcl2 : ∀ n, (n, NameKind.free) ∈ scope.names → ∃ c, cl.lookup n = some c)
    (hC : s.heap.objs.size ≤ C) (hf : ∀ b ∈ fp, FpOk X pins H b) (hlt : ∀ b ∈ fp, b < s.heap.objs.size) (hk : ∀ b o, s.heap.get? b = some o → h'.get? b = some o) (hn : h'.Ns C m') :
    Inv (cxComp X scope cl C N s H fp) [] (List.replicate k none ++ outS ix σ) H { s with heap := h', toks := t' } := by
  have ok := comp_ctx_ok I hc hcl hcl2 hC hf hlt
  obtain ⟨kind, nocell, names, free, len, own⟩ := hc
  have mem : ∀ {x : Str}, scope.names.lookup x = some .free → (x, NameKind.free) ∈ scope.names := fun e => PySem.mem_of_lookup e
  refine ⟨ok, rfl, I.bare, Un.kept hk, ⟨m', hn, fun i x v h1 h2 _ => ?_⟩, fun x c e => ?_, I.hok.fresh hC, fun x c e => I.freeC x c (hcl x c e), fun p hp => (by cases hp), I.hok.kept hk, ?_⟩
  · have h1 : N[i]? = some x := h1
    have hi : k ≤ i := by
      rcases Nat.lt_or_ge i k with z | z
      · rw [List.getElem?_append_left (by simpa using z), List.getElem?_replicate, if_pos z] at h2
        cases h2
      · exact z
    rw [List.getElem?_append_right (by simpa using hi), List.length_replicate] at h2
    unfold outS at h2
    rw [List.getElem?_map] at h2
    cases e : ix[i - k]? with
    | none => rw [e] at h2; cases h2
    | some j =>
      rw [e] at h2
      have h2 : (σ[j]?).getD none = some v := Option.some.inj h2
      have hz : (x, j) ∈ (N.drop k).zip ix := by
        refine List.mem_of_getElem? (i := i - k) ?_
        rw [List.getElem?_zip_eq_some, List.getElem?_drop]
        exact ⟨by rw [Nat.add_sub_cancel' hi]; exact h1, e⟩
      obtain ⟨o1, o2⟩ := own _ hz
      have hs : σ[j]? = some (some v) := by
        cases q : σ[j]? with
        | none => rw [q] at h2; cases h2
        | some z => rw [q] at h2; have h2 : z = some v := h2; rw [h2]
      obtain ⟨m, hm, hl⟩ := I.loc
      have hfr := free _ (mem o2) rfl
      have hv : Vis X.env.scope x := hfr.elim (fun z => .inr (.inl z)) fun z => .inr (.inr z)
      obtain ⟨u, r, l⟩ := hl j x v o1 hs hv
      exact ⟨u, r, look_comp o2 hfr hcl (hcl2 _ (mem o2)) l hk⟩
  · obtain ⟨v, o, e1, e2⟩ := I.cell x c (hcl x c e)
    exact ⟨v, o, hk _ _ e1, e2⟩
  · show (List.replicate k none ++ outS ix σ).length = N.length
    rw [List.length_append, List.length_replicate, len]
    unfold outS
    rw [List.length_map]
structure BlockEnd (X : Cx) (scope : Scope) (cl : List (Str × Addr)) (N : List Str) (s : Shared) (H : Hp) (fp : List Addr) (D C : Addr) (ys : List V) (H' : Hp) (s' : Shared) : Prop where
  inv : ∃ σ', Inv (cxComp X scope cl C N s H fp) [] σ' H' s'
  dn : H' D = none
  lst : ∃ (its : List Value) (n : Nat), Vals ys its ∧ s'.heap.get? D = some { cls := .type "list", data := .seq its.toArray n }
  hD : s.heap.objs.size ≤ D
  hC : s.heap.objs.size ≤ C
  ne : D ≠ C
  sz : ys.length ≤ sizeLine
theorem BlockEnd.out {scope : Scope} {cl : List (Str × Addr)} {N : List Str} {fp : List Addr} {D C : Addr} {ys : List V} {H' : Hp} {s' : Shared} (I : Inv X pins σ H s) (hf : ∀ b ∈ fp, FpOk X pins H b)
    (B : BlockEnd X scope cl N s H fp D C ys H' s') : Inv X pins σ (upd H' D (.lst ys)) s' ∧ (∃ m, s'.heap.Ns C m) ∧ upd H' D (.lst ys) C = none := by
  obtain ⟨σ', J⟩ := B.inv
  obtain ⟨its, n, rv, e⟩ := B.lst
  have eD : ∀ b u, H' b = some u → b ≠ D := fun b u z => ne_of_none z B.dn
  refine ⟨?_, let ⟨m, hm, _⟩ := J.loc; ⟨m, hm⟩, by rw [upd_ne (Ne.symm B.ne)]; exact J.free⟩
  have U : Un (frs X.stack) fp H H' s.heap s'.heap := J.base
  refine I.call' (ch := fp) J.os ⟨U.keep, U.slot, fun b o q z hb => ?_, U.there, fun b xs q => ?_, fun b o xs q => ?_, fun b ps q => ?_⟩ ?_ J.bare fun b hb => ?_
  · rw [upd_ne (Nat.ne_of_lt (Nat.lt_of_lt_of_le (Heap.lt_size q) B.hD))]
    exact U.free b o q z hb
  · have z := U.tups b xs q
    rw [upd_ne (eD _ _ z)]; exact z
  · have z := U.frzs b o xs q
    rw [upd_ne (eD _ _ z)]; exact z
  · obtain ⟨m, z⟩ := U.tbls b ps q
    exact ⟨m, by rw [upd_ne (eD _ _ z)]; exact z⟩
  · intro b o q
    by_cases hb : b = D
    · subst hb
      rw [upd_same] at q
      cases q
      exact ⟨B.sz, its, n, rv, e⟩
    · rw [upd_ne hb] at q
      refine (J.hok b o q).stay (fun _ _ _ z => z) (fun c z => ?_) fun c xs z => ?_
      · rw [upd_ne (eD _ _ z)]; exact z
      · rw [upd_ne (eD _ _ z)]; exact z
  · obtain ⟨_, h1, h2, h3, h4, h5⟩ := hf b hb
    exact ⟨h3, h1, h4, h5⟩
end
end L2
set_option maxRecDepth 100000
set_option maxHeartbeats 4000000
namespace L2
open PySem PySem.Spec PyProof.Rows
def tTurn (k : Nat) (ix : List Nat) (g : TG) (tc : TT) (te : TE) (σ : St) (x : V) (H : Hp) (Qe : V → Hp → Prop) (Qn : Hp → Prop) : Prop :=
  g x (List.replicate k none ++ outS ix σ) H fun σ2 H2 => tc σ2 H2 fun b H3 => if b = true then te σ2 H3 Qe else Qn H3
def CompW (k : Nat) (ix : List Nat) (g : TG) (tc : TT) (te : TE) (σ : St) (J : It) (H1 : Hp) (Q : List V → Hp → Prop) : Prop :=
  ∃ W : Nat → Nat → List V → Hp → Prop, (∃ m, W 0 m [] H1) ∧ ∀ i m ys H, W i m ys H → ys.length ≤ sizeLine ∧
    ((J.stop i H ∧ Q ys H) ∨ (J.go i H ∧ ∀ x H', J.yld i H x H' → tTurn k ix g tc te σ x H' (fun v H4 => ∃ m', m' < m ∧ W (i + 1) m' (ys ++ [v]) H4) fun H3 => ∃ m', m' < m ∧ W (i + 1) m' ys H3))
section
variable {X : Cx} {pins : List (Addr × Obj)} {σ : St} {H : Hp} {s : Shared}
theorem comp_block {elt target iter : Expr} {ifs : List Expr} {scope : Scope} {cl : List (Str × Addr)} {pos : Pos} {N : List Str} {fp : List Addr} {k : Nat} {ix : List Nat} {it : Addr} {J : It} {tn : Nat → Heap → Prop} {g : TG} {tc : TT} {te : TE}
    {Q : List V → Hp → Prop} {RR : Value → Addr → Result → Shared → Prop} {E : Value → Shared → Prop} (hcalm : X.calm = true) (I : Inv X pins σ H s) (hc : CompOk X.env.scope X.N k ix N scope) (og : OwnG k g)
    (hcl : ∀ n c, cl.lookup n = some c → X.env.cells.lookup n = some c) (hcl2 : ∀ n, (n, NameKind.free) ∈ scope.names → ∃ c, cl.lookup n = some c)
    (T : Turn X.prog X.w X.K target J fp it tn) (t0 : tn 0 s.heap) (hf : ∀ b ∈ fp, FpOk X pins H b)
    (hg : ∀ C, PG (cxComp X scope cl C N s H fp) target g) (ht : ∀ C, PF (cxComp X scope cl C N s H fp) ifs tc) (he : ∀ C, PE (cxComp X scope cl C N s H fp) elt te)
    (hw : CompW k ix g tc te σ J H Q)
    (fin : ∀ D C ys H' s', BlockEnd X scope cl N s H fp D C ys H' s' → Q ys H' → RR (.ref D) C (.ok .next) s') :
    wpAny (model X.prog X.w) X.A (newList []) (fun acc s3 => wpAny (model X.prog X.w) X.A (newFunctionEnv scope X.env.globals cl [] X.env.qual none .none (some X.env)) (fun cenv s4 =>
      codeAny (model X.prog X.w) X.A (.compStart (.ListComp elt [⟨target, iter, ifs, 0⟩] scope pos) 0 (.ref it) acc { cenv with scope := relabel scope X.env }) (RR acc cenv.locals) s4) E s3) E s := by
  have hlt : ∀ b ∈ fp, b < s.heap.objs.size := fun b hb => by
    obtain ⟨o, e, _⟩ := T.obj 0 _ t0 b hb
    exact Heap.lt_size e
  refine wpAny_newObj_type (wpAny_newFunctionEnv hc.2.1 (by intro y hy; simp at hy) (fun h1 hns hsb => ?_) hc.1)
  dsimp only at hns hsb ⊢
  generalize eH : s.heap.push { cls := .type "list", dict := none, data := .seq ([] : List Value).toArray } = Hx at hns hsb ⊢
  have hC : Hx.objs.size = s.heap.objs.size + 1 := by rw [← eH, Heap.size_push]
  have hne : s.heap.objs.size ≠ Hx.objs.size := by rw [hC]; exact Nat.ne_of_lt (Nat.lt_succ_self _)
  have hle : s.heap.objs.size ≤ Hx.objs.size := by rw [hC]; exact Nat.le_succ _
  have old : ∀ b o, s.heap.get? b = some o → h1.get? b = some o := fun b o e =>
    hsb.extBut b o (Nat.ne_of_lt (Nat.lt_of_lt_of_le (Heap.lt_size e) hle)) (Heap.get?_push_of_some _ (eH ▸ Heap.get?_push_of_some _ e))
  have hacc : h1.PlainList s.heap.objs.size #[] := ⟨_, hsb.extBut _ _ hne (Heap.get?_push_of_some _ (eH ▸ Heap.get?_push_size _ rfl))⟩
  have ci := fun (t' : Nat) => comp_inv (C := Hx.objs.size) (t' := t') I hc hcl hcl2 hle hf hlt old hns
  have cfp : ∀ {H' : Hp}, (∀ b ∈ fp, H' b = none) → ∀ b ∈ fp, FpOk (cxComp X scope cl Hx.objs.size N s H fp) [] H' b := fun hn b hb => by
    obtain ⟨_, z1, z2, z3, z4, z5⟩ := hf b hb
    refine ⟨hn b hb, Nat.ne_of_lt (Nat.lt_of_lt_of_le (hlt b hb) hle), fun z => ?_, .inl hb, fun x c e => z4 x c (hcl x c e), fun p hp => by cases hp⟩
    rcases List.mem_cons.mp (I.stkSub b z) with e | e
    · exact z1 e
    · exact z2 e
  have dfs : s.heap.objs.size ∉ frs X.stack := fun z => (List.mem_cons.mp (I.stkSub _ z)).elim (fun e => absurd I.lt (by rw [e]; exact Nat.lt_irrefl _)) fun e => I.nofs (Nat.le_refl _) e
  have cne : ∀ x c, X.env.cells.lookup x = some c → c ≠ s.heap.objs.size := fun x c e z => by
    obtain ⟨_, o, q, _⟩ := I.cell x c e
    exact absurd (Heap.lt_size q) (by rw [z]; exact Nat.lt_irrefl _)
  obtain ⟨W, ⟨m0, w0⟩, turn⟩ := hw
  have loop : ∀ s3 : Shared, s3 = { s with heap := h1, toks := s.toks + ([] : List (Str × Value)).length } →
      codeAny (model X.prog X.w) X.A (.compLoop (.ListComp elt [⟨target, iter, ifs, 0⟩] scope pos) 0 (.ref it) (.ref s.heap.objs.size) (compEnvC scope cl Hx.objs.size X.env)) (RR (.ref s.heap.objs.size) Hx.objs.size) s3 := by
    rintro s3 rfl
    refine comp_loop (fun n s' => ∃ i ys H' its, Inv (cxComp X scope cl Hx.objs.size N s H fp) [] (List.replicate k none ++ outS ix σ) H' s' ∧ tn i s'.heap ∧ (∀ b ∈ fp, H' b = none) ∧ s'.heap.PlainList s.heap.objs.size (List.toArray its) ∧
      H' s.heap.objs.size = none ∧ Vals ys its ∧ W i n ys H') ?_ m0 ⟨0, [], H, [], ci _, T.keep _ _ _ t0 fun b _ o e => old b o e, fun b hb => (hf b hb).1, hacc, I.hok.fresh (Nat.le_refl _), .nil, w0⟩
    rintro n s4 ⟨i, ys, H4, its, I4, t4, f4, p4, d4, v4, w4⟩
    obtain ⟨hsz, turn4⟩ := turn i n ys H4 w4
    rcases turn4 with ⟨st, q⟩ | ⟨go, step⟩
    ·
      obtain ⟨pn, pe⟩ := p4
      have I4' : Inv (cxComp X scope cl Hx.objs.size N s H fp) [(s.heap.objs.size, { cls := .type "list", data := .seq its.toArray pn })] (List.replicate k none ++ outS ix σ) H4 s4 := I4.pins_of fun p hp => by
        have ep := List.mem_singleton.mp hp
        subst ep
        exact ⟨pe, d4, hne, dfs, fun v z => (by cases z)⟩
      have fp4 : ∀ b ∈ fp, FpOk (cxComp X scope cl Hx.objs.size N s H fp) [(s.heap.objs.size, { cls := .type "list", data := .seq its.toArray pn })] H4 b := fun b hb => by
        obtain ⟨z0, z1, z2, z3, z4, _⟩ := cfp f4 b hb
        refine ⟨z0, z1, z2, z3, z4, fun p hp e => ?_⟩
        have ep := List.mem_singleton.mp hp
        subst ep
        exact absurd (hlt b hb) (by rw [← e]; exact Nat.lt_irrefl _)
      refine thn (T.done (cxComp X scope cl Hx.objs.size N s H fp) rfl rfl rfl hcalm i _ s4 _ H4 _ I4' fp4 t4 st) fun r s5 ⟨hr, I5⟩ => ?_
      subst hr
      obtain ⟨e5, n5, _⟩ := I5.pin (s.heap.objs.size, _) (List.mem_singleton.mpr rfl)
      exact fin s.heap.objs.size Hx.objs.size ys H4 s5 ⟨⟨_, I5.pins_of (pins' := []) fun p hp => (by cases hp)⟩, n5, ⟨its, pn, v4, e5⟩, Nat.le_refl _, hle, hne, hsz⟩ q
    · obtain ⟨pn, pe⟩ := p4
      have I4' : Inv (cxComp X scope cl Hx.objs.size N s H fp) [(s.heap.objs.size, { cls := .type "list", data := .seq its.toArray pn })] (List.replicate k none ++ outS ix σ) H4 s4 := I4.pins_of fun p hp => by
        have ep := List.mem_singleton.mp hp
        subst ep
        exact ⟨pe, d4, hne, dfs, fun v z => (by cases z)⟩
      have fpx : ∀ {H' : Hp}, (∀ b ∈ fp, H' b = none) → ∀ b ∈ fp, FpOk (cxComp X scope cl Hx.objs.size N s H fp) [(s.heap.objs.size, { cls := .type "list", data := .seq its.toArray pn })] H' b := fun hn b hb => by
        obtain ⟨z0, z1, z2, z3, z4, _⟩ := cfp hn b hb
        refine ⟨z0, z1, z2, z3, z4, fun p hp e => ?_⟩
        have ep := List.mem_singleton.mp hp
        subst ep
        exact absurd (hlt b hb) (by rw [← e]; exact Nat.lt_irrefl _)
      refine thn (T.item (cxComp X scope cl Hx.objs.size N s H fp) rfl rfl rfl hcalm i _ s4 _ H4 (fun _ _ => False) I4' (fpx f4) t4 go) fun r s5 ⟨u, hr, h5⟩ => ?_
      subst hr
      refine thn h5 fun _ s6 ⟨x, H6, I6, r6, y6, t6, f6⟩ => ?_
      have I6' := I6.pinned (fpx f6) (T.obj _ _ t6)
      have stp := og x _ H6 _ (fun σ2 H2 => (σ2.length = (List.replicate k none ++ outS ix σ).length ∧ ∀ j, k ≤ j → σ2[j]? = (List.replicate k none ++ outS ix σ)[j]?) ∧
        tc σ2 H2 fun b H3 => if b = true then te σ2 H3 (fun v H4 => ∃ m', m' < n ∧ W (i + 1) m' (ys ++ [v]) H4) else ∃ m', m' < n ∧ W (i + 1) m' ys H3) (fun σ2 H2 a b c => ⟨⟨a, b⟩, c⟩) (step x H6 y6)
      refine thn (hg _ _ s6 _ H6 x u _ I6' r6 stp) fun _ s7 ⟨σ7, H7, I7, ⟨l7, k7⟩, q7⟩ => ?_
      have weak : ∀ {H' : Hp} {s' : Shared} {ps : List (Addr × Obj)}, Inv (cxComp X scope cl Hx.objs.size N s H fp) ps σ7 H' s' → Inv (cxComp X scope cl Hx.objs.size N s H fp) ps (List.replicate k none ++ outS ix σ) H' s' := fun z => z.weak l7.symm fun j v e => by
        rcases Nat.lt_or_ge j k with hj | hj
        · rw [List.getElem?_append_left (by simpa using hj), List.getElem?_replicate, if_pos hj] at e
          cases e
        · rw [k7 j hj]; exact e
      refine thn (ht _ _ s7 σ7 H7 _ I7 q7) fun ok s8 ⟨H8, I8, q8⟩ => ?_
      have keepT : ∀ {H' : Hp} {s' : Shared}, Inv (cxComp X scope cl Hx.objs.size N s H fp) ([(s.heap.objs.size, { cls := .type "list", data := .seq its.toArray pn })] ++ pinsAt fp s6.heap) σ7 H' s' →
          tn (i + 1) s'.heap ∧ (∀ b ∈ fp, H' b = none) ∧ s'.heap.PlainList s.heap.objs.size its.toArray ∧ H' s.heap.objs.size = none := fun {H' s'} z => by
        refine ⟨T.keep _ _ _ t6 fun b hb o e => (z.pin (b, o) (List.mem_append_right _ (List.mem_append_right _ (mem_pinsAt hb e)))).1, fun b hb => ?_, ?_⟩
        · obtain ⟨o, e, d⟩ := T.obj _ _ t6 b hb
          exact (z.pin (b, o) (List.mem_append_right _ (List.mem_append_right _ (mem_pinsAt hb e)))).2.1
        · obtain ⟨e, n', _⟩ := z.pin (s.heap.objs.size, { cls := .type "list", data := .seq its.toArray pn }) (List.mem_append_right _ (List.mem_append_left _ (List.mem_singleton.mpr rfl)))
          exact ⟨⟨pn, e⟩, n'⟩
      cases ok with
      | false =>
        have q8 : ∃ m', m' < n ∧ W (i + 1) m' ys H8 := by simpa using q8
        obtain ⟨m', hm, w8⟩ := q8
        obtain ⟨a1, a2, a3, a4⟩ := keepT I8
        exact ⟨m', hm, i + 1, ys, H8, its, (weak I8).pins_of (pins' := []) fun p hp => (by cases hp), a1, a2, a3, a4, v4, w8⟩
      | true =>
        have q8 : te σ7 H8 (fun v H4 => ∃ m', m' < n ∧ W (i + 1) m' (ys ++ [v]) H4) := by simpa using q8
        show wpAny _ _ (eval elt _) _ _ s8
        refine thn (he _ _ s8 σ7 H8 _ I8 q8) fun y s9 ⟨v, H9, I9, r9, m', hm, w9⟩ => ?_
        obtain ⟨a1, a2, a3, a4⟩ := keepT I9
        refine wpAny_list_append_plain a3 (fun h10 hp10 hs10 => ?_) (by rw [List.size_toArray, ← v4.length]; exact hsz)
        refine ⟨m', hm, i + 1, ys ++ [v], H9, its ++ [y], ?_, T.keep _ _ _ a1 fun b hb o e => hs10.extBut b o (fun z => absurd (hlt b hb) (by rw [z]; exact Nat.lt_irrefl _)) e, a2, by simpa using hp10, a4, Paired.snoc v4 r9, w9⟩
        have I9' : Inv (cxComp X scope cl Hx.objs.size N s H fp) [] (List.replicate k none ++ outS ix σ) H9 s9 := (weak I9).pins_of (pins' := []) fun p hp => (by cases hp)
        exact I9'.turned (t' := s9.toks) (it := s.heap.objs.size) (fun b o hb e => hs10.extBut b o hb e) a4 hne (.inr (Nat.le_refl _))
          (fun x c e => cne x c (hcl x c e)) fun p hp => (by cases hp)
  exact codeAny_compStart_list (loop _ rfl) (T.self _ 0 _ _ _ (T.keep _ _ _ t0 fun b _ o e => old b o e) (loop _ rfl))
end
def tComp (k : Nat) (ix : List Nat) (wi : TI) (g : TG) (tc : TT) (te : TE) : TE := fun σ H Q => wi σ H fun J H1 =>
  CompW k ix g tc te σ J H1 fun ys H2 => ∀ D, H2 D = none → Q (.ref D) (upd H2 D (.lst ys))
section
variable {X : Cx} {elt target iter : Expr} {ifs : List Expr} {scope : Scope} {pos : Pos} {N : List Str} {k : Nat} {ix : List Nat} {wi : TI} {g : TG} {tc : TT} {te : TE}
theorem comp_free {pins : List (Addr × Obj)} {σ : St} {H : Hp} {s : Shared} (I : Inv X pins σ H s) (hc : CompOk X.env.scope X.N k ix N scope) : ∀ y ∈ scope.names, y.2 = .free → ∃ c, X.env.cells.lookup y.1 = some c := fun y hy e =>
  I.ok.has y.1 (hc.2.2.2.1 y hy e)
theorem pe_comp (hcalm : X.calm = true) (hc : CompOk X.env.scope X.N k ix N scope) (og : OwnG k g) (hi : PI X target iter wi)
    (hb : ∀ cl C s H fp, PG (cxComp X scope cl C N s H fp) target g ∧ PF (cxComp X scope cl C N s H fp) ifs tc ∧ PE (cxComp X scope cl C N s H fp) elt te)
    (hs : ∀ x, foldedSetIterable iter X.env x = pure x := by intro _; rfl) : PE X (.ListComp elt [⟨target, iter, ifs, 0⟩] scope pos) (tComp k ix wi g tc te) := by
  intro pins s σ H Q I h
  obtain ⟨cl, hclos, hcl, hcl2⟩ := closureFor_ok X.env scope (comp_free I hc)
  rw [eval_ListComp]
  refine wpAny_comprehension_free (use := none) rfl hs hclos hc.1 hc.2.2.1 (thn (hi pins s σ H _ I h) fun xv s1 h1 => thn h1 fun itv s2 h2 => ?_)
  obtain ⟨it, fp, tn, J, H2, e, I2, T, st2, f2, hw⟩ := h2
  subst e
  refine comp_block hcalm I2 hc og hcl hcl2 T st2 f2 (fun C => (hb cl C s2 H2 fp).1) (fun C => (hb cl C s2 H2 fp).2.1) (fun C => (hb cl C s2 H2 fp).2.2) hw (RR := fun acc C => compPost (model X.prog X.w) X.A X.xe none (EP X pins σ Q) acc C) ?_
  intro D C ys H' s' B q
  obtain ⟨I3, ⟨m, hm⟩, hCn⟩ := B.out I2 f2
  refine ⟨m, hm, fun h' hs' => ?_⟩
  have q' := q D B.dn
  have hCs : X.s₀.heap.objs.size ≤ C := Nat.le_trans I2.sz B.hC
  obtain ⟨_, f1, f3, f4, f5, f6⟩ := I2.fpOk (H' := upd H' D (.lst ys)) B.hC hCn
  exact ⟨.ref D, _, I3.turned (t' := s'.toks) (it := C) (fun b o hb e => hs'.extBut b o hb e) hCn f1 f4 f5 f6, rfl, q'⟩
def tSetComp (i k : Nat) (ix : List Nat) (wi : TI) (g : TG) (tc : TT) (te : TE) : TS := fun D σ H => wi σ H fun J H1 =>
  CompW k ix g tc te σ J H1 fun ys H2 => ∀ p, H2 p = none → D.nx (σ.set i (some (.ref p))) (upd H2 p (.lst ys))
theorem ps_setComp {i : Nat} {x : Str} {pos' spos : Pos} (hcalm : X.calm = true) (hN : X.N.Nodup) (hx0 : X.N[i]? = some x) (hx : X.env.scope.names.lookup x = some .local) (hc : CompOk X.env.scope X.N k ix N scope) (og : OwnG k g) (hi : PI X target iter wi)
    (hb : ∀ cl C s H fp, PG (cxComp X scope cl C N s H fp) target g ∧ PF (cxComp X scope cl C N s H fp) ifs tc ∧ PE (cxComp X scope cl C N s H fp) elt te)
    (hsw : swapsWith (.ListComp elt [⟨target, iter, ifs, 0⟩] scope pos) (some (.Name x pos')) spos.line X.env = pure true := by rfl)
    (hs : ∀ x, foldedSetIterable iter X.env x = pure x := by intro _; rfl) : PS X (.Assign [.Name x pos'] (.ListComp elt [⟨target, iter, ifs, 0⟩] scope pos) spos) (tSetComp i k ix wi g tc te) := by
  intro pins s σ H Dn I h
  obtain ⟨cl, hclos, hcl, hcl2⟩ := closureFor_ok X.env scope (comp_free I hc)
  rw [exec_Assign_Name_used _ _ _ _ hsw]
  refine wpAny_bind (wpAny_standAt (wpAny_bind ?_))
  show wpAny _ X.A (do let _ ← comprehension (.ListComp elt [⟨target, iter, ifs, 0⟩] scope pos) scope X.env _ (newList []) false (eval iter X.env) (some (assign (.Name x pos') X.env))) _ _ s
  refine wpAny_bind (wpAny_mono (wpAny_comprehension_free (use := some (assign (.Name x pos') X.env)) (Q := fun _ s' => SP X pins Dn .next s') rfl hs hclos hc.1 hc.2.2.1
    (thn (hi pins s σ H _ I h) fun xv s1 h1 => thn h1 fun itv s2 h2 => ?_)) (fun _ s' hq => wpAny_pure (wpAny_pure hq)) fun _ _ e => e)
  obtain ⟨it, fp, tn, J, H2, e, I2, T, st2, f2, hw⟩ := h2
  subst e
  refine comp_block hcalm I2 hc og hcl hcl2 T st2 f2 (fun C => (hb cl C s2 H2 fp).1) (fun C => (hb cl C s2 H2 fp).2.1) (fun C => (hb cl C s2 H2 fp).2.2) hw (RR := fun acc C => compPost (model X.prog X.w) X.A X.xe (some (assign (.Name x pos') X.env)) (fun _ s' => SP X pins Dn .next s') acc C) ?_
  intro D C ys H' s' B q
  obtain ⟨I3, ⟨m, o, es, ep, ho, hd, hr⟩, hCn⟩ := B.out I2 f2
  have q' := q D B.dn
  obtain ⟨_, f1, f3, f4, f5, f6⟩ := I2.fpOk (H' := upd H' D (.lst ys)) B.hC hCn
  have I4 : Inv X (pins ++ [(C, o)]) σ (upd H' D (.lst ys)) s' := I3.pins_of fun p hp => (List.mem_append.mp hp).elim (fun z => I3.pin p (List.mem_append_right _ z)) fun z => by
    have z' := List.mem_singleton.mp z
    subst z'
    exact ⟨ho, hCn, f1, f3, fun v z => by rw [hd] at z; cases z⟩
  show wpAny _ X.A (assign (.Name x pos') X.env (.ref D)) _ _ s'
  refine wpAny_assign_Name (store_ok I4 hN hx0 (.inl hx) (v := .ref D) (u := .ref D) rfl (fun s5 I5 => ?_) (.inr hx))
  obtain ⟨e5, n5, _⟩ := I5.pin (C, o) (List.mem_append_right _ (List.mem_append_right _ (List.mem_singleton.mpr rfl)))
  refine ⟨m, ⟨o, es, ep, e5, hd, hr⟩, fun h' hs' => ?_⟩
  exact ⟨_, _, I5.unpinned.turned (t' := s5.toks) (it := C) (fun b o hb e => hs'.extBut b o hb e) hCn f1 f4 f5 f6, q'⟩
end
end L2
set_option maxRecDepth 100000
set_option maxHeartbeats 4000000
namespace L2
open PySem PySem.Spec PyProof.Rows
def ExcAt (a C : Addr) (h : Heap) : Prop := ∃ o vs, h.get? a = some o ∧ o.cls = .ref C ∧ o.data = .fields vs
def excD (C : Addr) : PyData := .dict [(.none, .int (C : Int))]
def ExcDAt (a C dx : Addr) (h : Heap) : Prop := ∃ o vs, h.get? a = some o ∧ o.cls = .ref C ∧ o.data = .fields vs ∧ o.dict = some dx
def excRD (C : Addr) (n : Int) : PyData := .dict [(.none, .int (C : Int)), (.none, .int n)]
def excC : List (PyData × PyData) → Option Addr
  | [(.none, .int i)] => some i.toNat
  | [(.none, .int i), (.none, .int _)] => some i.toNat
  | (.none, .tuple [.int i]) :: _ => some i.toNat
  | _ => none
def isObD : PyData → Bool
  | .dict ((.none, .tuple _) :: _) => true
  | _ => false
def keyD : Key → PyData
  | .inl i => .int i
  | .inr x => .str x
mutual
inductive DV (K : PySem.W.Frag) (H : Hp) : V → PyData → Prop where
  | non : DV K H .non .none
  | bl (b : Bool) : DV K H (.bl b) (.bool b)
  | int (i : Int) : DV K H (.int i) (.int i)
  | str (x : Str) : DV K H (.str x) (.str x)
  | tup {a : Addr} {xs : List V} {ds : List PyData} : SqT K H a xs → DVs K H xs ds → DV K H (.ref a) (.tuple ds)
  | lst {a : Addr} {xs : List V} {ds : List PyData} : SqL K H a xs → DVs K H xs ds → DV K H (.ref a) (.list ds)
  | dct {a : Addr} {kvs : List (Key × V)} {es : List (PyData × PyData)} : H a = some (.dK kvs) → DVk K H kvs es → DV K H (.ref a) (.dict es)
  | exc {a C : Addr} : H a = some (.ext (ExcAt a C)) → DV K H (.ref a) (.dict [(.none, .int (C : Int))])
  | exr {a C dx : Addr} {n : Int} : H a = some (.ext (ExcDAt a C dx)) → H dx = some (.xd [("row", .int n)]) → DV K H (.ref a) (.dict [(.none, .int (C : Int)), (.none, .int n)])
  | obj {a C dx : Addr} {fs : List (Str × V)} {es : List (PyData × PyData)} : H a = some (.ins C dx fs) → DVf K H fs es → DV K H (.ref a) (.dict ((.none, .tuple [.int (C : Int)]) :: es))
inductive DVs (K : PySem.W.Frag) (H : Hp) : List V → List PyData → Prop where
  | nil : DVs K H [] []
  | cons {x : V} {d : PyData} {xs : List V} {ds : List PyData} : DV K H x d → DVs K H xs ds → DVs K H (x :: xs) (d :: ds)
inductive DVk (K : PySem.W.Frag) (H : Hp) : List (Key × V) → List (PyData × PyData) → Prop where
  | nil : DVk K H [] []
  | cons {k : Key} {x : V} {d : PyData} {xs : List (Key × V)} {ds : List (PyData × PyData)} : DV K H x d → DVk K H xs ds → DVk K H ((k, x) :: xs) ((keyD k, d) :: ds)
inductive DVf (K : PySem.W.Frag) (H : Hp) : List (Str × V) → List (PyData × PyData) → Prop where
  | nil {fs : List (Str × V)} : DVf K H fs []
  | cons {fs : List (Str × V)} {f : Str} {x : V} {d : PyData} {ds : List (PyData × PyData)} : fs.lookup f = some x → DV K H x d → DVf K H fs ds → DVf K H fs ((.str f, d) :: ds)
end
theorem Same.seqT {K : PySem.W.Frag} {H H' : Hp} {a : Addr} {xs : List V} (e : Same H H') (h : SqT K H a xs) : SqT K H' a xs := by
  rcases h with (h | ⟨o, h⟩) | h
  · exact .inl (.inl (e _ _ h))
  · exact .inl (.inr ⟨o, e _ _ h⟩)
  · exact .inr h
section
variable {K : PySem.W.Frag} {H H' : Hp}
mutual
theorem DV.mono (e : Same H H') : ∀ {v : V} {d : PyData}, DV K H v d → DV K H' v d
  | _, _, .non => .non
  | _, _, .bl b => .bl b
  | _, _, .int i => .int i
  | _, _, .str x => .str x
  | _, _, .tup h t => .tup (e.seqT h) (DVs.mono e t)
  | _, _, .lst h t => .lst (e.seq h) (DVs.mono e t)
  | _, _, .dct h t => .dct (e _ _ h) (DVk.mono e t)
  | _, _, .exc h => .exc (e _ _ h)
  | _, _, .exr h h' => .exr (e _ _ h) (e _ _ h')
  | _, _, .obj h t => .obj (e _ _ h) (DVf.mono e t)
theorem DVs.mono (e : Same H H') : ∀ {vs : List V} {ds : List PyData}, DVs K H vs ds → DVs K H' vs ds
  | _, _, .nil => .nil
  | _, _, .cons h t => .cons (DV.mono e h) (DVs.mono e t)
theorem DVk.mono (e : Same H H') : ∀ {vs : List (Key × V)} {ds : List (PyData × PyData)}, DVk K H vs ds → DVk K H' vs ds
  | _, _, .nil => .nil
  | _, _, .cons h t => .cons (DV.mono e h) (DVk.mono e t)
theorem DVf.mono (e : Same H H') : ∀ {vs : List (Str × V)} {ds : List (PyData × PyData)}, DVf K H vs ds → DVf K H' vs ds
  | _, _, .nil => .nil
  | _, _, .cons l h t => .cons l (DV.mono e h) (DVf.mono e t)
end
theorem DVs.length : ∀ {vs : List V} {ds : List PyData}, DVs K H vs ds → vs.length = ds.length
  | _, _, .nil => rfl
  | _, _, .cons _ t => by rw [List.length_cons, List.length_cons, DVs.length t]
theorem DVs.get : ∀ {vs : List V} {ds : List PyData} {i : Nat} {d : PyData}, DVs K H vs ds → ds[i]? = some d → ∃ v, vs[i]? = some v ∧ DV K H v d
  | _, _, _, _, .nil, e => by simp at e
  | _, _, 0, _, .cons h _, e => by simp at e; subst e; exact ⟨_, rfl, h⟩
  | _, _, i + 1, d, .cons _ t, e => by
    obtain ⟨v, h1, h2⟩ := DVs.get (i := i) (d := d) t (by simpa using e)
    exact ⟨v, by simpa using h1, h2⟩
theorem DVs.get' : ∀ {vs : List V} {ds : List PyData} {i : Nat} {v : V}, DVs K H vs ds → vs[i]? = some v → ∃ d, ds[i]? = some d ∧ DV K H v d
  | _, _, _, _, .nil, e => by simp at e
  | _, _, 0, _, .cons h _, e => by simp at e; subst e; exact ⟨_, rfl, h⟩
  | _, _, i + 1, d, .cons _ t, e => by
    obtain ⟨v, h1, h2⟩ := DVs.get' (i := i) (v := d) t (by simpa using e)
    exact ⟨v, by simpa using h1, h2⟩
theorem DVs.append : ∀ {vs ws : List V} {ds es : List PyData}, DVs K H vs ds → DVs K H ws es → DVs K H (vs ++ ws) (ds ++ es)
  | _, _, _, _, .nil, s => s
  | _, _, _, _, .cons h t, s => .cons h (DVs.append t s)
theorem DVs.take : ∀ {vs : List V} {ds : List PyData} (n : Nat), DVs K H vs ds → DVs K H (vs.take n) (ds.take n)
  | _, _, 0, _ => .nil
  | _, _, _ + 1, .nil => .nil
  | _, _, n + 1, .cons h t => .cons h (DVs.take n t)
theorem DVs.drop : ∀ {vs : List V} {ds : List PyData} (n : Nat), DVs K H vs ds → DVs K H (vs.drop n) (ds.drop n)
  | _, _, 0, r => r
  | _, _, _ + 1, .nil => .nil
  | _, _, n + 1, .cons _ t => DVs.drop n t
theorem DVs.ints : ∀ (ns : List Int), DVs K H (ns.map V.int) (ns.map PyData.int)
  | [] => .nil
  | n :: r => .cons (.int n) (DVs.ints r)
theorem DVs.of_ints : ∀ {vs : List V} {ns : List Int}, DVs K H vs (ns.map PyData.int) → vs = ns.map V.int
  | _, [], .nil => rfl
  | _, n :: r, .cons h t => by cases h; rw [DVs.of_ints t]; rfl
theorem DVs.of_bools : ∀ {vs : List V} {ns : List Bool}, DVs K H vs (ns.map PyData.bool) → vs = ns.map V.bl
  | _, [], .nil => rfl
  | _, n :: r, .cons h t => by cases h; rw [DVs.of_bools t]; rfl
theorem DV.of_int {v : V} {i : Int} (h : DV K H v (.int i)) : v = .int i := by cases h; rfl
theorem DV.of_bl {v : V} {i : Bool} (h : DV K H v (.bool i)) : v = .bl i := by cases h; rfl
theorem DV.of_str {v : V} {i : Str} (h : DV K H v (.str i)) : v = .str i := by cases h; rfl
theorem DV.of_tup {v : V} {ds : List PyData} (h : DV K H v (.tuple ds)) : ∃ a xs, v = .ref a ∧ SqT K H a xs ∧ DVs K H xs ds := by cases h with | tup h t => exact ⟨_, _, rfl, h, t⟩
theorem excC_dvk {kvs : List (Key × V)} {es : List (PyData × PyData)} (h : DVk K H kvs es) : excC es = none := by
  cases h with
  | nil => rfl
  | cons h t =>
    rename_i k x d xs ds
    cases t with
    | nil => cases k <;> cases d <;> rfl
    | cons h2 t2 => rename_i k2 x2 d2 xs2 ds2; cases k <;> cases d <;> cases k2 <;> cases d2 <;> cases ds2 <;> rfl
theorem DVf.get : ∀ {fs : List (Str × V)} {es : List (PyData × PyData)} {f : Str} {d : PyData}, DVf K H fs es → (.str f, d) ∈ es → ∃ v, fs.lookup f = some v ∧ DV K H v d
  | _, _, _, _, .nil, h => by cases h
  | _, _, f, d, .cons l q t, h => by
    rcases List.mem_cons.mp h with e | e
    · injection e with e1 e2
      injection e1 with e1
      subst e1 e2
      exact ⟨_, l, q⟩
    · exact DVf.get t e
theorem DV.of_lst {v : V} {ds : List PyData} (h : DV K H v (.list ds)) : ∃ a xs, v = .ref a ∧ SqL K H a xs ∧ DVs K H xs ds := by cases h with | lst h t => exact ⟨_, _, rfl, h, t⟩
end
mutual
theorem DV.reads {X : Cx} {pins : List (Addr × Obj)} {σ : St} {H : Hp} {s : Shared} (I : Inv X pins σ H s) : ∀ {v : V} {d : PyData} {u : Value}, DV X.K H v d → RelV v u → d.canLay0 = true → ∃ as, Reads s.heap u d as
  | _, _, _, .non, r, _ => ⟨[], by rw [show _ = Value.none from r]; exact .none⟩
  | _, _, _, .bl b, r, _ => ⟨[], by rw [show _ = Value.bool b from r]; exact .bool b⟩
  | _, _, _, .int i, r, _ => let ⟨t, e⟩ := r; ⟨[], by rw [e]; exact .int i t⟩
  | _, _, _, .str x, r, _ => let ⟨t, e⟩ := r; ⟨[], by rw [e]; exact .str x t⟩
  | _, _, _, .tup h t, r, c => by
    rw [show _ = Value.ref _ from r]
    obtain ⟨its, rv, ⟨o, e1, e2, n, e3⟩, _⟩ := I.tuple h
    obtain ⟨as, q⟩ := DVs.reads I t rv (by unfold PyData.canLay0 at c; exact c)
    exact ⟨_, .tuple e1 e2 e3 (by simpa using q)⟩
  | _, _, _, .lst h t, r, c => by
    rw [show _ = Value.ref _ from r]
    obtain ⟨its, rv, pl, _⟩ := I.list h
    obtain ⟨o, e1, e2, n, e3⟩ := pl.isList
    obtain ⟨as, q⟩ := DVs.reads I t rv (by unfold PyData.canLay0 at c; exact c)
    exact ⟨_, .list e1 e2 e3 (by simpa using q)⟩
  | _, _, _, .dct h t, r, c => by simp [PyData.canLay0] at c
  | _, _, _, .exc h, r, c => by simp [PyData.canLay0] at c
  | _, _, _, .exr h h', r, c => by simp [PyData.canLay0] at c
  | _, _, _, .obj h t, r, c => by simp [PyData.canLay0] at c
theorem DVs.reads {X : Cx} {pins : List (Addr × Obj)} {σ : St} {H : Hp} {s : Shared} (I : Inv X pins σ H s) : ∀ {vs : List V} {ds : List PyData} {us : List Value}, DVs X.K H vs ds → Vals vs us → PyData.canLayAll0 ds = true → ∃ as, ReadsAll s.heap us ds as
  | _, _, _, .nil, .nil, _ => ⟨_, .nil⟩
  | _, _, _, .cons h t, .cons r rs, c => by
    unfold PyData.canLayAll0 at c
    rw [Bool.and_eq_true] at c
    obtain ⟨a1, q1⟩ := DV.reads I h r c.1
    obtain ⟨a2, q2⟩ := DVs.reads I t rs c.2
    exact ⟨_, .cons q1 q2⟩
end
abbrev Gam := List (Option PyData)
def SD (K : PySem.W.Frag) (H : Hp) (σ : St) (G : Gam) : Prop := σ.length = G.length ∧ ∀ (i : Nat) d, G[i]? = some (some d) → ∃ v, σ[i]? = some (some v) ∧ DV K H v d
theorem SD.mono {K : PySem.W.Frag} {H H' : Hp} {σ : St} {G : Gam} (h : SD K H σ G) (e : Same H H') : SD K H' σ G := ⟨h.1, fun i d z => let ⟨v, a, b⟩ := h.2 i d z; ⟨v, a, b.mono e⟩⟩
theorem SD.set {K : PySem.W.Frag} {H : Hp} {σ : St} {G : Gam} {i : Nat} {v : V} {d : PyData} (h : SD K H σ G) (q : DV K H v d) : SD K H (σ.set i (some v)) (G.set i (some d)) := by
  refine ⟨by rw [List.length_set, List.length_set, h.1], fun j e z => ?_⟩
  by_cases hj : i = j
  · subst hj
    by_cases hl : i < G.length
    · rw [List.getElem?_set_self hl] at z
      cases z
      exact ⟨v, List.getElem?_set_self (by rw [h.1]; exact hl), q⟩
    · rw [List.getElem?_eq_none (by rw [List.length_set]; omega)] at z
      cases z
  · rw [List.getElem?_set_ne hj] at z
    obtain ⟨w, a, b⟩ := h.2 j e z
    exact ⟨w, by rw [List.getElem?_set_ne hj]; exact a, b⟩
theorem SD.forget {K : PySem.W.Frag} {H : Hp} {σ : St} {G G' : Gam} (h : SD K H σ G) (hl : G'.length = G.length) (hw : ∀ (i : Nat) d, G'[i]? = some (some d) → G[i]? = some (some d)) : SD K H σ G' := ⟨h.1.trans hl.symm, fun i d z => h.2 i d (hw i d z)⟩
def tD (K : PySem.W.Frag) (G : Gam) (d : PyData) : TE := fun σ H Q => SD K H σ G ∧ ∀ v H', Same H H' → DV K H' v d → Q v H'
def tDT (K : PySem.W.Frag) (G : Gam) (b : Bool) : TT := fun σ H Q => SD K H σ G ∧ ∀ H', Same H H' → Q b H'
def tDA (K : PySem.W.Frag) (G : Gam) (ds : List PyData) : TA := fun σ H Q => SD K H σ G ∧ ∀ vs H', Same H H' → DVs K H' vs ds → Q vs H'
inductive Out where
  | next (G : Gam) | ret (d : PyData)
def tDS (K : PySem.W.Frag) (G : Gam) (o : Out) : TS := fun D σ H => SD K H σ G ∧ match o with
  | .next G' => ∀ σ' H', Same H H' → SD K H' σ' G' → D.nx σ' H'
  | .ret d => ∀ v H', Same H H' → DV K H' v d → D.rt v H'
abbrev EV (X : Cx) (G : Gam) (e : Expr) (d : PyData) : Prop := PE X e (tD X.K G d)
abbrev TV (X : Cx) (G : Gam) (e : Expr) (b : Bool) : Prop := PT X e (tDT X.K G b)
abbrev WV (X : Cx) (G : Gam) (e : Expr) (b : Bool) : Prop := PW X e (tDT X.K G b)
abbrev AV (X : Cx) (G : Gam) (es : List Expr) (ds : List PyData) : Prop := PA X es (tDA X.K G ds)
abbrev SV (X : Cx) (G : Gam) (st : Stmt) (o : Out) : Prop := PS X st (tDS X.K G o)
abbrev SVs (X : Cx) (G : Gam) (st : List Stmt) (o : Out) : Prop := PSs X st (tDS X.K G o)
section
variable {X : Cx} {G : Gam} {a b c e : Expr} {es : List Expr} {pos : Pos} {d da db dc : PyData}
theorem PE.imp {t t' : TE} (h : PE X e t) (m : ∀ σ H Q, t' σ H Q → t σ H Q) : PE X e t' := fun pins s σ H Q I q => h pins s σ H Q I (m σ H Q q)
theorem PT.imp {t t' : TT} (h : PT X e t) (m : ∀ σ H Q, t' σ H Q → t σ H Q) : PT X e t' := fun pins s σ H Q I q => h pins s σ H Q I (m σ H Q q)
theorem PW.imp {t t' : TT} (h : PW X e t) (m : ∀ σ H Q, t' σ H Q → t σ H Q) : PW X e t' := fun w pins s σ H Q I q => h w pins s σ H Q I (m σ H Q q)
theorem PA.imp {t t' : TA} (h : PA X es t) (m : ∀ σ H Q, t' σ H Q → t σ H Q) : PA X es t' := fun p pins s σ H Q I q => h p pins s σ H Q I (m σ H Q q)
theorem PS.imp {st : Stmt} {t t' : TS} (h : PS X st t) (m : ∀ D σ H, t' D σ H → t D σ H) : PS X st t' := fun pins s σ H D I q => h pins s σ H D I (m D σ H q)
theorem PSs.imp {st : List Stmt} {t t' : TS} (h : PSs X st t) (m : ∀ D σ H, t' D σ H → t D σ H) : PSs X st t' := fun pins s σ H D I q => h pins s σ H D I (m D σ H q)
theorem OpR.imp {f : Value → Value → Sem Value} {r r' : R2} (h : OpR X f r) (m : ∀ x y H Q, r' x y H Q → r x y H Q) : OpR X f r' := fun pins s σ H x y v u Q I rx ry q => h pins s σ H x y v u Q I rx ry (m x y H Q q)
theorem CallR.imp {f : Value} {r r' : List V → Hp → VK → Prop} (h : CallR X f r) (m : ∀ xs H Q, r' xs H Q → r xs H Q) : CallR X f r' := fun pins s σ H xs us Q I rs q => h pins s σ H xs us Q I rs (m xs H Q q)
theorem ev_var (i : Nat) {x : Str} (hG : G[i]? = some (some d)) (hp : PE X (.Name x pos) (tVar i)) : EV X G (.Name x pos) d := hp.imp fun σ H Q ⟨h, k⟩ => by
  obtain ⟨v, a, b⟩ := h.2 i d hG
  exact ⟨v, a, k v H (Same.refl H) b⟩
theorem ev_int {i j} : EV X G (.Constant (.int i) j pos) (.int i) := pe_int.imp fun σ H Q ⟨h, k⟩ => k _ H (Same.refl H) (.int i)
theorem ev_bl {i j} : EV X G (.Constant (.bool i) j pos) (.bool i) := pe_bl.imp fun σ H Q ⟨h, k⟩ => k _ H (Same.refl H) (.bl i)
def rD (K : PySem.W.Frag) (da db d : PyData) : R2 := fun x y H Q => DV K H x da ∧ DV K H y db ∧ ∀ v H', Same H H' → DV K H' v d → Q v H'
abbrev OD (X : Cx) (f : Value → Value → Sem Value) (da db d : PyData) : Prop := OpR X f (rD X.K da db d)
theorem tOp_D {r : R2} {σ : St} {H : Hp} {Q : VK} {K : PySem.W.Frag} (h : SD K H σ G) (k : ∀ x y H', Same H H' → DV K H' x da → DV K H' y db → r x y H' Q) : tOp r (tD K G da) (tD K G db) σ H Q :=
  ⟨h, fun x H1 s1 d1 => ⟨h.mono s1, fun y H2 s2 d2 => k x y H2 (s1.trans s2) (d1.mono s2) d2⟩⟩
theorem ev_bin {op : Operator} (ha : EV X G a da) (hb : EV X G b db) (ho : OD X (binaryOp op) da db d) : EV X G (.BinOp a op b pos) d :=
  (pe_op ho ha hb).imp fun σ H Q ⟨h, k⟩ => tOp_D h fun x y H' s' d1 d2 => ⟨d1, d2, fun v H2 s2 dv => k v H2 (s'.trans s2) dv⟩
theorem tv_cmp {op : CmpOp} {k : Bool} (ha : EV X G a da) (hb : EV X G b db) (ho : OD X (compareOp op) da db (.bool k)) (hm : behindInMarks op b = false) : TV X G (.Compare a [op] [b] pos) k :=
  (pt_cmpR ho ha hb hm).imp fun σ H Q ⟨h, kk⟩ => tOp_D h fun x y H' s' d1 d2 => ⟨d1, d2, fun v H2 s2 dv => ⟨k, dv.of_bl, kk H2 (s'.trans s2)⟩⟩
theorem od_rI0 {f : Value → Value → Sem Value} {i j : Int} {g : Int → Int → V} (h : OpR X f (rI0 g)) (hd : ∀ H, DV X.K H (g i j) d) : OD X f (.int i) (.int j) d :=
  h.imp fun x y H Q ⟨h1, h2, k⟩ => ⟨i, j, h1.of_int, h2.of_int, k _ H (Same.refl H) (hd H)⟩
theorem od_rI {f : Value → Value → Sem Value} {i j : Int} {C : Int → Int → Prop} {g : Int → Int → V} (h : OpR X f (rI C g)) (hc : C i j) (hd : ∀ H, DV X.K H (g i j) d) : OD X f (.int i) (.int j) d :=
  h.imp fun x y H Q ⟨h1, h2, k⟩ => ⟨i, j, h1.of_int, h2.of_int, hc, k _ H (Same.refl H) (hd H)⟩
theorem od_eq {k : Bool} (hu : X.A.units + 64 < cLine) (ha : da.canLay0 = true) (hb : db.canLay0 = true) (hd : min da.depth db.depth ≤ 60) (hk : PyData.eqv da db = k) : OD X (compareOp .Eq) da db (.bool k) := by
  intro pins s σ H x y v u Q I rx ry ⟨h1, h2, q⟩
  obtain ⟨as, r1⟩ := h1.reads I rx ha
  obtain ⟨bs, r2⟩ := h2.reads I ry hb
  refine PySem.SeqAt.compareEq_reads r1 r2 ha hb (by omega) ⟨.bl _, H, I, rfl, q _ H (Same.refl H) ?_⟩
  rw [hk]
  exact .bl k
theorem od_ne {k : Bool} (hu : X.A.units + 64 < cLine) (ha : da.canLay0 = true) (hb : db.canLay0 = true) (hd : min da.depth db.depth ≤ 60) (hk : (!PyData.eqv da db) = k) : OD X (compareOp .NotEq) da db (.bool k) := by
  intro pins s σ H x y v u Q I rx ry ⟨h1, h2, q⟩
  obtain ⟨as, r1⟩ := h1.reads I rx ha
  obtain ⟨bs, r2⟩ := h2.reads I ry hb
  refine PySem.SeqAt.compareNe_reads r1 r2 ha hb (by omega) ⟨.bl _, H, I, rfl, q _ H (Same.refl H) ?_⟩
  rw [hk]
  exact .bl k
end
end L2
set_option maxRecDepth 100000
set_option maxHeartbeats 4000000
namespace L2
open PySem PySem.Spec PyProof.Rows
section
variable {X : Cx} {G : Gam} {a b c e : Expr} {es rest : List Expr} {pos : Pos} {d da db dc : PyData}
theorem Same.new {H : Hp} {p : Addr} {o : HO} (h : H p = none) : Same H (upd H p o) := fun b u e => by rw [upd_ne (ne_of_none e h)]; exact e
theorem tv_val {k : Bool} (h : EV X G e (.bool k)) (he : ∀ whole, isTrue e X.env whole = (do let v ← whole; standAt e.pos; holding [v] (truthy v)) := by intro _; rfl) : TV X G e k :=
  (pt_val h he).imp fun σ H Q ⟨h, q⟩ => ⟨h, fun v H' s' dv => ⟨k, dv.of_bl, q H' s'⟩⟩
theorem wv_and1 {k : Bool} (h : TV X G a k) : WV X G (.BoolOp .And [a] pos) k := pw_and1 h
theorem wv_or1 {k : Bool} (h : TV X G a k) : WV X G (.BoolOp .Or [a] pos) k := pw_or1 h
theorem wv_and {k k' : Bool} (h : TV X G a k) (h2 : k = true → WV X G (.BoolOp .And (b :: rest) pos) k') : WV X G (.BoolOp .And (a :: b :: rest) pos) (k && k') := by
  cases k with
  | true => exact (pw_and h (h2 rfl)).imp fun σ H Q ⟨h, q⟩ => ⟨h, fun H' s' => (by simp only [if_true]; exact ⟨h.mono s', fun H2 s2 => q H2 (s'.trans s2)⟩)⟩
  | false =>
    intro wh pins s σ H Q I ⟨h1, q⟩
    refine isTrue_and (thn (h pins s σ H (fun c H1 => c = false ∧ Q false H1) I ⟨h1, fun H' s' => ⟨rfl, q H' s'⟩⟩) fun c s1 ⟨H1, I1, e1, q1⟩ => ?_)
    subst e1
    exact ⟨H1, I1, q1⟩
theorem wv_or {k k' : Bool} (h : TV X G a k) (h2 : k = false → WV X G (.BoolOp .Or (b :: rest) pos) k') : WV X G (.BoolOp .Or (a :: b :: rest) pos) (k || k') := by
  cases k with
  | false => exact (pw_or h (h2 rfl)).imp fun σ H Q ⟨h, q⟩ => ⟨h, fun H' s' => (by simp only [Bool.false_eq_true, if_false]; exact ⟨h.mono s', fun H2 s2 => q H2 (s'.trans s2)⟩)⟩
  | true =>
    intro wh pins s σ H Q I ⟨h1, q⟩
    refine isTrue_or (thn (h pins s σ H (fun c H1 => c = true ∧ Q true H1) I ⟨h1, fun H' s' => ⟨rfl, q H' s'⟩⟩) fun c s1 ⟨H1, I1, e1, q1⟩ => ?_)
    subst e1
    exact ⟨H1, I1, q1⟩
theorem tv_w {k : Bool} (h : WV X G e k) : TV X G e k := h.pt
theorem tv_not {k : Bool} (h : TV X G a k) : TV X G (.UnaryOp .Not a pos) (!k) := (pt_not h).imp fun σ H Q ⟨h, q⟩ => ⟨h, fun H' s' => q H' s'⟩
theorem ev_not {k : Bool} (h : EV X G a (.bool k)) : EV X G (.UnaryOp .Not a pos) (.bool (!k)) := (pe_not h).imp fun σ H Q ⟨h, q⟩ => ⟨h, fun v H' s' dv => ⟨k, dv.of_bl, q _ H' s' (.bl _)⟩⟩
theorem ev_one {op} (h : EV X G a d) : EV X G (.BoolOp op [a] pos) d := pe_one h
theorem ev_and {k : Bool} (h : EV X G a (.bool k)) (h2 : k = true → EV X G (.BoolOp .And (b :: rest) pos) d) (h3 : k = false → d = .bool false) : EV X G (.BoolOp .And (a :: b :: rest) pos) d := by
  cases k with
  | true => exact (pe_and h (h2 rfl)).imp fun σ H Q ⟨h, q⟩ => ⟨h, fun v H' s' dv => ⟨true, dv.of_bl, by simp only [if_true]; exact ⟨h.mono s', fun v2 H2 s2 d2 => q v2 H2 (s'.trans s2) d2⟩⟩⟩
  | false =>
    intro pins s σ H Q I ⟨h1, q⟩
    refine BoolOp_and (thn (h pins s σ H (fun v H1 => v = .bl false ∧ Q (.bl false) H1) I ⟨h1, fun v H' s' dv => ⟨dv.of_bl, q _ H' s' (by rw [h3 rfl]; exact .bl _)⟩⟩) fun v s1 ⟨x, H1, I1, r1, e1, q1⟩ => ?_)
    subst e1
    cases r1
    exact wpAny_truthy_bool ⟨.bl false, H1, I1, rfl, q1⟩
theorem ev_chain {op op' : CmpOp} {k k' : Bool} (ho : OD X (compareOp op) da db (.bool k)) (ho' : k = true → OD X (compareOp op') db dc (.bool k')) (ha : EV X G a da) (hb : EV X G b db) (hc : k = true → EV X G c dc)
    (hm : lastMarks [op, op'] [b, c] = false := by with_unfolding_all rfl) : EV X G (.Compare a [op, op'] [b, c] pos) (.bool (k && k')) := by
  cases k with
  | true =>
    refine (pe_chain ho (ho' rfl) ha hb (hc rfl) hm).imp fun σ H Q ⟨h, q⟩ => ⟨h, fun x H1 s1 d1 => ⟨h.mono s1, fun y H2 s2 d2 => ⟨d1.mono s2, d2, fun v H3 s3 d3 => ⟨true, d3.of_bl, ?_⟩⟩⟩⟩
    simp only [if_true]
    exact ⟨((h.mono s1).mono s2).mono s3, fun z H4 s4 d4 => ⟨(d2.mono s3).mono s4, d4, fun v H5 s5 d5 => q v H5 ((((s1.trans s2).trans s3).trans s4).trans s5) d5⟩⟩
  | false =>
    intro pins s σ H Q I ⟨h1, q⟩
    refine Compare_chain (thn (ha pins s σ H (fun x H1 => Same H H1 ∧ DV X.K H1 x da) I ⟨h1, fun v H' s' dv => ⟨s', dv⟩⟩) fun v s1 ⟨x, H1, I1, r1, z1, d1⟩ =>
      chain_link (thn (hb pins s1 σ H1 (fun y H2 => Same H H2 ∧ DV X.K H2 x da ∧ DV X.K H2 y db) I1 ⟨h1.mono z1, fun v H' s' dv => ⟨z1.trans s', d1.mono s', dv⟩⟩) fun u s2 ⟨y, H2, I2, r2, z2, d2, d3⟩ =>
      thn (ho pins s2 σ H2 x y v u (fun z H3 => z = .bl false ∧ Q (.bl false) H3) I2 r1 r2 ⟨d2, d3, fun v H3 s3 d3 => ⟨d3.of_bl, q _ H3 (z2.trans s3) (.bl false)⟩⟩) fun w s3 ⟨z, H3, I3, r3, e3, q3⟩ => ?_)) hm
    subst e3
    cases r3
    exact wpAny_truthy_bool (ite_ff ⟨.bl false, H3, I3, rfl, q3⟩)
theorem od_add {i j : Int} : OD X (binaryOp .Add) (.int i) (.int j) (.int (i + j)) := od_rI0 op_add fun H => .int _
theorem od_sub {i j : Int} : OD X (binaryOp .Sub) (.int i) (.int j) (.int (i - j)) := od_rI0 op_sub fun H => .int _
theorem od_mul {i j : Int} (h : CMul i j) : OD X (binaryOp .Mult) (.int i) (.int j) (.int (i * j)) := od_rI op_mul h fun H => .int _
theorem od_fdiv {i j : Int} (h : CDiv i j) : OD X (binaryOp .FloorDiv) (.int i) (.int j) (.int (i / j)) := od_rI op_fdiv h fun H => .int _
theorem od_mod {i j : Int} (h : 0 < j) : OD X (binaryOp .Mod) (.int i) (.int j) (.int (i % j)) := od_rI op_mod h fun H => .int _
theorem od_pow {i j : Int} (h : CPow i j) : OD X (binaryOp .Pow) (.int i) (.int j) (.int (i ^ j.toNat)) := od_rI op_pow h fun H => .int _
theorem od_xor {i j : Int} : OD X (binaryOp .BitXor) (.int i) (.int j) (.int (Builtin.bitXor i j)) := od_rI0 op_xor fun H => .int _
theorem od_lt {i j : Int} : OD X (compareOp .Lt) (.int i) (.int j) (.bool (decide (i < j))) := od_rI0 op_lt fun H => .bl _
theorem od_le {i j : Int} : OD X (compareOp .LtE) (.int i) (.int j) (.bool (decide (i ≤ j))) := od_rI0 op_le fun H => .bl _
theorem od_gt {i j : Int} : OD X (compareOp .Gt) (.int i) (.int j) (.bool (decide (j < i))) := od_rI0 op_gt fun H => .bl _
theorem od_ge {i j : Int} : OD X (compareOp .GtE) (.int i) (.int j) (.bool (decide (j ≤ i))) := od_rI0 op_ge fun H => .bl _
theorem od_catL {xs ys : List PyData} (hz : xs.length + ys.length ≤ sizeLine) : OD X (binaryOp .Add) (.list xs) (.list ys) (.list (xs ++ ys)) := by
  intro pins s σ H x y v u Q I rx ry ⟨h1, h2, q⟩
  obtain ⟨l, us, rfl, hl, d1⟩ := h1.of_lst
  obtain ⟨m, ws, rfl, hm, d2⟩ := h2.of_lst
  cases rx
  cases ry
  obtain ⟨its, r, pl, _⟩ := I.list hl
  obtain ⟨its2, r2, pl2, _⟩ := I.list hm
  obtain ⟨⟨cls, dd, data, sl⟩, ho, hc, n, hd⟩ := pl.isList
  obtain ⟨⟨cls2, dd2, data2, sl2⟩, ho2, hc2, n2, hd2⟩ := pl2.isList
  simp only at hc hd hc2 hd2
  subst hc hd hc2 hd2
  have hn : its.toArray.size + its2.toArray.size ≤ sizeLine := by rw [List.size_toArray, List.size_toArray, ← r.length, ← r2.length, d1.length, d2.length]; exact hz
  refine concat_meets ⟨_, ho, rfl⟩ ⟨_, ho2, rfl⟩ noFill_list_add seq_list_add PySem.F.slot_list_add PySem.F.entry_list_add (PySem.F.args_list_add_2 _ _) (list_addW l m its.toArray its2.toArray n n2 dd dd2 sl sl2 hn) ⟨ho, ho2, ?_⟩
  have ea : its.toArray ++ its2.toArray = (its ++ its2).toArray := by simp
  rw [ea]
  have hf := I.hok.fresh (Nat.le_refl _)
  refine ⟨.ref s.heap.objs.size, _, I.laid (t' := s.toks) (o := .lst (us ++ ws)) (fun b o e => Heap.get?_push_of_some _ e) (Nat.le_refl _) ⟨by rw [List.length_append, d1.length, d2.length]; exact hz, its ++ its2, 0, r.append r2, Heap.get?_push_size _ rfl⟩, rfl, q _ _ (Same.new hf) ?_⟩
  exact .lst (SqL.of upd_same) ((d1.append d2).mono (Same.new hf))
theorem od_catT {xs ys : List PyData} (hx : xs ≠ []) (hz : xs.length + ys.length ≤ sizeLine) : OD X (binaryOp .Add) (.tuple xs) (.tuple ys) (.tuple (xs ++ ys)) :=
  op_catT.imp fun x y H Q ⟨h1, h2, q⟩ => by
    obtain ⟨l, us, rfl, hl, d1⟩ := h1.of_tup
    obtain ⟨m, ws, rfl, hm, d2⟩ := h2.of_tup
    refine ⟨l, m, us, ws, rfl, rfl, hl, hm, fun z => hx ?_, by rw [d1.length, d2.length]; exact hz, fun z => ?_, fun z p hp => ?_⟩
    · subst z
      cases d1
      rfl
    · subst z
      cases d2
      rw [List.append_nil] at q
      exact q _ H (Same.refl H) (.tup hl d1)
    · exact q _ _ (Same.new hp) (.tup (SqT.of upd_same) ((d1.append d2).mono (Same.new hp)))
def flatD : PyData → Bool
  | .none => true
  | .bool _ => true
  | .int _ => true
  | .str _ => true
  | _ => false
theorem DV.flat {K : PySem.W.Frag} {H : Hp} {v : V} {d : PyData} (h : DV K H v d) (f : flatD d = true) : flatV v = true := by
  cases h <;> first | rfl | cases f
theorem DVs.flat {K : PySem.W.Frag} {H : Hp} : ∀ {vs : List V} {ds : List PyData}, DVs K H vs ds → ds.all flatD = true → vs.all flatV = true
  | _, _, .nil, _ => rfl
  | _, _, .cons h t, f => by
    rw [List.all_cons, Bool.and_eq_true] at f ⊢
    exact ⟨h.flat f.1, DVs.flat t f.2⟩
theorem DV.eqV_eqv {K : PySem.W.Frag} {H : Hp} {v w : V} {d e : PyData} (h : DV K H v d) (h' : DV K H w e) (f : flatD d = true) (f' : flatD e = true) : eqV v w = PyData.eqv d e := by
  cases h <;> cases h' <;> first | rfl | (simp [flatD] at f; done) | (simp [flatD] at f'; done)
theorem DVs.inV {K : PySem.W.Frag} {H : Hp} {v : V} {d : PyData} (h : DV K H v d) (f : flatD d = true) : ∀ {vs : List V} {ds : List PyData}, DVs K H vs ds → ds.all flatD = true → inV v vs = ds.any fun e => PyData.eqv e d
  | _, _, .nil, _ => rfl
  | _, _, .cons h' t, fs => by
    rw [List.all_cons, Bool.and_eq_true] at fs
    have ih := DVs.inV h f t fs.2
    unfold L2.inV at ih ⊢
    rw [List.any_cons, List.any_cons, ih, h'.eqV_eqv h fs.1 f]
theorem od_in {xs : List PyData} {k : Bool} (hs : db = .list xs ∨ db = .tuple xs) (f : flatD da = true) (fs : xs.all flatD = true) (hk : (xs.any fun e => PyData.eqv e da) = k) : OD X (compareOp .In) da db (.bool k) :=
  op_in_seq.imp fun x y H Q ⟨h1, h2, q⟩ => by
    have z : ∃ p us, y = .ref p ∧ (SqL X.K H p us ∨ SqT X.K H p us) ∧ DVs X.K H us xs := by
      rcases hs with rfl | rfl
      · obtain ⟨l, us, e, hl, d1⟩ := h2.of_lst
        exact ⟨l, us, e, .inl hl, d1⟩
      · obtain ⟨l, us, e, hl, d1⟩ := h2.of_tup
        exact ⟨l, us, e, .inr hl, d1⟩
    obtain ⟨p, us, e, hl, d1⟩ := z
    refine ⟨p, us, e, hl, h1.flat f, d1.flat fs, q _ H (Same.refl H) ?_⟩
    rw [if_neg (by simp), d1.inV h1 f fs, hk]
    exact .bl k
theorem od_notIn {xs : List PyData} {k : Bool} (hs : db = .list xs ∨ db = .tuple xs) (f : flatD da = true) (fs : xs.all flatD = true) (hk : (!xs.any fun e => PyData.eqv e da) = k) : OD X (compareOp .NotIn) da db (.bool k) :=
  op_notIn_seq.imp fun x y H Q ⟨h1, h2, q⟩ => by
    have z : ∃ p us, y = .ref p ∧ (SqL X.K H p us ∨ SqT X.K H p us) ∧ DVs X.K H us xs := by
      rcases hs with rfl | rfl
      · obtain ⟨l, us, e, hl, d1⟩ := h2.of_lst
        exact ⟨l, us, e, .inl hl, d1⟩
      · obtain ⟨l, us, e, hl, d1⟩ := h2.of_tup
        exact ⟨l, us, e, .inr hl, d1⟩
    obtain ⟨p, us, e, hl, d1⟩ := z
    refine ⟨p, us, e, hl, h1.flat f, d1.flat fs, q _ H (Same.refl H) ?_⟩
    rw [if_pos rfl, d1.inV h1 f fs, hk]
    exact .bl k
theorem av_nil : AV X G [] [] := pa_nil.imp fun σ H Q ⟨h, q⟩ => q [] H (Same.refl H) .nil
theorem av_cons {ds : List PyData} (h : EV X G e d) (hr : AV X G es ds) (hs : starEach (e :: es) X.env = (false, eval e X.env) :: starEach es X.env := by rfl) : AV X G (e :: es) (d :: ds) :=
  (pa_cons h hr hs).imp fun σ H Q ⟨h, q⟩ => ⟨h, fun v H1 s1 d1 => ⟨h.mono s1, fun vs H2 s2 d2 => q _ H2 (s1.trans s2) (.cons (d1.mono s2) d2)⟩⟩
theorem ev_tup {x1} {ds : List PyData} (h : AV X G es ds) (hz : ds.length ≤ sizeLine) : EV X G (.Tuple es x1 pos) (.tuple ds) :=
  (pe_tup h).imp fun σ H Q ⟨h, q⟩ => ⟨h, fun vs H1 s1 d1 => ⟨by rw [d1.length]; exact hz, fun p hp => q _ _ (s1.trans (Same.new hp)) (.tup (SqT.of upd_same) (d1.mono (Same.new hp)))⟩⟩
theorem ev_lst {ds : List PyData} (h : AV X G es ds) (hz : ds.length ≤ sizeLine) : EV X G (.List es pos) (.list ds) :=
  (pe_lst h).imp fun σ H Q ⟨h, q⟩ => ⟨h, fun vs H1 s1 d1 => ⟨by rw [d1.length]; exact hz, fun p hp => q _ _ (s1.trans (Same.new hp)) (.lst (SqL.of upd_same) (d1.mono (Same.new hp)))⟩⟩
theorem DVs.atI {K : PySem.W.Frag} {H : Hp} {vs : List V} {ds : List PyData} {i : Int} {d : PyData} (h : DVs K H vs ds) (e : atI ds i = some d) : ∃ v, L2.atI vs i = some v ∧ DV K H v d := by
  unfold L2.atI at e ⊢
  rw [h.length]
  cases q : ixN ds.length i with
  | none => rw [q] at e; cases e
  | some j =>
    rw [q] at e
    exact h.get e
theorem ev_ixL {ds : List PyData} {i : Int} (ha : EV X G a (.list ds)) (hb : EV X G b (.int i)) (he : atI ds i = some d) (hs : PlainIx b := by intro _ _; rfl) : EV X G (.Subscript a b pos) d :=
  (pe_ix ix_list ha hb hs).imp fun σ H Q ⟨h, q⟩ => tOp_D h fun x y H' s' d1 d2 => by
    obtain ⟨l, us, rfl, hl, d3⟩ := d1.of_lst
    obtain ⟨v, e1, e2⟩ := d3.atI he
    exact ⟨l, us, i, v, rfl, d2.of_int, hl, e1, q v H' s' e2⟩
theorem ev_ixT {ds : List PyData} {i : Int} (ha : EV X G a (.tuple ds)) (hb : EV X G b (.int i)) (he : atI ds i = some d) (hs : PlainIx b := by intro _ _; rfl) : EV X G (.Subscript a b pos) d :=
  (pe_ix ix_tup ha hb hs).imp fun σ H Q ⟨h, q⟩ => tOp_D h fun x y H' s' d1 d2 => by
    obtain ⟨l, us, rfl, hl, d3⟩ := d1.of_tup
    obtain ⟨v, e1, e2⟩ := d3.atI he
    exact ⟨l, us, i, v, rfl, d2.of_int, hl, e1, q v H' s' e2⟩
theorem ev_neg {i : Int} (ha : EV X G a (.int i)) : EV X G (.UnaryOp .USub a pos) (.int (-i)) :=
  (pe_un un_neg ha).imp fun σ H Q ⟨h, q⟩ => ⟨h, fun v H' s' dv => ⟨i, dv.of_int, q _ H' s' (.int _)⟩⟩
def tDO (K : PySem.W.Frag) (G : Gam) (o : Option Int) : TO := fun σ H Q => SD K H σ G ∧ ∀ H', Same H H' → Q o H'
abbrev OV (X : Cx) (G : Gam) (e : Option Expr) (o : Option Int) : Prop := PO X e (tDO X.K G o)
theorem ov_none : OV X G none none := fun pins s σ H Q I ⟨h, q⟩ => po_none pins s σ H Q I (q H (Same.refl H))
theorem ov_some {i : Int} (h : EV X G e (.int i)) : OV X G (some e) (some i) := fun pins s σ H Q I ⟨h1, q⟩ => po_some h pins s σ H Q I ⟨h1, fun v H' s' dv => ⟨i, dv.of_int, q H' s'⟩⟩
def cutD (xs : List PyData) (lo hi : Option Int) : List PyData := (xs.drop (HT.sIx xs.length 0 lo)).take (HT.sIx xs.length xs.length hi - HT.sIx xs.length 0 lo)
theorem DVs.cut {K : PySem.W.Frag} {H : Hp} {vs : List V} {ds : List PyData} (h : DVs K H vs ds) (lo hi : Option Int) : DVs K H (cutV vs lo hi) (cutD ds lo hi) := by
  unfold cutV cutD
  rw [h.length]
  exact (h.drop _).take _
theorem ev_slL {lo hi : Option Expr} {ol oh : Option Int} {p2 : Pos} {ds : List PyData} (ha : EV X G a (.list ds)) (hl : OV X G lo ol) (hh : OV X G hi oh) : EV X G (.Subscript a (.Slice lo hi none p2) pos) (.list (cutD ds ol oh)) :=
  (pe_slice sl_list ha hl hh).imp fun σ H Q ⟨h, q⟩ => ⟨h, fun v H1 s1 d1 => ⟨h.mono s1, fun H2 s2 => ⟨(h.mono s1).mono s2, fun H3 s3 => by
    obtain ⟨l, us, rfl, hl, d3⟩ := ((d1.mono s2).mono s3).of_lst
    exact ⟨l, us, rfl, hl, fun p hp => q _ _ (((s1.trans s2).trans s3).trans (Same.new hp)) (.lst (SqL.of upd_same) ((d3.cut ol oh).mono (Same.new hp)))⟩⟩⟩⟩
theorem ev_slT {lo hi : Option Expr} {ol oh : Option Int} {p2 : Pos} {ds : List PyData} (ha : EV X G a (.tuple ds)) (hl : OV X G lo ol) (hh : OV X G hi oh) (hw : ¬ (HT.sIx ds.length 0 ol = 0 ∧ HT.sIx ds.length ds.length oh = ds.length)) :
    EV X G (.Subscript a (.Slice lo hi none p2) pos) (.tuple (cutD ds ol oh)) :=
  (pe_slice sl_tup ha hl hh).imp fun σ H Q ⟨h, q⟩ => ⟨h, fun v H1 s1 d1 => ⟨h.mono s1, fun H2 s2 => ⟨(h.mono s1).mono s2, fun H3 s3 => by
    obtain ⟨l, us, rfl, hl, d3⟩ := ((d1.mono s2).mono s3).of_tup
    exact ⟨l, us, rfl, hl, by rw [d3.length]; exact hw, fun p hp => q _ _ (((s1.trans s2).trans s3).trans (Same.new hp)) (.tup (SqT.of upd_same) ((d3.cut ol oh).mono (Same.new hp)))⟩⟩⟩⟩
end
end L2
set_option maxRecDepth 100000
set_option maxHeartbeats 4000000
namespace L2
open PySem PySem.Spec PyProof.Rows
section
variable {κ : Type} [DecidableEq κ]
def valV (kvs : List (κ × V)) (k : κ) : Option V := (kvs.find? fun kv => decide (kv.1 = k)).map (·.2)
def putK (kvs : List (κ × V)) (k : κ) (v : V) : List (κ × V) :=
  if (kvs.any fun kv => decide (kv.1 = k)) = true then kvs.map (fun kv => if kv.1 = k then (kv.1, v) else kv) else kvs ++ [(k, v)]
def dropK (kvs : List (κ × V)) (k : κ) : List (κ × V) := kvs.filter fun kv => decide (kv.1 ≠ k)
theorem valV_pos {p : κ × V} {r : List (κ × V)} {k : κ} (e : p.1 = k) : valV (p :: r) k = some p.2 := by simp [valV, List.find?_cons, e]
theorem valV_neg {p : κ × V} {r : List (κ × V)} {k : κ} (e : ¬ p.1 = k) : valV (p :: r) k = valV r k := by simp [valV, List.find?_cons, e]
theorem valV_any (k : κ) : ∀ kvs : List (κ × V), (kvs.any fun kv => decide (kv.1 = k)) = (valV kvs k).isSome
  | [] => rfl
  | p :: r => by
    rw [List.any_cons]
    by_cases e : p.1 = k
    · simp only [valV_pos e, decide_eq_true e, Bool.true_or, Option.isSome_some]
    · rw [valV_neg e, decide_eq_false e, Bool.false_or]; exact valV_any k r
theorem RelO.isSome_eq {o : Option V} {u : Option Value} (r : RelO o u) : o.isSome = u.isSome := by
  cases o with
  | none => cases u with
    | none => rfl
    | some _ => exact (show False from r).elim
  | some _ => cases u with
    | none => exact (show False from r).elim
    | some _ => rfl
theorem RelO.getD {o : Option V} {u : Option Value} {d : V} {d' : Value} (r : RelO o u) (rd : RelV d d') : RelV (o.getD d) (u.getD d') := by
  cases o with
  | none => cases u with
    | none => exact rd
    | some _ => exact (show False from r).elim
  | some _ => cases u with
    | none => exact (show False from r).elim
    | some _ => exact r
theorem KV.val {kvs : List (κ × V)} {vs : List (κ × Value)} (r : KV kvs vs) (k : κ) : RelO (valV kvs k) (valueAt vs k) := by
  unfold KV at r
  induction r with
  | nil => exact True.intro
  | @cons p q ps qs h t ih =>
    obtain ⟨h1, h2⟩ := h
    by_cases e : p.1 = k
    · have e' : q.1 = k := h1.symm.trans e
      have b : valueAt (q :: qs) k = some q.2 := by simp [valueAt, List.find?_cons, e']
      rw [valV_pos e, b]; exact h2
    · have e' : ¬ q.1 = k := fun z => e (h1.trans z)
      have b : valueAt (q :: qs) k = valueAt qs k := by simp [valueAt, List.find?_cons, e']
      rw [valV_neg e, b]; exact ih
theorem KV.any {kvs : List (κ × V)} {vs : List (κ × Value)} (r : KV kvs vs) (k : κ) : (kvs.any fun kv => decide (kv.1 = k)) = vs.any fun kv => decide (kv.1 = k) := by
  unfold KV at r
  induction r with
  | nil => rfl
  | cons h t ih => rw [List.any_cons, List.any_cons, ih, h.1]
theorem KV.repl {kvs : List (κ × V)} {vs : List (κ × Value)} (r : KV kvs vs) (k : κ) {y : V} {u : Value} (ry : RelV y u) :
    KV (kvs.map fun kv => if kv.1 = k then (kv.1, y) else kv) (vs.map fun kv => if kv.1 = k then (kv.1, u) else kv) := by
  unfold KV at r ⊢
  induction r with
  | nil => exact .nil
  | @cons p q ps qs h t ih =>
    rw [List.map_cons, List.map_cons]
    refine .cons ?_ ih
    obtain ⟨h1, h2⟩ := h
    by_cases e : p.1 = k
    · rw [if_pos e, if_pos (h1.symm.trans e)]; exact ⟨h1, ry⟩
    · rw [if_neg e, if_neg (fun z => e (h1.trans z))]; exact ⟨h1, h2⟩
theorem KV.put {kvs : List (κ × V)} {vs : List (κ × Value)} (r : KV kvs vs) (k : κ) {y : V} {u : Value} (ry : RelV y u) : KV (putK kvs k y) (stored vs k u) := by
  unfold putK stored
  rw [r.any k]
  by_cases e : (vs.any fun kv => decide (kv.1 = k)) = true
  · rw [if_pos e, if_pos e]; exact r.repl k ry
  · rw [if_neg e, if_neg e]; exact Paired.snoc r ⟨rfl, ry⟩
theorem KV.drop {kvs : List (κ × V)} {vs : List (κ × Value)} (r : KV kvs vs) (k : κ) : KV (dropK kvs k) (without vs k) := by
  unfold KV at r ⊢
  unfold dropK without
  induction r with
  | nil => exact .nil
  | @cons p q ps qs h t ih =>
    obtain ⟨h1, h2⟩ := h
    rw [List.filter_cons, List.filter_cons]
    by_cases e : p.1 = k
    · have a : ¬ decide (p.1 ≠ k) = true := by simp [e]
      have b : ¬ decide (q.1 ≠ k) = true := by simp [h1.symm.trans e]
      rw [if_neg a, if_neg b]; exact ih
    · have e' : ¬ q.1 = k := fun z => e (h1.trans z)
      have a : decide (p.1 ≠ k) = true := by simp [e]
      have b : decide (q.1 ≠ k) = true := by simp [e']
      rw [if_pos a, if_pos b]; exact .cons ⟨h1, h2⟩ ih
theorem KV.keys {kvs : List (κ × V)} {vs : List (κ × Value)} (r : KV kvs vs) : kvs.map (·.1) = vs.map (·.1) := by
  unfold KV at r
  induction r with
  | nil => rfl
  | cons h t ih => rw [List.map_cons, List.map_cons, ih, h.1]
theorem KV.length {kvs : List (κ × V)} {vs : List (κ × Value)} (r : KV kvs vs) : kvs.length = vs.length := Paired.length r
end
theorem kV_is {P : Program} {w : World} {k : Key} {u : Value} (r : RelV (kV k) u) : (mixKind P w).is k u = true := by
  cases k with
  | inl i => obtain ⟨t, e⟩ := (show ∃ t, u = Value.int i t from r); subst e; exact mixKind_int P w i t
  | inr x => obtain ⟨t, e⟩ := (show ∃ t, u = Value.str x t from r); subst e; exact mixKind_str P w x t
theorem items_are {P : Program} {w : World} : ∀ {ks : List Key} {us : List Value}, Vals (ks.map kV) us → ItemsAre (mixKind P w) ks us
  | [], _, r => by rw [List.map_nil] at r; cases r; exact .nil
  | k :: ks, _, r => by
    rw [List.map_cons] at r
    cases r with
    | cons h t => exact .cons (kV_is h) (items_are t)
abbrev KT (H : Hp) : List (List Key × V) → List (List Key × Addr × Value) → Prop := Paired fun p q => p.1 = q.1 ∧ H q.2.1 = some (.tup (p.1.map kV)) ∧ RelV p.2 q.2.2
theorem KT.val {H : Hp} {kvs : List (List Key × V)} {xs : List (List Key × Addr × Value)} (r : KT H kvs xs) (k : List Key) : RelO (valV kvs k) ((atKey xs k).map (·.2)) := by
  induction r with
  | nil => exact True.intro
  | @cons p q ps qs h t ih =>
    obtain ⟨h1, _, h2⟩ := h
    by_cases e : p.1 = k
    · have e' : q.1 = k := h1.symm.trans e
      have b : atKey (q :: qs) k = some q.2 := by simp [atKey, List.find?_cons, e']
      rw [valV_pos e, b]; exact h2
    · have e' : ¬ q.1 = k := fun z => e (h1.trans z)
      have b : atKey (q :: qs) k = atKey qs k := by simp [atKey, List.find?_cons, e']
      rw [valV_neg e, b]; exact ih
theorem KT.repl {H : Hp} {kvs : List (List Key × V)} {xs : List (List Key × Addr × Value)} (r : KT H kvs xs) (k : List Key) {y : V} {u : Value} (ry : RelV y u) :
    KT H (kvs.map fun kv => if kv.1 = k then (kv.1, y) else kv) (xs.map (putAt k u)) := by
  induction r with
  | nil => exact .nil
  | @cons p q ps qs h t ih =>
    rw [List.map_cons, List.map_cons]
    refine .cons ?_ ih
    obtain ⟨h1, h2, h3⟩ := h
    unfold putAt
    by_cases e : p.1 = k
    · rw [if_pos e, if_pos (h1.symm.trans e)]; exact ⟨h1, h2, ry⟩
    · rw [if_neg e, if_neg (fun z => e (h1.trans z))]; exact ⟨h1, h2, h3⟩
theorem KT.put {H : Hp} {kvs : List (List Key × V)} {xs : List (List Key × Addr × Value)} (r : KT H kvs xs) (k : List Key) {b : Addr} {y : V} {u : Value} (hb : H b = some (.tup (k.map kV))) (ry : RelV y u) :
    KT H (putK kvs k y) (storedH xs k b u) := by
  have e : (kvs.any fun kv => decide (kv.1 = k)) = (atKey xs k).isSome := by
    rw [valV_any, (r.val k).isSome_eq, Option.isSome_map]
  unfold putK storedH
  rw [e]
  by_cases q : (atKey xs k).isSome = true
  · rw [if_pos q, if_pos q]; exact r.repl k ry
  · rw [if_neg q, if_neg q]; exact Paired.snoc r ⟨rfl, hb, ry⟩
theorem KT.keeps {H H' : Hp} {kvs : List (List Key × V)} {xs : List (List Key × Addr × Value)} (r : KT H kvs xs) (ht : ∀ b ys, H b = some (.tup ys) → H' b = some (.tup ys)) : KT H' kvs xs :=
  Paired.mapP r fun _ _ z => ⟨z.1, ht _ _ z.2.1, z.2.2⟩
section
variable {P : Program} {w : World} {H : Hp} {h : Heap} {a : Addr}
theorem rd_of {u : HO} (ok : HOk P w H h) (e : Rd H a u) : ObjOk P w H h a u := e.ok ok
theorem dk_rd {kvs : List (Key × V)} (ok : HOk P w H h) (e : Rd H a (.dK kvs)) : kvs.length ≤ sizeLine ∧ (a == sysModules) = false ∧ ∃ vs, KV kvs vs ∧ h.DictOf (mixKind P w) a vs :=
  show ObjOk P w H h a (.dK kvs) from rd_of ok e
theorem key_of {ks : List Key} (ok : HOk P w H h) (e : H a = some (.tup (ks.map kV))) : (tupleKind (mixKind P w)).is h ks a := by
  obtain ⟨_, its, r, o, h1, h2, n, h3⟩ := (show ObjOk P w H h a (.tup (ks.map kV)) from ok a _ e)
  exact ⟨o, its.toArray, n, h1, h2, h3, by simpa using items_are r⟩
theorem dt_rd {kvs : List (List Key × V)} (ok : HOk P w H h) (e : Rd H a (.dT kvs)) : kvs.length ≤ sizeLine ∧ (a == sysModules) = false ∧
    ∃ xs, KT H kvs xs ∧ h.DictOfH (tupleKind (mixKind P w)) a xs := by
  obtain ⟨z, y, xs, r, o, es, ep, h1, h2, h3, h4, h5⟩ := (show ObjOk P w H h a (.dT kvs) from rd_of ok e)
  refine ⟨z, y, xs, r, o, es, ep, h1, h2, h3, h4, fun x hx => ?_, h5⟩
  have all : ∀ {l : List (List Key × V)} {m : List (List Key × Addr × Value)}, KT H l m → ∀ x ∈ m, (tupleKind (mixKind P w)).is h x.1 x.2.1 := by
    intro l m q
    induction q with
    | nil => intro x hx; exact nomatch hx
    | @cons p q ps qs hq t ih =>
      intro x hx
      rcases List.mem_cons.mp hx with e | hx
      · subst e
        exact key_of ok (by rw [← hq.1]; exact hq.2.1)
      · exact ih x hx
  exact all r x hx
end
def DGet (H : Hp) (a : Addr) (y : V) (r : Option V) : Prop :=
  (∃ kvs k, Rd H a (.dK kvs) ∧ y = kV k ∧ r = valV kvs k) ∨ ∃ kvs k b, Rd H a (.dT kvs) ∧ y = .ref b ∧ H b = some (.tup (k.map kV)) ∧ r = valV kvs k
def DPut (H : Hp) (a : Addr) (y v : V) (H' : Hp) : Prop :=
  (∃ kvs k, H a = some (.dK kvs) ∧ y = kV k ∧ kvs.length < sizeLine ∧ H' = upd H a (.dK (putK kvs k v))) ∨
  ∃ kvs k b, H a = some (.dT kvs) ∧ y = .ref b ∧ H b = some (.tup (k.map kV)) ∧ kvs.length < sizeLine ∧ H' = upd H a (.dT (putK kvs k v))
theorem DGet.k {H : Hp} {a : Addr} {kvs : List (Key × V)} {k : Key} (e : H a = some (.dK kvs)) : DGet H a (kV k) (valV kvs k) := .inl ⟨kvs, k, .inl e, rfl, rfl⟩
theorem DGet.t {H : Hp} {a b : Addr} {kvs : List (List Key × V)} {k : List Key} (e : H a = some (.dT kvs)) (eb : H b = some (.tup (k.map kV))) : DGet H a (.ref b) (valV kvs k) := .inr ⟨kvs, k, b, .inl e, rfl, eb, rfl⟩
theorem DPut.k {H : Hp} {a : Addr} {kvs : List (Key × V)} {k : Key} {v : V} (e : H a = some (.dK kvs)) (hl : kvs.length < sizeLine) : DPut H a (kV k) v (upd H a (.dK (putK kvs k v))) := .inl ⟨kvs, k, e, rfl, hl, rfl⟩
theorem DPut.t {H : Hp} {a b : Addr} {kvs : List (List Key × V)} {k : List Key} {v : V} (e : H a = some (.dT kvs)) (eb : H b = some (.tup (k.map kV))) (hl : kvs.length < sizeLine) :
    DPut H a (.ref b) v (upd H a (.dT (putK kvs k v))) := .inr ⟨kvs, k, b, e, rfl, eb, hl, rfl⟩
section
variable {X : Cx} {pins : List (Addr × Obj)} {σ : St} {H : Hp} {s : Shared} {a : Addr} {y v : V} {u r : Value} {o : Option V} {A : Around} {E : Value → Shared → Prop}
end
section
variable {X : Cx} {pins : List (Addr × Obj)} {σ : St} {H : Hp} {s : Shared} {a : Addr} {kvs : List (Key × V)} {k : Key} {u : Value} {A : Around} {E : Value → Shared → Prop}
end
section
variable {X : Cx} {o i e value : Expr} {pos pos' tpos : Pos} {td ty tv : TE}
end
section
variable {X : Cx} {pos : Pos}
end
structure M1 (X : Cx) (o : Expr) (m : Str) (apos : Pos) (e : Expr) (cpos : Pos) : Prop where
  base : attributeBase o m X.env (eval o X.env) = eval o X.env
  few : ((backTo cpos (starEach [e] X.env)).all (fun x => !x.1) && (backToKw cpos (keywordEach [] X.env)).all (fun x => x.1.isSome)
    && decide (([e] : List Expr).length + ([] : List Keyword).length + (if ([] : List Keyword).isEmpty then 0 else 1) < 30)) = true
  line : (apos.endLine == cpos.line) = true
  trees : backTo cpos (starEach [e] X.env) = [(false, eval e X.env)]
structure M2 (X : Cx) (o : Expr) (m : Str) (apos : Pos) (e f : Expr) (cpos : Pos) : Prop where
  base : attributeBase o m X.env (eval o X.env) = eval o X.env
  few : ((backTo cpos (starEach [e, f] X.env)).all (fun x => !x.1) && (backToKw cpos (keywordEach [] X.env)).all (fun x => x.1.isSome)
    && decide (([e, f] : List Expr).length + ([] : List Keyword).length + (if ([] : List Keyword).isEmpty then 0 else 1) < 30)) = true
  line : (apos.endLine == cpos.line) = true
  trees : backTo cpos (starEach [e, f] X.env) = [(false, eval e X.env), (false, eval f X.env)]
def IsD (H : Hp) (a : Addr) : Prop := (∃ kvs, Rd H a (.dK kvs)) ∨ ∃ kvs, Rd H a (.dT kvs)
theorem isD_at {X : Cx} {pins : List (Addr × Obj)} {σ : St} {H : Hp} {s : Shared} {a : Addr} (I : Inv X pins σ H s) (d : IsD H a) :
    s.TypeIs (.ref a) "dict" ∧ (∀ b, Value.ref a = .ref b → ∃ ob, s.heap.get? b = some ob ∧ ob.dict = none) ∧ (a == sysModules) = false := by
  rcases d with ⟨kvs, e⟩ | ⟨kvs, e⟩
  · obtain ⟨_, hd, vs, _, dd⟩ := dk_rd I.hok e
    refine ⟨dd.typeIs, fun b q => ?_, hd⟩
    cases q
    obtain ⟨ob, _, _, h1, h2, _⟩ := dd
    exact ⟨ob, h1, h2.2.1⟩
  · obtain ⟨_, hd, xs, _, dd⟩ := dt_rd I.hok e
    refine ⟨dd.typeIs, fun b q => ?_, hd⟩
    cases q
    obtain ⟨ob, _, _, h1, h2, _⟩ := dd
    exact ⟨ob, h1, h2.2.1⟩
section
variable {X : Cx} {pins : List (Addr × Obj)} {σ : St} {H : Hp} {s : Shared} {a : Addr} {y d : V} {u r : Value} {o : Option V} {A : Around} {E : Value → Shared → Prop}
end
section
variable {X : Cx} {o e f : Expr} {apos cpos : Pos} {td ty tx : TE}
end
section
variable {X : Cx} {pins : List (Addr × Obj)} {σ : St} {H : Hp} {s : Shared} {a : Addr} {kvs : List (Key × V)} {A : Around} {E : Value → Shared → Prop}
end
section
variable {X : Cx} {pins : List (Addr × Obj)} {σ : St} {H : Hp} {s : Shared} {a : Addr} {y : V} {u : Value} {A : Around} {E : Value → Shared → Prop}
end
end L2
set_option maxRecDepth 100000
set_option maxHeartbeats 4000000
namespace L2
open PySem PySem.Spec PyProof.Rows
def rDA (K : PySem.W.Frag) (ds : List PyData) (d : PyData) : List V → Hp → VK → Prop := fun xs H Q => DVs K H xs ds ∧ ∀ v H', Same H H' → DV K H' v d → Q v H'
abbrev CD (X : Cx) (f : Value) (ds : List PyData) (d : PyData) : Prop := CallR X f (rDA X.K ds d)
section
variable {X : Cx} {G : Gam} {a b c e : Expr} {es rest : List Expr} {pos p p2 : Pos} {d da db dc : PyData} {ds : List PyData} {x : Str} {id T : String}
theorem ev_callB (hc : CD X (.builtin id) ds d) (hg : Gl X x) (hm : X.mg x = none) (hv : bootBuiltins x = some (.builtin id)) (ha : AV X G (e :: es) ds) (hn : x ≠ "__name__" := by decide) (hdb : (x == ("__debug__" : Str)) = false := by decide)
    (he : starEach (e :: es) X.env = (false, eval e X.env) :: starEach es X.env := by rfl) (hpl : (backTo pos (starEach es X.env)).any (·.1) = false := by rfl) : EV X G (.Call (.Name x p) (e :: es) [] pos) d :=
  (pe_callB hc hg hm hv ha hn hdb he hpl).imp fun σ H Q ⟨h, q⟩ => ⟨h, fun vs H1 s1 d1 => ⟨d1, fun v H2 s2 d2 => q v H2 (s1.trans s2) d2⟩⟩
theorem ev_callTy (hc : CD X (.type T) ds d) (hg : Gl X x) (hm : X.mg x = none) (hv : bootBuiltins x = some (.type T)) (ha : AV X G (e :: es) ds) (hn : x ≠ "__name__" := by decide) (hdb : (x == ("__debug__" : Str)) = false := by decide)
    (he : starEach (e :: es) X.env = (false, eval e X.env) :: starEach es X.env := by rfl) (hpl : (backTo pos (starEach es X.env)).any (·.1) = false := by rfl) : EV X G (.Call (.Name x p) (e :: es) [] pos) d :=
  (pe_callTy hc hg hm hv ha hn hdb he hpl).imp fun σ H Q ⟨h, q⟩ => ⟨h, fun vs H1 s1 d1 => ⟨d1, fun v H2 s2 d2 => q v H2 (s1.trans s2) d2⟩⟩
theorem DVs.one {K : PySem.W.Frag} {H : Hp} {vs : List V} (h : DVs K H vs [d]) : ∃ v, vs = [v] ∧ DV K H v d := by
  cases h with
  | cons h t => cases t; exact ⟨_, rfl, h⟩
theorem DVs.two {K : PySem.W.Frag} {H : Hp} {vs : List V} (h : DVs K H vs [da, db]) : ∃ v w, vs = [v, w] ∧ DV K H v da ∧ DV K H w db := by
  cases h with
  | cons h t =>
    obtain ⟨w, rfl, h2⟩ := t.one
    exact ⟨_, w, rfl, h, h2⟩
theorem cd_lenL : CD X (.builtin "len") [.list ds] (.int ds.length) := call_len_seq.imp fun xs H Q ⟨h, q⟩ => by
  obtain ⟨v, rfl, dv⟩ := h.one
  obtain ⟨l, us, rfl, hl, d1⟩ := dv.of_lst
  exact ⟨l, us, rfl, .inl hl, q _ H (Same.refl H) (by rw [d1.length]; exact .int _)⟩
theorem cd_lenT : CD X (.builtin "len") [.tuple ds] (.int ds.length) := call_len_seq.imp fun xs H Q ⟨h, q⟩ => by
  obtain ⟨v, rfl, dv⟩ := h.one
  obtain ⟨l, us, rfl, hl, d1⟩ := dv.of_tup
  exact ⟨l, us, rfl, .inr hl, q _ H (Same.refl H) (by rw [d1.length]; exact .int _)⟩
theorem cd_lenS {z : Str} (hz : z.length ≤ sizeLine) : CD X (.builtin "len") [.str z] (.int z.length) := call_len_str.imp fun xs H Q ⟨h, q⟩ => by
  obtain ⟨v, rfl, dv⟩ := h.one
  exact ⟨z, by rw [dv.of_str], hz, q _ H (Same.refl H) (.int _)⟩
theorem cd_tupleL : CD X (.type "tuple") [.list ds] (.tuple ds) := call_tuple_of.imp fun xs H Q ⟨h, q⟩ => by
  obtain ⟨v, rfl, dv⟩ := h.one
  obtain ⟨l, us, rfl, hl, d1⟩ := dv.of_lst
  exact ⟨l, us, rfl, .inl ⟨hl, fun p hp => q _ _ (Same.new hp) (.tup (SqT.of upd_same) (d1.mono (Same.new hp)))⟩⟩
theorem cd_listL : CD X (.type "list") [.list ds] (.list ds) := call_list_of.imp fun xs H Q ⟨h, q⟩ => by
  obtain ⟨v, rfl, dv⟩ := h.one
  obtain ⟨l, us, rfl, hl, d1⟩ := dv.of_lst
  exact ⟨l, us, rfl, .inl hl, fun p hp => q _ _ (Same.new hp) (.lst (SqL.of upd_same) (d1.mono (Same.new hp)))⟩
theorem cd_listT : CD X (.type "list") [.tuple ds] (.list ds) := call_list_of.imp fun xs H Q ⟨h, q⟩ => by
  obtain ⟨v, rfl, dv⟩ := h.one
  obtain ⟨l, us, rfl, hl, d1⟩ := dv.of_tup
  exact ⟨l, us, rfl, .inr hl, fun p hp => q _ _ (Same.new hp) (.lst (SqL.of upd_same) (d1.mono (Same.new hp)))⟩
theorem cd_intB {k : Bool} : CD X (.type "int") [.bool k] (.int (if k then 1 else 0)) := call_int1.imp fun xs H Q ⟨h, q⟩ => by
  obtain ⟨v, rfl, dv⟩ := h.one
  exact .inr ⟨k, by rw [dv.of_bl], q _ H (Same.refl H) (.int _)⟩
theorem cd_max {i j : Int} (hc : X.calm = true) : CD X (.builtin "max") [.int i, .int j] (.int (if j > i then j else i)) := (call_max2 hc).imp fun xs H Q ⟨h, q⟩ => by
  obtain ⟨v, w, rfl, dv, dw⟩ := h.two
  exact ⟨i, j, by rw [dv.of_int, dw.of_int], q _ H (Same.refl H) (.int _)⟩
theorem all_range_eq (bs : List Bool) : (List.range bs.length).all (fun i => bs.getD i false) = bs.all (fun z => z) := by
  rw [Bool.eq_iff_iff, List.all_eq_true, List.all_eq_true]
  constructor
  · intro h x hx
    obtain ⟨i, hi, e⟩ := List.mem_iff_getElem.mp hx
    have := h i (List.mem_range.mpr hi)
    simp only [List.getD_eq_getElem?_getD, List.getElem?_eq_getElem hi, Option.getD_some] at this
    rw [← e]
    exact this
  · intro h i hi
    have hi := List.mem_range.mp hi
    simp only [List.getD_eq_getElem?_getD, List.getElem?_eq_getElem hi, Option.getD_some]
    exact h _ (List.getElem_mem hi)
theorem cd_all (hc : X.calm = true) {bs : List Bool} : CD X (.builtin "all") [.list (bs.map PyData.bool)] (.bool (bs.all fun z => z)) := by
  intro pins s σ H xs us Q I rs ⟨h, q⟩
  obtain ⟨v, rfl, dv⟩ := h.one
  obtain ⟨l, vs, rfl, hl, d1⟩ := dv.of_lst
  obtain ⟨u, rfl, ru⟩ := vals1 rs
  cases ru
  have e1 := d1.of_bools
  subst e1
  obtain ⟨its, r, pl, hz⟩ := I.list hl
  have hlt : l < s.heap.objs.size := by
    obtain ⟨o, ho, _⟩ := pl.isList
    exact Heap.lt_size ho
  have hh : X.A.in1.handled = none := I.ok.hd hc
  have hlen : its.toArray.size = bs.length := by rw [List.size_toArray, ← r.length, List.length_map]
  refine call_all_walk (wpAny_pyIter_list pl.isList ⟨s.heap.objs.size, _, _, its.toArray.size, _, _, fun i => bs.getD i false, rfl, Walks.list hh s.heap.objs.size l (Nat.ne_of_lt hlt) its.toArray,
    ⟨⟨_, Heap.get?_push_size _ rfl, rfl, rfl⟩, let ⟨o, e, r⟩ := pl.isList; ⟨o, Heap.get?_push_of_some _ e, r⟩⟩, fun i v s2 Q2 E2 hP hQ => ?_, fun h' tk hk => ?_⟩)
  · have hP : its.toArray[i]? = some v := hP
    have hP : its[i]? = some v := by simpa using hP
    have hi : i < bs.length := by
      have := (List.getElem?_eq_some_iff.mp hP).1
      rw [← r.length, List.length_map] at this
      exact this
    have hb : (bs.map V.bl)[i]? = some (V.bl bs[i]) := by simp [hi]
    obtain ⟨u, e2, r2⟩ := r.get hb
    rw [hP] at e2
    cases e2
    cases r2
    refine wpAny_truthy_bool ?_
    have : bs.getD i false = bs[i] := by simp [List.getD_eq_getElem?_getD, hi]
    exact this ▸ hQ
  · rw [hlen, all_range_eq]
    have I1 : Inv X pins σ H { s with heap := h', toks := tk } := I.kept fun b o e => hk b o (by
      intro z
      have z : b = s.heap.objs.size := by simpa using z
      exact absurd (Heap.lt_size e) (by rw [z]; exact Nat.lt_irrefl _)) (Heap.get?_push_of_some _ e)
    exact ⟨.bl _, H, I1, rfl, q _ H (Same.refl H) (.bl _)⟩
theorem cd_sum (hc : X.calm = true) {ns : List Int} : CD X (.builtin "sum") [.list (ns.map PyData.int)] (.int ns.sum) := by
  intro pins s σ H xs us Q I rs ⟨h, q⟩
  obtain ⟨v, rfl, dv⟩ := h.one
  obtain ⟨l, vs, rfl, hl, d1⟩ := dv.of_lst
  obtain ⟨u, rfl, ru⟩ := vals1 rs
  cases ru
  have e1 := d1.of_ints
  subst e1
  obtain ⟨its, r, pl, hz⟩ := I.list hl
  have hi : IntsAre its ns := intsAre_of r
  obtain ⟨ys, ey⟩ := (hi.allInts : AllInts its.toArray).items
  have hh : X.A.handled = none := I.ok.hd hc
  have hl' : s.heap.IsList l (intItems ys) := ey ▸ pl.isList
  refine sum_intListG hh hl' fun h' tk t' hk => ?_
  have I1 : Inv X pins σ H { s with heap := h', toks := tk } := I.kept hk
  have en : ns = numsOf its := hi.numsOf.symm
  have es : preSum (numAt ys) ys.size = ns.sum := by
    rw [preSum_eq, List.take_of_length_le (by simp), en, ← nums_intItems ys]
    congr 2
    have := congrArg Array.toList ey
    simpa using this.symm
  rw [es]
  exact ⟨.int _, H, I1, ⟨_, rfl⟩, q _ H (Same.refl H) (.int _)⟩
def tyD : PyData → Value
  | .none => .type "NoneType"
  | .bool _ => .type "bool"
  | .int _ => .type "int"
  | .str _ => .type "str"
  | .list _ => .type "list"
  | .tuple _ => .type "tuple"
  | .dict es => match excC es with
    | some C => .ref C
    | none => .type "dict"
def ExcIsi (K : PySem.W.Frag) (C : Addr) : Prop := ∀ (a : Addr) (φ : Heap → Prop), (∀ h, φ h → ∃ o, h.get? a = some o ∧ o.cls = .ref C) → PySem.W.KitX K (.ref a) (.ref C) φ
theorem isinst_D {pins : List (Addr × Obj)} {σ : St} {H : Hp} {s : Shared} {A : Around} {E : Value → Shared → Prop} {Q : Value → Shared → Prop} {c : Value} {k : Bool} {v : V} {u : Value} (I : Inv X pins σ H s) (h : DV X.K H v d) (rv : RelV v u)
    (e : PySem.W.kitOne X.K (tyD d) c = some k) (hq : ∀ tk, Q (.bool k) { s with toks := tk }) (hX : ∀ C, d = excD C → ExcIsi X.K C := by intro _ z; cases z) (hX2 : ∀ C n, d = excRD C n → ExcIsi X.K C := by intro _ _ z; first | cases z | (unfold excD at z; cases z)) (hO : isObD d = false := by first | rfl | assumption) : wpAny (model X.prog X.w) A (call (.builtin "isinstance") [u, c]) Q E s := by
  cases h with
  | non => exact isinst_ok I rv .non e hq
  | bl b => exact isinst_ok I rv (.bl b) e hq
  | int i => exact isinst_ok I rv (.int i) e hq
  | str x => exact isinst_ok I rv (.str x) e hq
  | @tup a xs ds h t =>
    cases rv
    obtain ⟨its, _, ⟨o, h1, h2, _⟩, _⟩ := I.tuple h
    exact PySem.W.kia_one PySem.W.kitx_tuple I.kIn ⟨o, h1, h2⟩ e (fun z => nomatch z) hq
  | @lst a xs ds h t =>
    cases rv
    obtain ⟨its, _, pl, _⟩ := I.list h
    obtain ⟨o, h1, h2, _⟩ := pl.isList
    exact PySem.W.kia_one PySem.W.kitx_list I.kIn ⟨o, h1, h2⟩ e (fun z => nomatch z) hq
  | @dct a kvs es h t =>
    cases rv
    have e' : PySem.W.kitOne X.K (.type "dict") c = some k := by
      have z : tyD (.dict es) = (match excC es with | some C => Value.ref C | none => .type "dict") := rfl
      rw [z, excC_dvk t] at e
      exact e
    exact PySem.W.kia_one PySem.W.kitx_dict I.kIn (isD_at I (.inl ⟨kvs, .inl h⟩)).1 e' (fun z => nomatch z) hq
  | @exc a C h =>
    cases rv
    have e' : PySem.W.kitOne X.K (.ref C) c = some k := e
    exact PySem.W.kia_one (hX C rfl a _ fun h p => let ⟨o, _, h1, h2, _⟩ := p; ⟨o, h1, h2⟩) I.kIn (I.hok a _ h).1 e' (fun z => nomatch z) hq
  | @exr a C dx n h h' =>
    cases rv
    have e' : PySem.W.kitOne X.K (.ref C) c = some k := e
    exact PySem.W.kia_one (hX2 C n rfl a _ fun h p => let ⟨o, _, h1, h2, _⟩ := p; ⟨o, h1, h2⟩) I.kIn (I.hok a _ h).1 e' (fun z => nomatch z) hq
  | obj h t => cases hO
theorem ev_isi {k : Bool} {n : String} {x1 : Str} (ha : EV X G a da) (hg : Gl X "isinstance") (hm : X.mg "isinstance" = none) (hg1 : Gl X x1) (hm1 : X.mg x1 = none) (hv1 : bootBuiltins x1 = some (.type n)) (e : PySem.W.kitOne X.K (tyD da) (.type n) = some k)
    (hX : ∀ C, da = excD C → ExcIsi X.K C := by intro _ z; cases z) (hX2 : ∀ C n, da = excRD C n → ExcIsi X.K C := by intro _ _ z; first | cases z | (unfold excD at z; cases z)) (hO : isObD da = false := by first | rfl | assumption) (hn : x1 ≠ "__name__" := by decide) (hd1 : (x1 == ("__debug__" : Str)) = false := by decide) (hv : bootBuiltins "isinstance" = some (.builtin "isinstance") := by decide +kernel)
    (he : starEach [a, .Name x1 p2] X.env = (false, eval a X.env) :: starEach [.Name x1 p2] X.env := by rfl) (he2 : starEach [.Name x1 p2] X.env = (false, eval (.Name x1 p2) X.env) :: starEach [] X.env := by rfl)
    (hpl : (backTo pos (starEach [.Name x1 p2] X.env)).any (·.1) = false := by rfl) :
    EV X G (.Call (.Name "isinstance" p) [a, .Name x1 p2] [] pos) (.bool k) := by
  have cr : CallR X (.builtin "isinstance") (fun xs H Q => ∃ v, xs = [v, .ty n] ∧ DV X.K H v da ∧ Q (.bl k) H) := by
    intro pins s σ H xs us Q I rs ⟨v, ex, dv, q⟩
    subst ex
    obtain ⟨u, w, rfl, ru, rw'⟩ := vals2 rs
    cases rw'
    exact isinst_D I dv ru e (fun tk => ⟨.bl k, H, I.tok tk, rfl, q⟩) hX hX2 hO
  refine (pe_callB cr hg hm hv (pa_cons ha (pa_cons (pe_bltn (v := .ty n) hg1 hm1 hv1 rfl hn hd1) pa_nil he2) he) (by decide) (by decide) he hpl).imp fun σ H Q ⟨h, q⟩ => ⟨h, fun v H1 s1 d1 => ⟨v, rfl, d1, q _ H1 s1 (.bl k)⟩⟩
def spD (K : PySem.W.Frag) (F : List PyData → PyData → Prop) : Sp := fun vs H Q _ => ∃ ds d, DVs K H vs ds ∧ F ds d ∧ ∀ v H', Same H H' → DV K H' v d → Q v H'
def DFn (P : Program) (w : World) (K : PySem.W.Frag) (mg : Str → Option Value) (base : Heap) (k : Nat) (x : Str) (F : List PyData → PyData → Prop) : Prop :=
  ∃ f fd ps, FnOk P w K mg base CX0 k f fd ps (spD K F) ∧ mg x = some (.ref f) ∧ PySem.W.keepIn K (.ref f) = true ∧ Binds K fd ps []
theorem ev_call {k : Nat} {F : List PyData → PyData → Prop} (D : DFn X.prog X.w X.K X.mg X.base k x F) (hr : Room k X.A) (hg : Gl X x) (ha : AV X G (e :: es) ds) (hF : F ds d) (hdb : (x == ("__debug__" : Str)) = false := by decide)
    (he : starEach (e :: es) X.env = (false, eval e X.env) :: starEach es X.env := by rfl) (hpl : (backTo pos (starEach es X.env)).any (·.1) = false := by rfl) : EV X G (.Call (.Name x p) (e :: es) [] pos) d := by
  obtain ⟨f, fd, ps, ok, hm, hk, hb⟩ := D
  refine (pe_call ok hr hg hm hk hb .nil pass0 ha hdb he hpl).imp fun σ H Q ⟨h, q⟩ => ⟨h, fun vs H1 s1 d1 => ?_⟩
  show spD X.K F (vs ++ []) H1 Q E0
  rw [List.append_nil]
  exact ⟨ds, d, d1, hF, fun v H2 s2 d2 => q v H2 (s1.trans s2) d2⟩
theorem svs_nil : SVs X G [] (.next G) := pss_nil.imp fun D σ H ⟨h, q⟩ => q σ H (Same.refl H) h
theorem svs_cons {st : Stmt} {sts : List Stmt} {G1 : Gam} {o : Out} (h1 : SV X G st (.next G1)) (h2 : SVs X G1 sts o) : SVs X G (st :: sts) o :=
  (pss_cons h1 h2).imp fun D σ H ⟨h, q⟩ => ⟨h, fun σ' H' s' h' => ⟨h', by
    cases o with
    | next G2 => exact fun σ2 H2 s2 h2 => q σ2 H2 (s'.trans s2) h2
    | ret d => exact fun v H2 s2 h2 => q v H2 (s'.trans s2) h2⟩⟩
theorem svs_ret {st : Stmt} {sts : List Stmt} (h1 : SV X G st (.ret d)) : SVs X G (st :: sts) (.ret d) := by
  intro pins s σ H D I ⟨h, q⟩
  have z : PSs X (st :: sts) (fun D σ H => tDS X.K G (.ret d) D σ H) := by
    refine (pss_cons (t := fun D σ H => tDS X.K G (.ret d) D σ H) (u := tNever) h1 pss_never).imp fun D σ H ⟨h, q⟩ => ⟨h, q⟩
  exact z pins s σ H D I ⟨h, q⟩
theorem sv_ret (h : EV X G e d) : SV X G (.Return (some e) pos) (.ret d) := (ps_ret h).imp fun D σ H ⟨h, q⟩ => ⟨h, q⟩
theorem sv_set {i : Nat} (hN : X.N.Nodup) (hi : X.N[i]? = some x) (hx : Loc X.env.scope x) (h : EV X G e d) (hs : swapsWith e (some (.Name x p)) pos.line X.env = pure false := by rfl)
    (hf : X.fn x = true ∨ X.env.scope.names.lookup x = some .local := by first | exact .inl rfl | exact .inr rfl | assumption) : SV X G (.Assign [.Name x p] e pos) (.next (G.set i (some d))) :=
  (ps_set hN hi hx h hs hf).imp fun D σ H ⟨h, q⟩ => ⟨h, fun v H1 s1 d1 => q _ H1 s1 ((h.mono s1).set d1)⟩
theorem sv_if {k : Bool} {A B : List Stmt} {o : Out} (hc : TV X G c k) (h1 : k = true → SVs X G A o) (h2 : k = false → SVs X G B o) : SV X G (.If c A B pos) o := by
  have hA : PSs X A (fun D σ H => k = true ∧ tDS X.K G o D σ H) := fun pins s σ H D I ⟨e, q⟩ => h1 e pins s σ H D I q
  have hB : PSs X B (fun D σ H => k = false ∧ tDS X.K G o D σ H) := fun pins s σ H D I ⟨e, q⟩ => h2 e pins s σ H D I q
  refine (ps_if hc hA hB).imp fun D σ H ⟨h, q⟩ => ⟨h, fun H1 s1 => ?_⟩
  have fin : tDS X.K G o D σ H1 := ⟨h.mono s1, by
    cases o with
    | next G2 => exact fun σ2 H2 s2 h2 => q σ2 H2 (s1.trans s2) h2
    | ret d => exact fun v H2 s2 h2 => q v H2 (s1.trans s2) h2⟩
  cases k with
  | true => exact iteT ⟨rfl, fin⟩
  | false => exact iteF ⟨rfl, fin⟩
theorem svs_forget {sts : List Stmt} {G1 G2 : Gam} (h : SVs X G sts (.next G1)) (hl : G2.length = G1.length) (hw : ∀ (i : Nat) d, G2[i]? = some (some d) → G1[i]? = some (some d)) : SVs X G sts (.next G2) :=
  h.imp fun D σ H ⟨h, q⟩ => ⟨h, fun σ' H' s' h' => q σ' H' s' (h'.forget hl hw)⟩
structure ItD (K : PySem.W.Frag) (J : It) (ds : List PyData) (H0 : Hp) : Prop where
  go : ∀ i H, Same H0 H → i < ds.length → J.go i H
  yld : ∀ i H v H', Same H0 H → i < ds.length → J.yld i H v H' → Same H H' ∧ ∃ d, ds[i]? = some d ∧ DV K H' v d
  stop : ∀ i H, Same H0 H → ds.length ≤ i → J.stop i H
def tDI (K : PySem.W.Frag) (G : Gam) (ds : List PyData) : TI := fun σ H R => SD K H σ G ∧ ∀ J H', Same H H' → ItD K J ds H' → R J H'
abbrev IV (X : Cx) (G : Gam) (tg iter : Expr) (ds : List PyData) : Prop := PI X tg iter (tDI X.K G ds)
theorem PI.imp {tg : Expr} {t t' : TI} (h : PI X tg e t) (m : ∀ σ H R, t' σ H R → t σ H R) : PI X tg e t' := fun pins s σ H R I q => h pins s σ H R I (m σ H R q)
theorem iv_list {tg : Expr} (h : EV X G e (.list ds)) : IV X G tg e ds := (pi_list h).imp fun σ H R ⟨h, q⟩ => ⟨h, fun v H1 s1 d1 => by
  obtain ⟨l, us, rfl, hl, d2⟩ := d1.of_lst
  refine ⟨l, rfl, ⟨us, hl⟩, q _ H1 s1 ⟨fun i H2 s2 hi => ?_, fun i H2 v H3 s2 _ ⟨e, y⟩ => ?_, fun i H2 s2 hi => ⟨us, s2.seq hl, by rw [d2.length]; exact hi⟩⟩⟩
  · obtain ⟨v, e, _⟩ := d2.get (i := i) (d := ds[i]) (by simp [hi])
    exact ⟨us, v, s2.seq hl, e⟩
  · subst e
    obtain ⟨d, e1, e2⟩ := d2.get' (y us (s2.seq hl))
    exact ⟨Same.refl _, d, e1, e2.mono s2⟩⟩
theorem iv_tup {tg : Expr} (h : EV X G e (.tuple ds)) : IV X G tg e ds := (pi_tup h).imp fun σ H R ⟨h, q⟩ => ⟨h, fun v H1 s1 d1 => by
  obtain ⟨l, us, rfl, hl, d2⟩ := d1.of_tup
  refine ⟨l, rfl, ⟨us, hl⟩, q _ H1 s1 ⟨fun i H2 s2 hi => ?_, fun i H2 v H3 s2 _ ⟨e, y⟩ => ?_, fun i H2 s2 hi => ⟨us, s2.seqT hl, by rw [d2.length]; exact hi⟩⟩⟩
  · obtain ⟨v, e, _⟩ := d2.get (i := i) (d := ds[i]) (by simp [hi])
    exact ⟨us, v, s2.seqT hl, e⟩
  · subst e
    obtain ⟨d, e1, e2⟩ := d2.get' (y us (s2.seqT hl))
    exact ⟨Same.refl _, d, e1, e2.mono s2⟩⟩
abbrev rangeD (lo : Int) (n : Nat) : List PyData := (List.range n).map fun (i : Nat) => PyData.int (lo + (i : Int))
theorem rangeD_len {lo : Int} {n : Nat} : (rangeD lo n).length = n := by simp [rangeD]
theorem rangeD_get {lo : Int} {n i : Nat} (h : i < n) : (rangeD lo n)[i]? = some (.int (lo + (i : Int))) := by simp [rangeD, h]
theorem itd_range {K : PySem.W.Frag} {lo : Int} {n : Nat} {H : Hp} : ItD K (Itr lo n) (rangeD lo n) H where
  go := fun i H s h => by rw [rangeD_len] at h; exact h
  yld := fun i H v H' s h ⟨e, y⟩ => by
    rw [rangeD_len] at h
    subst e y
    exact ⟨Same.refl _, _, rangeD_get h, .int _⟩
  stop := fun i H s h => by rw [rangeD_len] at h; exact h
theorem iv_range1 {tg : Expr} {n : Int} (ha : EV X G a (.int n)) (h1 : -(2 ^ 62) ≤ n) (h2 : n < 2 ^ 62) (hg : Gl X "range") (hm : X.mg "range" = none) (hs : starEach [a] X.env = [(false, eval a X.env)] := by rfl) :
    IV X G tg (.Call (.Name "range" p) [a] [] pos) (rangeD 0 n.toNat) :=
  (pi_range1 hg hm (av_cons ha av_nil hs) hs).imp fun σ H R ⟨h, q⟩ => ⟨h, fun vs H1 s1 d1 => by
    obtain ⟨v, rfl, dv⟩ := d1.one
    exact ⟨n, by rw [dv.of_int], h1, h2, q _ H1 s1 itd_range⟩⟩
end
end L2
set_option maxRecDepth 100000
set_option maxHeartbeats 4000000
namespace L2
open PySem PySem.Spec PyProof.Rows
def outG (ix : List Nat) (G : Gam) : Gam := ix.map fun i => (G[i]?).getD none
theorem SD.comp {K : PySem.W.Frag} {H : Hp} {σ : St} {G : Gam} (h : SD K H σ G) (k : Nat) (ix : List Nat) : SD K H (List.replicate k none ++ outS ix σ) (List.replicate k none ++ outG ix G) := by
  refine ⟨by simp [outS, outG], fun i d e => ?_⟩
  rcases Nat.lt_or_ge i k with hi | hi
  · rw [List.getElem?_append_left (by simpa using hi), List.getElem?_replicate, if_pos hi] at e
    cases e
  · rw [List.getElem?_append_right (by simpa using hi), List.length_replicate] at e ⊢
    unfold outG at e
    unfold outS
    rw [List.getElem?_map] at e ⊢
    cases q : ix[i - k]? with
    | none => rw [q] at e; cases e
    | some j =>
      rw [q] at e
      have e : (G[j]?).getD none = some d := Option.some.inj e
      have e' : G[j]? = some (some d) := by
        cases z : G[j]? with
        | none => rw [z] at e; cases e
        | some w => rw [z] at e; have e : w = some d := e; rw [e]
      obtain ⟨v, a, b⟩ := h.2 j d e'
      exact ⟨v, by rw [Option.map_some, a]; rfl, b⟩
section
variable {X : Cx} {G : Gam} {elt target iter : Expr} {ifs : List Expr} {scope : Scope} {pos : Pos} {N : List Str} {ix : List Nat} {ds : List PyData}
theorem PE.ex {ι : Type} {e : Expr} {t : ι → TE} {p : ι → Prop} (h : ∀ i, p i → PE X e (t i)) : PE X e (fun σ H Q => ∃ i, p i ∧ t i σ H Q) := fun pins s σ H Q I ⟨i, hi, q⟩ => h i hi pins s σ H Q I q
theorem PF.ex {ι : Type} {es : List Expr} {t : ι → TT} {p : ι → Prop} (h : ∀ i, p i → PF X es (t i)) : PF X es (fun σ H Q => ∃ i, p i ∧ t i σ H Q) := fun pins s σ H Q I ⟨i, hi, q⟩ => h i hi pins s σ H Q I q
theorem pf_D0 : PF X [] (tDT X.K G true) := fun pins s σ H Q I ⟨h, q⟩ => pf_nil pins s σ H Q I (q H (Same.refl H))
theorem pf_D1 {c : Expr} {k : Bool} (h : TV X G c k) : PF X [c] (tDT X.K G k) := pf_one h
structure BindD (K : PySem.W.Frag) (k : Nat) (g : TG) (B : PyData → Gam → Gam) (d : PyData) : Prop where
  to : ∀ (v : V) σ H G (Q : St → Hp → Prop), SD K H σ G → DV K H v d → (∀ σ2, SD K H σ2 (B d G) → Q σ2 H) → g v σ H Q
def bind1 (d : PyData) (G : Gam) : Gam := G.set 0 (some d)
theorem bindD1 {K : PySem.W.Frag} (d : PyData) : BindD K 1 (gName 0) bind1 d := ⟨fun v σ H G Q h dv q => q _ (h.set dv)⟩
theorem compW_D {α : Type} {as : List α} {D : α → PyData} {k : Nat} {g : TG} {B : PyData → Gam → Gam} {σ : St} {J : It} {H1 : Hp} {Q : List V → Hp → Prop} (K : PySem.W.Frag) (Pd : α → Bool) (F : α → PyData) (hz : as.length ≤ sizeLine) (og : OwnG k g)
    (hb : ∀ a ∈ as, BindD K k g B (D a)) (hσ : SD K H1 σ G) (hJ : ItD K J (as.map D) H1) (q : ∀ ys H', Same H1 H' → DVs K H' ys ((as.filter Pd).map F) → Q ys H') :
    CompW k ix g (fun σ H Q => ∃ a, a ∈ as ∧ tDT K (B (D a) (List.replicate k none ++ outG ix G)) (Pd a) σ H Q) (fun σ H Q => ∃ a, (a ∈ as ∧ Pd a = true) ∧ tD K (B (D a) (List.replicate k none ++ outG ix G)) (F a) σ H Q) σ J H1 Q := by
  refine ⟨fun i m ys H => i ≤ as.length ∧ m = as.length - i ∧ Same H1 H ∧ DVs K H ys (((as.take i).filter Pd).map F), ⟨_, Nat.zero_le _, rfl, Same.refl _, .nil⟩, ?_⟩
  rintro i m ys H ⟨hi, rfl, sm, dy⟩
  have hyl : ys.length ≤ as.length := by
    rw [dy.length, List.length_map]
    refine Nat.le_trans (List.length_filter_le _ _) ?_
    rw [List.length_take]
    omega
  refine ⟨Nat.le_trans hyl hz, ?_⟩
  by_cases hlt : i < as.length
  · refine .inr ⟨hJ.go i H sm (by rw [List.length_map]; exact hlt), fun v H' y => ?_⟩
    obtain ⟨s2, d, ed, dv⟩ := hJ.yld i H v H' sm (by rw [List.length_map]; exact hlt) y
    have ea : as[i]? = some as[i] := List.getElem?_eq_getElem hlt
    have ed' : d = D as[i] := by
      rw [List.getElem?_map, ea] at ed
      exact (Option.some.inj ed).symm
    subst ed'
    have hd : as[i] ∈ as := List.getElem_mem hlt
    have tk : (as.take (i + 1)).filter Pd = (as.take i).filter Pd ++ (if Pd as[i] then [as[i]] else []) := take_succ_filter Pd as i as[i] ea
    refine (hb _ hd).to v _ H' _ _ (((hσ.mono sm).mono s2).comp k ix) dv fun σ2 h2 => ⟨as[i], hd, h2, fun H3 s3 => ?_⟩
    cases hp : Pd as[i] with
    | true =>
      refine iteT ⟨as[i], ⟨hd, hp⟩, h2.mono s3, fun w H4 s4 dw => ⟨as.length - (i + 1), by omega, hlt, rfl, ((sm.trans s2).trans s3).trans s4, ?_⟩⟩
      rw [tk, hp, if_pos rfl, List.map_append]
      exact (((dy.mono s2).mono s3).mono s4).append (.cons dw .nil)
    | false =>
      refine iteF ⟨as.length - (i + 1), by omega, hlt, rfl, (sm.trans s2).trans s3, ?_⟩
      rw [tk, hp, if_neg Bool.false_ne_true, List.append_nil]
      exact (dy.mono s2).mono s3
  · have e : i = as.length := by omega
    subst e
    rw [List.take_length] at dy
    exact .inl ⟨hJ.stop _ H sm (by rw [List.length_map]; exact Nat.le_refl _), q ys H sm dy⟩
theorem ev_comp {α : Type} {as : List α} {D : α → PyData} {k : Nat} {g : TG} {B : PyData → Gam → Gam} (Pd : α → Bool) (F : α → PyData) (hcalm : X.calm = true) (hc : CompOk X.env.scope X.N k ix N scope) (og : OwnG k g) (hi : IV X G target iter (as.map D)) (hz : as.length ≤ sizeLine)
    (hb : ∀ a ∈ as, BindD X.K k g B (D a)) (hg : ∀ cl C s H fp, PG (cxComp X scope cl C N s H fp) target g)
    (ht : ∀ a ∈ as, ∀ cl C s H fp, PF (cxComp X scope cl C N s H fp) ifs (tDT X.K (B (D a) (List.replicate k none ++ outG ix G)) (Pd a)))
    (he : ∀ a ∈ as, Pd a = true → ∀ cl C s H fp, EV (cxComp X scope cl C N s H fp) (B (D a) (List.replicate k none ++ outG ix G)) elt (F a))
    (hs : ∀ x, foldedSetIterable iter X.env x = pure x := by intro _; rfl) : EV X G (.ListComp elt [⟨target, iter, ifs, 0⟩] scope pos) (.list ((as.filter Pd).map F)) := by
  refine (pe_comp hcalm hc og hi (fun cl C s H fp => ⟨hg cl C s H fp, PF.ex (t := fun a => tDT X.K (B (D a) (List.replicate k none ++ outG ix G)) (Pd a)) (p := fun a => a ∈ as) fun d hd => ht d hd cl C s H fp, PE.ex (t := fun a => tD X.K (B (D a) (List.replicate k none ++ outG ix G)) (F a)) (p := fun a => a ∈ as ∧ Pd a = true) fun d hd => he d hd.1 hd.2 cl C s H fp⟩) hs).imp fun σ H Q ⟨h, q⟩ => ⟨h, fun J H1 s1 hJ => ?_⟩
  refine compW_D X.K Pd F hz og hb (h.mono s1) hJ fun ys H2 s2 dy D hD => ?_
  exact q _ _ ((s1.trans s2).trans (Same.new hD)) (.lst (SqL.of upd_same) (dy.mono (Same.new hD)))
theorem sv_setComp {α : Type} {as : List α} {D : α → PyData} {k i : Nat} {x : Str} {pos' spos : Pos} {g : TG} {B : PyData → Gam → Gam} (Pd : α → Bool) (F : α → PyData) (hcalm : X.calm = true) (hN : X.N.Nodup) (hx0 : X.N[i]? = some x) (hx : X.env.scope.names.lookup x = some .local)
    (hc : CompOk X.env.scope X.N k ix N scope) (og : OwnG k g) (hi : IV X G target iter (as.map D)) (hz : as.length ≤ sizeLine)
    (hb : ∀ a ∈ as, BindD X.K k g B (D a)) (hg : ∀ cl C s H fp, PG (cxComp X scope cl C N s H fp) target g)
    (ht : ∀ a ∈ as, ∀ cl C s H fp, PF (cxComp X scope cl C N s H fp) ifs (tDT X.K (B (D a) (List.replicate k none ++ outG ix G)) (Pd a)))
    (he : ∀ a ∈ as, Pd a = true → ∀ cl C s H fp, EV (cxComp X scope cl C N s H fp) (B (D a) (List.replicate k none ++ outG ix G)) elt (F a))
    (hsw : swapsWith (.ListComp elt [⟨target, iter, ifs, 0⟩] scope pos) (some (.Name x pos')) spos.line X.env = pure true := by rfl)
    (hs : ∀ x, foldedSetIterable iter X.env x = pure x := by intro _; rfl) : SV X G (.Assign [.Name x pos'] (.ListComp elt [⟨target, iter, ifs, 0⟩] scope pos) spos) (.next (G.set i (some (.list ((as.filter Pd).map F))))) := by
  refine (ps_setComp hcalm hN hx0 hx hc og hi (fun cl C s H fp => ⟨hg cl C s H fp, PF.ex (t := fun a => tDT X.K (B (D a) (List.replicate k none ++ outG ix G)) (Pd a)) (p := fun a => a ∈ as) fun d hd => ht d hd cl C s H fp, PE.ex (t := fun a => tD X.K (B (D a) (List.replicate k none ++ outG ix G)) (F a)) (p := fun a => a ∈ as ∧ Pd a = true) fun d hd => he d hd.1 hd.2 cl C s H fp⟩) hsw hs).imp fun Dn σ H ⟨h, q⟩ => ⟨h, fun J H1 s1 hJ => ?_⟩
  refine compW_D X.K Pd F hz og hb (h.mono s1) hJ fun ys H2 s2 dy D hD => ?_
  have s3 := (s1.trans s2).trans (Same.new (o := .lst ys) hD)
  exact q _ _ s3 ((h.mono s3).set (.lst (SqL.of upd_same) (dy.mono (Same.new hD))))
theorem sv_for {α : Type} {as : List α} {D : α → PyData} {tg : Expr} {body : List Stmt} {k : Nat} {g : TG} {B : PyData → Gam → Gam} (J : Nat → Gam) (hp : PassesOwn (model X.prog X.w) X.A X.env X.xe) (hcalm : X.calm = true) (hi : IV X (J 0) tg iter (as.map D)) (hg : PG X tg g) (hb : ∀ a ∈ as, BindD X.K k g B (D a))
    (hs : ∀ (i : Nat) a, as[i]? = some a → SVs X (B (D a) (J i)) body (.next (J (i + 1)))) (hfs : ∀ x, foldedSetIterable iter X.env x = pure x := by intro _; rfl) : SV X (J 0) (.For tg iter body [] pos) (.next (J as.length)) := by
  have hbody : PSs X body (fun Dn σ H => ∃ p : Nat × α, as[p.1]? = some p.2 ∧ tDS X.K (B (D p.2) (J p.1)) (.next (J (p.1 + 1))) Dn σ H) := fun pins s σ H Dn I ⟨p, hp, q⟩ => hs p.1 p.2 hp pins s σ H Dn I q
  refine (ps_for hp hcalm hi hg hbody hfs).imp fun Dn σ H ⟨h, q⟩ => ⟨h, fun It0 H1 s1 hJ => ?_⟩
  refine ⟨fun i m σ H => i ≤ as.length ∧ m = as.length - i ∧ Same H1 H ∧ SD X.K H σ (J i), ⟨_, Nat.zero_le _, rfl, Same.refl _, h.mono s1⟩, ?_⟩
  rintro i m σ H ⟨hi, rfl, sm, hσ⟩
  by_cases hlt : i < as.length
  · refine .inr ⟨hJ.go i H sm (by rw [List.length_map]; exact hlt), fun σ' H' => Same H1 H' ∧ SD X.K H' σ' (J (i + 1)), fun σ' H' ⟨a, b⟩ => ⟨as.length - (i + 1), by omega, hlt, rfl, a, b⟩, fun v H' y => ?_⟩
    obtain ⟨s2, d, ed, dv⟩ := hJ.yld i H v H' sm (by rw [List.length_map]; exact hlt) y
    have ea : as[i]? = some as[i] := List.getElem?_eq_getElem hlt
    have ed' : d = D as[i] := by
      rw [List.getElem?_map, ea] at ed
      exact (Option.some.inj ed).symm
    subst ed'
    refine (hb _ (List.getElem_mem hlt)).to v _ H' _ _ (hσ.mono s2) dv fun σ2 h2 => ⟨(i, as[i]), ea, h2, fun σ3 H3 s3 h3 => ⟨(sm.trans s2).trans s3, h3⟩⟩
  · have e : i = as.length := by omega
    subst e
    exact .inl ⟨hJ.stop _ H sm (by rw [List.length_map]; exact Nat.le_refl _), q σ H (s1.trans sm) hσ⟩
def bindAt (i : Nat) (d : PyData) (G : Gam) : Gam := G.set i (some d)
theorem bindDAt {K : PySem.W.Frag} {k : Nat} (i : Nat) (d : PyData) : BindD K k (gName i) (bindAt i) d := ⟨fun v σ H G Q h dv q => q _ (h.set dv)⟩
end
def startG (N : List Str) (ds : List PyData) : Gam := ds.map some ++ List.replicate (N.length - ds.length) none
theorem SD.start {K : PySem.W.Frag} {H : Hp} {N : List Str} {vs : List V} {ds : List PyData} (h : DVs K H vs ds) : SD K H (start N vs) (startG N ds) := by
  refine ⟨by simp [L2.start, startG, h.length], fun i d e => ?_⟩
  unfold startG at e
  unfold L2.start
  rcases Nat.lt_or_ge i ds.length with hi | hi
  · rw [List.getElem?_append_left (by simpa using hi), List.getElem?_map] at e
    rw [List.getElem?_append_left (by simpa [h.length] using hi), List.getElem?_map]
    cases q : ds[i]? with
    | none => rw [q] at e; cases e
    | some d' =>
      rw [q] at e
      have e : d' = d := by
        have := Option.some.inj e
        exact Option.some.inj this
      subst e
      obtain ⟨v, a, b⟩ := h.get q
      exact ⟨v, by rw [a]; rfl, b⟩
  · rw [List.getElem?_append_right (by simpa using hi), List.getElem?_replicate] at e
    split at e <;> cases e
section
variable {P : Program} {w : World} {K : PySem.W.Frag} {mg : Str → Option Value} {base : Heap}
theorem Fun.data {x qual : Str} {st : Stmt} {f : Addr} {fd : FuncData} {N ps : List Str} {k : Nat} {F : List PyData → PyData → Prop} (F0 : Fun K x qual st f fd) (hm : mg x = some (.ref f)) (hb : Binds K fd ps []) (S : FnScope N ps (defScope st)) (len : ∀ ds d, F ds d → ds.length = ps.length)
    (hbody : ∀ (cdv : Value) (A : Around) (outer : List Env) (s : Shared) (H : Hp) (E : XK) (ds : List PyData) (d : PyData), Room k (A.deeper (envOfC qual (defScope st) s.heap.objs.size f cdv)) → F ds d →
      SVs (cxOf CX0 P w K mg base N qual (defScope st) f cdv A outer s H E).nox (startG N ds) (defBody st) (.ret d)) : DFn P w K mg base (k + 1) x F := by
  refine ⟨f, fd, ps, F0.ok S (fun vs H Q E ⟨ds, d, h1, h2, _⟩ => h1.length.trans (len ds d h2)) (fun cdv A outer s H vs Q E hr ⟨ds, d, h1, h2, q⟩ => ⟨_, hbody cdv A outer s H E ds d hr h2, SD.start h1, q⟩), hm, F0.kp, hb⟩
end
theorem DFn.mono {P : Program} {w : World} {K : PySem.W.Frag} {mg : Str → Option Value} {base : Heap} {j k : Nat} {x : Str} {F : List PyData → PyData → Prop} (D : DFn P w K mg base j x F) (h : j ≤ k) : DFn P w K mg base k x F := by
  obtain ⟨f, fd, ps, ok, r⟩ := D
  exact ⟨f, fd, ps, ok.mono h, r⟩
end L2
set_option maxRecDepth 100000
set_option maxHeartbeats 4000000
namespace L2
open PySem PySem.Spec PyProof.Rows
mutual
def noL : PyData → Bool
  | .none => true
  | .bool _ => true
  | .int _ => true
  | .str _ => true
  | .tuple xs => noLs xs
  | .list _ => false
  | .dict _ => false
def noLs : List PyData → Bool
  | [] => true
  | x :: r => noL x && noLs r
end
def dele (H : Hp) (p : Addr) : Hp := fun b => if b = p then none else H b
theorem dele_same {H : Hp} {p : Addr} : dele H p p = none := by unfold dele; rw [if_pos rfl]
theorem dele_ne {H : Hp} {p b : Addr} (h : b ≠ p) : dele H p b = H b := by unfold dele; rw [if_neg h]
theorem upd_dele {H : Hp} {p : Addr} {o : HO} (h : H p = some o) : upd (dele H p) p o = H := by
  funext b
  by_cases hb : b = p
  · subst hb; rw [upd_same, h]
  · rw [upd_ne hb, dele_ne hb]
mutual
theorem DV.dele {K : PySem.W.Frag} {H : Hp} {p : Addr} {ws : List V} (hp : H p = some (.lst ws)) : ∀ {v : V} {d : PyData}, DV K H v d → noL d = true → DV K (L2.dele H p) v d
  | _, _, .non, _ => .non
  | _, _, .bl b, _ => .bl b
  | _, _, .int i, _ => .int i
  | _, _, .str x, _ => .str x
  | _, _, .tup (a := a) h t, f => by
    refine .tup ?_ (DVs.dele hp t (by unfold noL at f; exact f))
    rcases h with (h | ⟨o, h⟩) | h
    · have : a ≠ p := fun z => by subst z; rw [hp] at h; cases h
      exact .inl (.inl (by rw [dele_ne this]; exact h))
    · have : a ≠ p := fun z => by subst z; rw [hp] at h; cases h
      exact .inl (.inr ⟨o, by rw [dele_ne this]; exact h⟩)
    · exact .inr h
  | _, _, .lst h t, f => by unfold noL at f; cases f
  | _, _, .dct h t, f => by unfold noL at f; cases f
  | _, _, .exc h, f => by unfold noL at f; cases f
  | _, _, .exr h h', f => by unfold noL at f; cases f
  | _, _, .obj h t, f => by unfold noL at f; cases f
theorem DVs.dele {K : PySem.W.Frag} {H : Hp} {p : Addr} {ws : List V} (hp : H p = some (.lst ws)) : ∀ {vs : List V} {ds : List PyData}, DVs K H vs ds → noLs ds = true → DVs K (L2.dele H p) vs ds
  | _, _, .nil, _ => .nil
  | _, _, .cons h t, f => by
    unfold noLs at f
    rw [Bool.and_eq_true] at f
    exact .cons (DV.dele hp h f.1) (DVs.dele hp t f.2)
end
def OSt (K : PySem.W.Frag) (H0 : Hp) (p : Addr) (i : Nat) (G : Gam) (ds : List PyData) (σ : St) (H : Hp) : Prop :=
  ∃ Hb vs, H = upd Hb p (.lst vs) ∧ Hb p = none ∧ Same H0 Hb ∧ SD K Hb σ G ∧ σ[i]? = some (some (.ref p)) ∧ DVs K Hb vs ds
abbrev plusL (G : Gam) (i : Nat) (ds : List PyData) : Gam := G.set i (some (.list ds))
theorem OSt.sd {K : PySem.W.Frag} {H0 : Hp} {p : Addr} {i : Nat} {G : Gam} {ds : List PyData} {σ : St} {H : Hp} (h : OSt K H0 p i G ds σ H) : SD K H σ (plusL G i ds) := by
  obtain ⟨Hb, vs, rfl, hn, _, hσ, hi, dv⟩ := h
  have h1 := hσ.mono (Same.new (o := .lst vs) hn)
  have h2 := h1.set (i := i) (v := .ref p) (d := .list ds) (.lst (SqL.of upd_same) (dv.mono (Same.new hn)))
  have e : σ.set i (some (V.ref p)) = σ := by
    refine List.ext_getElem? fun j => ?_
    by_cases hj : i = j
    · subst hj
      rw [List.getElem?_set_self (List.getElem?_eq_some_iff.mp hi).1, hi]
    · rw [List.getElem?_set_ne hj]
  rw [e] at h2
  exact h2
theorem OSt.step {K : PySem.W.Frag} {H0 : Hp} {p : Addr} {i : Nat} {G : Gam} {ds : List PyData} {σ : St} {H H' : Hp} (h : OSt K H0 p i G ds σ H) (s : Same H H') :
    OSt K H0 p i G ds σ H' ∧ ∀ v d, DV K H' v d → noL d = true → ∃ Hb vs, H' = upd Hb p (.lst vs) ∧ Hb p = none ∧ Same H0 Hb ∧ SD K Hb σ G ∧ σ[i]? = some (some (.ref p)) ∧ DVs K Hb vs ds ∧ DV K Hb v d := by
  obtain ⟨Hb, vs, rfl, hn, s0, hσ, hi, dv⟩ := h
  have hp : H' p = some (.lst vs) := s p _ upd_same
  have sb : Same Hb (dele H' p) := fun b o e => by
    have hb : b ≠ p := ne_of_none e hn
    rw [dele_ne hb]
    exact s b o (by rw [upd_ne hb]; exact e)
  refine ⟨⟨dele H' p, vs, (upd_dele hp).symm, dele_same, s0.trans sb, hσ.mono sb, hi, dv.mono sb⟩, fun v d q f => ⟨dele H' p, vs, (upd_dele hp).symm, dele_same, s0.trans sb, hσ.mono sb, hi, dv.mono sb, DV.dele hp q f⟩⟩
def tH (K : PySem.W.Frag) (H0 : Hp) (p : Addr) (i : Nat) (Pre Post : Gam → List PyData → Prop) : TS := fun D σ H => (∃ G ds, Pre G ds ∧ OSt K H0 p i G ds σ H) ∧ ∀ σ' H' G ds, Post G ds → OSt K H0 p i G ds σ' H' → D.nx σ' H'
abbrev HT1 (X : Cx) (H0 : Hp) (p : Addr) (i : Nat) (Pre : Gam → List PyData → Prop) (st : Stmt) (Post : Gam → List PyData → Prop) : Prop := PS X st (tH X.K H0 p i Pre Post)
abbrev HTs (X : Cx) (H0 : Hp) (p : Addr) (i : Nat) (Pre : Gam → List PyData → Prop) (sts : List Stmt) (Post : Gam → List PyData → Prop) : Prop := PSs X sts (tH X.K H0 p i Pre Post)
section
variable {X : Cx} {H0 : Hp} {p : Addr} {i j : Nat} {Pre Mid Post PreA PreB : Gam → List PyData → Prop} {e c : Expr} {pos pos' pos2 : Pos} {x : Str}
theorem hts_nil (h : ∀ G ds, Pre G ds → Post G ds) : HTs X H0 p i Pre [] Post := pss_nil.imp fun D σ H ⟨⟨G, ds, a, b⟩, q⟩ => q σ H G ds (h G ds a) b
theorem hts_cons {st : Stmt} {sts : List Stmt} (h1 : HT1 X H0 p i Pre st Mid) (h2 : HTs X H0 p i Mid sts Post) : HTs X H0 p i Pre (st :: sts) Post :=
  (pss_cons h1 h2).imp fun D σ H ⟨a, q⟩ => ⟨a, fun σ' H' G ds m o => ⟨⟨G, ds, m, o⟩, q⟩⟩
theorem ht_set (hN : X.N.Nodup) (hi : X.N[j]? = some x) (hij : j ≠ i) (hx : Loc X.env.scope x) (h : ∀ G ds, Pre G ds → ∃ d, EV X (plusL G i ds) e d ∧ noL d = true ∧ Post (G.set j (some d)) ds) (hs : swapsWith e (some (.Name x pos')) pos.line X.env = pure false := by rfl)
    (hf : X.fn x = true ∨ X.env.scope.names.lookup x = some .local := by first | exact .inl rfl | exact .inr rfl | assumption) : HT1 X H0 p i Pre (.Assign [.Name x pos'] e pos) Post := by
  intro pins s σ H D I ⟨⟨G, ds, a, o⟩, q⟩
  obtain ⟨d, ev, nl, po⟩ := h G ds a
  refine ps_set hN hi hx ev hs hf pins s σ H D I ⟨o.sd, fun v H1 s1 d1 => ?_⟩
  obtain ⟨_, k⟩ := o.step s1
  obtain ⟨Hb, vs, e1, e2, e3, e4, e5, e6, e7⟩ := k v d d1 nl
  exact q _ _ _ ds po ⟨Hb, vs, e1, e2, e3, e4.set e7, by rw [List.getElem?_set_ne hij]; exact e5, e6⟩
theorem ht_append (h : ∀ G ds, Pre G ds → ∃ d, EV X (plusL G i ds) e d ∧ noL d = true ∧ ds.length < sizeLine ∧ Post G (ds ++ [d])) (hv : PE X (.Name x pos2) (tVar i))
    (hs0 : starEach [e] X.env = (false, eval e X.env) :: starEach [] X.env := by rfl)
    (hb : attributeBase (.Name x pos2) "append" X.env (eval (.Name x pos2) X.env) = eval (.Name x pos2) X.env := by rfl)
    (hfew : ((backTo pos' (starEach [e] X.env)).all (fun x => !x.1) && (backToKw pos' (keywordEach [] X.env)).all (fun x => x.1.isSome)
      && decide ([e].length + ([] : List Keyword).length + (if ([] : List Keyword).isEmpty then 0 else 1) < 30)) = true := by rfl)
    {apos : Pos} (hline : (apos.endLine == pos'.line) = true := by rfl) (hpl : (backTo pos' (starEach [] X.env)).any (·.1) = false := by rfl)
    (hsw : swapsWith (.Call (.Attribute (.Name x pos2) "append" apos) [e] [] pos') none pos.line X.env = pure false := by rfl) :
    HT1 X H0 p i Pre (.Expr (.Call (.Attribute (.Name x pos2) "append" apos) [e] [] pos') pos) Post := by
  intro pins s σ H D I ⟨⟨G, ds, a, o⟩, q⟩
  obtain ⟨d, ev, nl, hz, po⟩ := h G ds a
  refine ps_expr (pe_bm PySem.F.plainAttrs_list PySem.F.slot_list_append PySem.F.type_list_append mt_append hv (av_cons ev av_nil hs0) hb hfew hline hs0 hpl) hsw pins s σ H D I ?_
  obtain ⟨Hb, vs, rfl, hn, s0, hσ, hi, dv⟩ := id o
  refine ⟨_, hi, .inl ⟨rfl, vs, SqL.of upd_same⟩, o.sd, fun ws H1 s1 d1 => ?_⟩
  obtain ⟨v, rfl, d2⟩ := d1.one
  obtain ⟨_, k⟩ := o.step s1
  obtain ⟨Hb', vs', e1, e2, e3, e4, e5, e6, e7⟩ := k v d d2 nl
  subst e1
  have hup : upd (upd Hb' p (.lst vs')) p (.lst (vs' ++ [v])) = upd Hb' p (.lst (vs' ++ [v])) := upd_upd
  refine ⟨p, vs', v, rfl, rfl, upd_same, by rw [e6.length]; exact hz, ?_⟩
  rw [hup]
  exact q _ _ G _ po ⟨Hb', vs' ++ [v], rfl, e2, e3, e4, e5, e6.append (.cons e7 .nil)⟩
theorem ht_ex {α : Type} {Pr : α → Gam → List PyData → Prop} {st : Stmt} (h : ∀ a, HT1 X H0 p i (Pr a) st Post) : HT1 X H0 p i (fun G ds => ∃ a, Pr a G ds) st Post := fun pins s σ H D I ⟨⟨G, ds, ⟨a, b⟩, o⟩, q⟩ => h a pins s σ H D I ⟨⟨G, ds, b, o⟩, q⟩
theorem pi_r1 {a : Expr} {G : Gam} {tg : Expr} {n : Int} (ha : EV X G a (.int n)) (h1 : -(2 ^ 62) ≤ n) (h2 : n < 2 ^ 62) (hg : Gl X "range") (hm : X.mg "range" = none) (hs : starEach [a] X.env = [(false, eval a X.env)] := by rfl) :
    PI X tg (.Call (.Name "range" pos') [a] [] pos) (fun σ H R => SD X.K H σ G ∧ ∀ H', Same H H' → R (Itr 0 n.toNat) H') :=
  (pi_range1 hg hm (av_cons ha av_nil hs) hs).imp fun σ H R ⟨h, q⟩ => ⟨h, fun vs H1 s1 d1 => by
    obtain ⟨v, rfl, dv⟩ := d1.one
    exact ⟨n, by rw [dv.of_int], h1, h2, q H1 s1⟩⟩
theorem pi_r2 {a b : Expr} {G : Gam} {tg : Expr} {m n : Int} (ha : EV X G a (.int m)) (hb : EV X G b (.int n)) (h0 : -(2 ^ 62) ≤ m ∧ m < 2 ^ 62 ∧ -(2 ^ 62) ≤ n ∧ n < 2 ^ 62) (hg : Gl X "range") (hm : X.mg "range" = none)
    (hs : starEach [a, b] X.env = [(false, eval a X.env), (false, eval b X.env)] := by rfl) (hs2 : starEach [b] X.env = [(false, eval b X.env)] := by rfl) :
    PI X tg (.Call (.Name "range" pos') [a, b] [] pos) (fun σ H R => SD X.K H σ G ∧ ∀ H', Same H H' → R (Itr m (n - m).toNat) H') :=
  (pi_range2 hg hm (av_cons ha (av_cons hb av_nil hs2) (by rw [hs, hs2])) hs hs2).imp fun σ H R ⟨h, q⟩ => ⟨h, fun vs H1 s1 d1 => by
    obtain ⟨v, w, rfl, dv, dw⟩ := d1.two
    exact ⟨m, n, by rw [dv.of_int, dw.of_int], h0, q H1 s1⟩⟩
theorem ht_if {A B : List Stmt} (h : ∀ G ds, Pre G ds → (TV X (plusL G i ds) c true ∧ PreA G ds) ∨ (TV X (plusL G i ds) c false ∧ PreB G ds)) (h1 : HTs X H0 p i PreA A Post) (h2 : HTs X H0 p i PreB B Post) : HT1 X H0 p i Pre (.If c A B pos) Post := by
  intro pins s σ H D I ⟨⟨G, ds, a, o⟩, q⟩
  rcases h G ds a with ⟨tv, pa⟩ | ⟨tv, pb⟩
  · exact ps_if tv h1 h2 pins s σ H D I ⟨o.sd, fun H1 s1 => iteT ⟨⟨G, ds, pa, (o.step s1).1⟩, q⟩⟩
  · exact ps_if tv h1 h2 pins s σ H D I ⟨o.sd, fun H1 s1 => iteF ⟨⟨G, ds, pb, (o.step s1).1⟩, q⟩⟩
theorem ht_forR {tg iter : Expr} {body : List Stmt} {lo : Int} {n : Nat} (W : Nat → Gam → List PyData → Prop) (hp : PassesOwn (model X.prog X.w) X.A X.env X.xe) (hcalm : X.calm = true) (hij : j ≠ i) (hg : PG X tg (gName j))
    (hpre : ∀ G ds, Pre G ds → W 0 G ds ∧ PI X tg iter (fun σ H R => SD X.K H σ (plusL G i ds) ∧ ∀ H', Same H H' → R (Itr lo n) H'))
    (hs : ∀ k, k < n → HTs X H0 p i (fun G ds => ∃ G', W k G' ds ∧ G = G'.set j (some (.int (lo + (k : Nat))))) body (W (k + 1))) (hpost : ∀ G ds, W n G ds → Post G ds)
    (hfs : ∀ x, foldedSetIterable iter X.env x = pure x := by intro _; rfl) : HT1 X H0 p i Pre (.For tg iter body [] pos) Post := by
  intro pins s σ H D I ⟨⟨G, ds, a, o⟩, q⟩
  obtain ⟨w0, hi⟩ := hpre G ds a
  have hbody : PSs X body (fun D σ H => ∃ k : Nat, k < n ∧ tH X.K H0 p i (fun G ds => ∃ G', W k G' ds ∧ G = G'.set j (some (.int (lo + (k : Nat))))) (W (k + 1)) D σ H) := fun pins s σ H D I ⟨k, hk, q⟩ => hs k hk pins s σ H D I q
  refine ps_for hp hcalm hi hg hbody hfs pins s σ H D I ⟨o.sd, fun H1 s1 => ?_⟩
  refine for_range (lo := lo) (n := n) (g := gName j) (tb := fun D σ H => ∃ k : Nat, k < n ∧ tH X.K H0 p i (fun G ds => ∃ G', W k G' ds ∧ G = G'.set j (some (.int (lo + (k : Nat))))) (W (k + 1)) D σ H) (fun k σ H => k ≤ n ∧ ∃ G ds, W k G ds ∧ OSt X.K H0 p i G ds σ H) ⟨Nat.zero_le _, G, ds, w0, (o.step s1).1⟩ (fun k σ2 H2 hk ⟨_, G2, ds2, w2, o2⟩ => ?_) (fun σ2 H2 ⟨_, G2, ds2, w2, o2⟩ => q σ2 H2 G2 ds2 (hpost _ _ w2) o2)
  obtain ⟨Hb, vs, rfl, hn, s0, hσ, hi2, dv⟩ := id o2
  refine ⟨k, hk, ⟨_, ds2, ⟨G2, w2, rfl⟩, Hb, vs, rfl, hn, s0, hσ.set (.int _), by rw [List.getElem?_set_ne hij]; exact hi2, dv⟩, fun σ3 H3 G3 ds3 w3 o3 => ⟨hk, G3, ds3, w3, o3⟩⟩
theorem ht_forL {tg : Expr} {y : Str} {body : List Stmt} {m : Nat} {xs : List PyData} (W : Nat → Gam → List PyData → Prop) (hp : PassesOwn (model X.prog X.w) X.A X.env X.xe) (hcalm : X.calm = true) (hij : j ≠ i) (hg : PG X tg (gName j)) (hv : PE X (.Name y pos') (tVar m))
    (hpre : ∀ G ds, Pre G ds → W 0 G ds ∧ G[m]? = some (some (.list xs)))
    (hs : ∀ (H1 : Hp) (k : Nat) d, xs[k]? = some d → HTs X H1 p i (fun G ds => ∃ G', W k G' ds ∧ G = G'.set j (some d)) body (W (k + 1))) (hpost : ∀ G ds, W xs.length G ds → Post G ds)
    (hfs : ∀ x, foldedSetIterable (.Name y pos') X.env x = pure x := by intro _; rfl) : HT1 X H0 p i Pre (.For tg (.Name y pos') body [] pos) Post := by
  intro pins s σ H D I ⟨⟨G, ds, a, o⟩, q⟩
  obtain ⟨w0, hm⟩ := hpre G ds a
  obtain ⟨Hb, vs, rfl, hn, s0, hσ, hi, dv⟩ := id o
  obtain ⟨v, e1, dl⟩ := hσ.2 m _ hm
  obtain ⟨l, us, rfl, hl, dus⟩ := dl.of_lst
  have hbody : PSs X body (fun D σ H => ∃ kd : Nat × PyData, xs[kd.1]? = some kd.2 ∧ tH X.K Hb p i (fun G ds => ∃ G', W kd.1 G' ds ∧ G = G'.set j (some kd.2)) (W (kd.1 + 1)) D σ H) := fun pins s σ H D I ⟨k, hk, q⟩ => hs Hb k.1 k.2 hk pins s σ H D I q
  have keyN : ∀ {G2 : Gam} {ds2 : List PyData} {σ2 : St} {H2 : Hp}, OSt X.K Hb p i G2 ds2 σ2 H2 → SqL X.K H2 l us := fun ⟨Hc, ws, e, nc, sc, _⟩ => by
    subst e
    exact (Same.new nc).seq (sc.seq hl)
  refine ps_for hp hcalm (pi_list hv) hg hbody hfs pins s σ _ D I ⟨_, e1, l, rfl, ⟨us, (Same.new hn).seq hl⟩, ?_⟩
  refine for_list (K := X.K) (a := l) (xs := us) (g := gName j) (tb := fun D σ H => ∃ kd : Nat × PyData, xs[kd.1]? = some kd.2 ∧ tH X.K Hb p i (fun G ds => ∃ G', W kd.1 G' ds ∧ G = G'.set j (some kd.2)) (W (kd.1 + 1)) D σ H)
    (fun k σ H => ∃ G ds, W k G ds ∧ OSt X.K Hb p i G ds σ H) ⟨G, ds, w0, Hb, vs, rfl, hn, Same.refl _, hσ, hi, dv⟩ (fun k σ2 H2 _ ⟨_, _, _, o2⟩ => keyN o2) (fun k z σ2 H2 hk ⟨G2, ds2, w2, o2⟩ => ?_)
    (fun σ2 H2 ⟨G2, ds2, w2, Hc, ws, e, nc, sc, r⟩ => q σ2 H2 G2 ds2 (hpost _ _ (by rw [← dus.length]; exact w2)) ⟨Hc, ws, e, nc, s0.trans sc, r⟩)
  obtain ⟨d, ed, dz⟩ := dus.get' hk
  obtain ⟨Hc, ws, e, nc, sc, hσ2, hi2, dv2⟩ := o2
  exact ⟨(k, d), ed, ⟨_, ds2, ⟨G2, w2, rfl⟩, Hc, ws, e, nc, sc, hσ2.set (dz.mono sc), by rw [List.getElem?_set_ne hij]; exact hi2, dv2⟩, fun σ3 H3 G3 ds3 w3 o3 => ⟨G3, ds3, w3, o3⟩⟩
def tR (K : PySem.W.Frag) (G : Gam) (R : PyData → Prop) : TS := fun D σ H => SD K H σ G ∧ ∀ d v H', R d → Same H H' → DV K H' v d → D.rt v H'
abbrev RVs (X : Cx) (G : Gam) (sts : List Stmt) (R : PyData → Prop) : Prop := PSs X sts (tR X.K G R)
def tHR (K : PySem.W.Frag) (H0 : Hp) (p : Addr) (i : Nat) (Pre : Gam → List PyData → Prop) (R : PyData → Prop) : TS := fun D σ H => (∃ G ds, Pre G ds ∧ OSt K H0 p i G ds σ H) ∧ ∀ d v H', R d → Same H0 H' → DV K H' v d → D.rt v H'
abbrev HRs (X : Cx) (H0 : Hp) (p : Addr) (i : Nat) (Pre : Gam → List PyData → Prop) (sts : List Stmt) (R : PyData → Prop) : Prop := PSs X sts (tHR X.K H0 p i Pre R)
variable {R : PyData → Prop} {G : Gam} {d : PyData}
theorem hrs_cons {st : Stmt} {sts : List Stmt} (h1 : HT1 X H0 p i Pre st Mid) (h2 : HRs X H0 p i Mid sts R) : HRs X H0 p i Pre (st :: sts) R :=
  (pss_cons h1 h2).imp fun D σ H ⟨a, q⟩ => ⟨a, fun σ' H' G ds m o => ⟨⟨G, ds, m, o⟩, q⟩⟩
theorem hrs_ret {sts : List Stmt} (hv : PE X (.Name x pos2) (tVar i)) (h : ∀ G ds, Pre G ds → R (.list ds)) : HRs X H0 p i Pre (.Return (some (.Name x pos2)) pos :: sts) R :=
  (pss_cons (ps_ret hv) (pss_never (sts := sts))).imp fun D σ H ⟨⟨G, ds, a, Hb, vs, e, n, s0, hσ, hi, dv⟩, q⟩ => by
    subst e
    exact ⟨_, hi, q _ _ _ (h G ds a) (s0.trans (Same.new n)) (.lst (SqL.of upd_same) (dv.mono (Same.new n)))⟩
theorem rvs_own {sts : List Stmt} (hN : X.N.Nodup) (hi : X.N[i]? = some x) (hx : Loc X.env.scope x) (hG : i < G.length) (h : ∀ H0 p, HRs X H0 p i (fun G' ds => G' = G.set i none ∧ ds = []) sts R)
    (hs : swapsWith (.List [] pos2) (some (.Name x pos')) pos.line X.env = pure false := by rfl) (hf : X.fn x = true ∨ X.env.scope.names.lookup x = some .local := by first | exact .inl rfl | exact .inr rfl | assumption) :
    RVs X G (.Assign [.Name x pos'] (.List [] pos2) pos :: sts) R := by
  intro pins s σ H D I ⟨hσ, q⟩
  have h2 : PSs X sts (fun D σ H => ∃ hp : Hp × Addr, tHR X.K hp.1 hp.2 i (fun G' ds => G' = G.set i none ∧ ds = []) R D σ H) := fun pins s σ H D I ⟨hp, q⟩ => h hp.1 hp.2 pins s σ H D I q
  refine pss_cons (ps_set hN hi hx (pe_lst pa_nil) hs hf) h2 pins s σ H D I ⟨Nat.zero_le _, fun p hp => ⟨(H, p), ⟨_, [], ⟨rfl, rfl⟩, H, [], rfl, hp, Same.refl _, ⟨by rw [List.length_set, List.length_set, hσ.1], fun j d e => ?_⟩, List.getElem?_set_self (by rw [hσ.1]; exact hG), .nil⟩, fun d v H' r s' dv => q d v H' r s' dv⟩⟩
  by_cases hj : i = j
  · subst hj
    rw [List.getElem?_set_self hG] at e
    cases e
  · rw [List.getElem?_set_ne hj] at e ⊢
    exact hσ.2 j d e
theorem rvs_cons {st : Stmt} {sts : List Stmt} {G1 : Gam} (h1 : SV X G st (.next G1)) (h2 : RVs X G1 sts R) : RVs X G (st :: sts) R :=
  (pss_cons h1 h2).imp fun D σ H ⟨h, q⟩ => ⟨h, fun σ' H' s' h' => ⟨h', fun d v H2 r s2 dv => q d v H2 r (s'.trans s2) dv⟩⟩
def spR (K : PySem.W.Frag) (F : List PyData → PyData → Prop) (pre : List PyData → Prop) : Sp := fun vs H Q _ => ∃ ds, DVs K H vs ds ∧ pre ds ∧ ∀ d v H', F ds d → Same H H' → DV K H' v d → Q v H'
def RFn (P : Program) (w : World) (K : PySem.W.Frag) (mg : Str → Option Value) (base : Heap) (k : Nat) (x : Str) (F : List PyData → PyData → Prop) (pre : List PyData → Prop) : Prop :=
  ∃ f fd ps, FnOk P w K mg base CX0 k f fd ps (spR K F pre) ∧ mg x = some (.ref f) ∧ PySem.W.keepIn K (.ref f) = true ∧ Binds K fd ps []
def tDR (K : PySem.W.Frag) (G : Gam) (R : PyData → Prop) : TE := fun σ H Q => SD K H σ G ∧ ∀ d v H', R d → Same H H' → DV K H' v d → Q v H'
abbrev EVR (X : Cx) (G : Gam) (e : Expr) (R : PyData → Prop) : Prop := PE X e (tDR X.K G R)
theorem evr_call {k : Nat} {F : List PyData → PyData → Prop} {pre : List PyData → Prop} {es : List Expr} {ds : List PyData} (D : RFn X.prog X.w X.K X.mg X.base k x F pre) (hr : Room k X.A) (hg : Gl X x) (ha : AV X G (e :: es) ds) (hF : pre ds) (hdb : (x == ("__debug__" : Str)) = false := by decide)
    (he : starEach (e :: es) X.env = (false, eval e X.env) :: starEach es X.env := by rfl) (hpl : (backTo pos (starEach es X.env)).any (·.1) = false := by rfl) : EVR X G (.Call (.Name x pos2) (e :: es) [] pos) (F ds) := by
  obtain ⟨f, fd, ps, ok, hm, hk, hb⟩ := D
  refine (pe_call ok hr hg hm hk hb .nil pass0 ha hdb he hpl).imp fun σ H Q ⟨h, q⟩ => ⟨h, fun vs H1 s1 d1 => ?_⟩
  show spR X.K F pre (vs ++ []) H1 Q E0
  rw [List.append_nil]
  exact ⟨ds, d1, hF, fun d v H2 r s2 d2 => q d v H2 r (s1.trans s2) d2⟩
theorem svs_setR {sts : List Stmt} {o : Out} (hN : X.N.Nodup) (hi : X.N[i]? = some x) (hx : Loc X.env.scope x) (h : EVR X G e R) (h2 : ∀ d, R d → SVs X (G.set i (some d)) sts o) (hs : swapsWith e (some (.Name x pos')) pos.line X.env = pure false := by rfl)
    (hf : X.fn x = true ∨ X.env.scope.names.lookup x = some .local := by first | exact .inl rfl | exact .inr rfl | assumption) : SVs X G (.Assign [.Name x pos'] e pos :: sts) o := by
  have hr : PSs X sts (fun D σ H => ∃ d, R d ∧ tDS X.K (G.set i (some d)) o D σ H) := fun pins s σ H D I ⟨d, r, q⟩ => h2 d r pins s σ H D I q
  refine (pss_cons (ps_set hN hi hx h hs hf) hr).imp fun D σ H ⟨h, q⟩ => ⟨h, fun d v H1 r s1 d1 => ⟨d, r, (h.mono s1).set d1, ?_⟩⟩
  cases o with
  | next G2 => exact fun σ2 H2 s2 h2 => q σ2 H2 (s1.trans s2) h2
  | ret d => exact fun v H2 s2 h2 => q v H2 (s1.trans s2) h2
end
section
variable {P : Program} {w : World} {K : PySem.W.Frag} {mg : Str → Option Value} {base : Heap}
theorem Fun.dataR {x qual : Str} {st : Stmt} {f : Addr} {fd : FuncData} {N ps : List Str} {k : Nat} {F : List PyData → PyData → Prop} {pre : List PyData → Prop} (F0 : Fun K x qual st f fd) (hm : mg x = some (.ref f)) (hb : Binds K fd ps []) (S : FnScope N ps (defScope st)) (len : ∀ ds, pre ds → ds.length = ps.length)
    (hbody : ∀ (cdv : Value) (A : Around) (outer : List Env) (s : Shared) (H : Hp) (E : XK) (ds : List PyData), Room k (A.deeper (envOfC qual (defScope st) s.heap.objs.size f cdv)) → pre ds →
      RVs (cxOf CX0 P w K mg base N qual (defScope st) f cdv A outer s H E).nox (startG N ds) (defBody st) (F ds)) : RFn P w K mg base (k + 1) x F pre := by
  refine ⟨f, fd, ps, F0.ok S (fun vs H Q E ⟨ds, h1, h2, _⟩ => h1.length.trans (len ds h2)) (fun cdv A outer s H vs Q E hr ⟨ds, h1, h2, q⟩ => ⟨_, hbody cdv A outer s H E ds hr h2, SD.start h1, q⟩), hm, F0.kp, hb⟩
end
end L2
set_option maxRecDepth 100000
set_option maxHeartbeats 4000000
namespace L2
open PySem PySem.Spec PyProof.Rows
section
variable {X : Cx} {G : Gam} {a b c e : Expr} {es rest : List Expr} {pos p p2 p3 : Pos} {d d' da db dc : PyData} {ds : List PyData} {x : Str}
theorem ev_eq (h : EV X G e d) (q : d = d') : EV X G e d' := q ▸ h
theorem tv_eq {k k' : Bool} (h : TV X G e k) (q : k = k') : TV X G e k' := q ▸ h
end
mutual
theorem eqv_self : ∀ (d : PyData), d.canLay0 = true → PyData.eqv d d = true
  | .none, _ => rfl
  | .bool b, _ => by simp [PyData.eqv]
  | .int i, _ => by simp [PyData.eqv]
  | .str x, _ => by simp [PyData.eqv]
  | .list xs, h => by unfold PyData.eqv; exact eqvAll_self xs (by simpa [PyData.canLay0] using h)
  | .tuple xs, h => by unfold PyData.eqv; exact eqvAll_self xs (by simpa [PyData.canLay0] using h)
  | .dict _, h => by simp [PyData.canLay0] at h
theorem eqvAll_self : ∀ (ds : List PyData), PyData.canLayAll0 ds = true → PyData.eqvAll ds ds = true
  | [], _ => rfl
  | d :: r, h => by
    have h' : d.canLay0 = true ∧ PyData.canLayAll0 r = true := by simpa [PyData.canLayAll0] using h
    unfold PyData.eqvAll
    rw [eqv_self d h'.1, eqvAll_self r h'.2]
    rfl
end
theorem canLayAll_map {α : Type} {f : α → PyData} : ∀ (l : List α), (∀ a ∈ l, (f a).canLay0 = true) → PyData.canLayAll0 (l.map f) = true
  | [], _ => rfl
  | a :: r, h => by
    rw [List.map_cons]
    unfold PyData.canLayAll0
    rw [h a List.mem_cons_self, canLayAll_map r fun b hb => h b (List.mem_cons_of_mem _ hb)]
    rfl
theorem depthAll_map {α : Type} {f : α → PyData} {n : Nat} : ∀ (l : List α), (∀ a ∈ l, (f a).depth ≤ n) → PyData.depthAll (l.map f) ≤ n
  | [], _ => Nat.zero_le _
  | a :: r, h => by
    rw [List.map_cons]
    unfold PyData.depthAll
    exact Nat.max_le.mpr ⟨h a List.mem_cons_self, depthAll_map r fun b hb => h b (List.mem_cons_of_mem _ hb)⟩
theorem filter_true {α : Type} (l : List α) : l.filter (fun _ => true) = l := List.filter_eq_self.mpr fun _ _ => rfl
theorem atI_of {xs : List PyData} {i : Int} {d : PyData} (h0 : 0 ≤ i) (h : xs[i.toNat]? = some d) : atI xs i = some d := by
  have := atI_nat h
  rwa [Int.toNat_of_nonneg h0] at this
section
variable {X : Cx} {G : Gam} {a b c e : Expr} {es : List Expr} {pos p : Pos} {d da db dc : PyData} {ds : List PyData} {x : Str}
theorem ev_callB2 (id : String) (ha : AV X G (e :: es) ds) (hc : CD X (.builtin id) ds d) (hg : Gl X x) (hm : X.mg x = none) (hv : bootBuiltins x = some (.builtin id)) (hn : x ≠ "__name__" := by decide) (hdb : (x == ("__debug__" : Str)) = false := by decide)
    (he : starEach (e :: es) X.env = (false, eval e X.env) :: starEach es X.env := by rfl) (hpl : (backTo pos (starEach es X.env)).any (·.1) = false := by rfl) : EV X G (.Call (.Name x p) (e :: es) [] pos) d := ev_callB hc hg hm hv ha hn hdb he hpl
theorem ev_callTy2 (T : String) (ha : AV X G (e :: es) ds) (hc : CD X (.type T) ds d) (hg : Gl X x) (hm : X.mg x = none) (hv : bootBuiltins x = some (.type T)) (hn : x ≠ "__name__" := by decide) (hdb : (x == ("__debug__" : Str)) = false := by decide)
    (he : starEach (e :: es) X.env = (false, eval e X.env) :: starEach es X.env := by rfl) (hpl : (backTo pos (starEach es X.env)).any (·.1) = false := by rfl) : EV X G (.Call (.Name x p) (e :: es) [] pos) d := ev_callTy hc hg hm hv ha hn hdb he hpl
theorem ev_chain2 {op op' : CmpOp} {k k' : Bool} (ha : EV X G a da) (hb : EV X G b db) (ho : OD X (compareOp op) da db (.bool k)) (hc : EV X G c dc) (ho' : OD X (compareOp op') db dc (.bool k'))
    (hm : lastMarks [op, op'] [b, c] = false := by with_unfolding_all rfl) : EV X G (.Compare a [op, op'] [b, c] pos) (.bool (k && k')) := ev_chain ho (fun _ => ho') ha hb (fun _ => hc) hm
end
theorem at_ints {zs : List Int} {i : Int} (h0 : 0 ≤ i) (h : i < zs.length) : atI (zs.map PyData.int) i = some (.int (zs.getD i.toNat 0)) := by
  have hi : i.toNat < zs.length := by omega
  exact atI_of h0 (by simp [hi])
structure FnIn (K : PySem.W.Frag) (x : Str) (st : Stmt) (f : Addr) (fd : FuncData) : Prop where
  ns : PySem.W.nsIn K mainGlobals x = some (some (.ref f))
  fn : Fun K x x st f fd
theorem fnIn_mk {K : PySem.W.Frag} {x : Str} {st : Stmt} {f : Addr} {oc : Value} {od an : Option Addr} {osl : Array (Option Value)} {kV doc pm cdv ct : Value} (a : PySem.W.nsIn K mainGlobals x = some (some (.ref f)))
    (l : K.lookup f = some ⟨oc, od, .func (PySem.W.fnOf x x (defArgs st) (defBody st) (defScope st) .none kV doc pm an cdv ct), osl⟩) (c : PySem.W.codeIn K cdv x = true) (k : PySem.W.keepIn K (.ref f) = true) : ∃ f fd, FnIn K x st f fd :=
  ⟨f, _, a, fun_mk l c k⟩
section
variable {P : Program} {w : World} {K : PySem.W.Frag} {mg : Str → Option Value} {base : Heap}
theorem Fun.dataOk {x qual : Str} {st : Stmt} {f : Addr} {fd : FuncData} {N ps : List Str} {k : Nat} {F : List PyData → PyData → Prop} (F0 : Fun K x qual st f fd) (S : FnScope N ps (defScope st)) (len : ∀ ds d, F ds d → ds.length = ps.length)
    (hbody : ∀ (cdv : Value) (A : Around) (outer : List Env) (s : Shared) (H : Hp) (E : XK) (ds : List PyData) (d : PyData), Room k (A.deeper (envOfC qual (defScope st) s.heap.objs.size f cdv)) → F ds d →
      SVs (cxOf CX0 P w K mg base N qual (defScope st) f cdv A outer s H E).nox (startG N ds) (defBody st) (.ret d)) : FnOk P w K mg base CX0 (k + 1) f fd ps (spD K F) :=
  F0.ok S (fun vs H Q E ⟨ds, d, h1, h2, _⟩ => h1.length.trans (len ds d h2)) (fun cdv A outer s H vs Q E hr ⟨ds, d, h1, h2, q⟩ => ⟨_, hbody cdv A outer s H E ds d hr h2, SD.start h1, q⟩)
end
def F_law (ds : List PyData) (d : PyData) : Prop := ∃ ns : List Int, ds = [.list (ns.map PyData.int)] ∧ ns.length ≤ 63 ∧ d = .bool true
theorem walk_D {l : PySem.W.OpenLaw} {q : Program} {loose : List Str} {XP : (Str → Option Value) → Heap → Prop} {YP : World → Heap → Prop} {d : DefRec} {K : Params → PySem.W.Frag} (hn : l.most = some 63) (hdf : d.params.defaults = [])
    (hY : ∀ (w : World) (h : Heap), YP w h → (K w.params).In h)
    (F : ∀ (w : World) (mg : Str → Option Value) (fa : Addr) (h : Heap), (K w.params).In h → h.Ns mainGlobals mg → mg d.name = some (.ref fa) →
      ∃ fd : FuncData, (∀ (s : Shared) (u : Value), BindsTo s fd ⟨[u], []⟩ [("script", u)]) ∧ ∀ base : Heap, (K w.params).In base → base.Ns mainGlobals mg → FnOk l.prog w (K w.params) mg base CX0 20 fa fd ["script"] (spD (K w.params) F_law)) :
    PySem.W.WalkO q loose XP YP l.row.toRowW d [] (fun f vs => PySem.call f vs) :=
  L2.walk_of (n := 63) (k := 20) (x := "script") (CX := fun _ => CX0) (sp := fun w => spD (K w.params) F_law) hn (by decide) hdf ⟨rfl, by decide, by decide⟩ hY F
    (fun _ _ a ns hl _ hS => ⟨_, _, .cons (.lst hS (DVs.ints ns)) .nil, ⟨ns, rfl, hl, rfl⟩, fun v H' _ dv => dv.of_bl⟩) fun _ _ _ _ _ z => z
end L2
set_option maxRecDepth 100000
set_option maxHeartbeats 4000000
namespace L2
open PySem PySem.Spec PyProof.Rows
open Builtin.SmallTypes (nextOf)
section
variable {prog : Program} {w : World} {A : Around} {E : Value → Shared → Prop} {s : Shared}
structure ZAp (z a b i j t : Addr) : Prop where
  az : a ≠ z
  bz : b ≠ z
  iz : i ≠ z
  jz : j ≠ z
  ab : a ≠ b
  ai : a ≠ i
  aj : a ≠ j
  bi : b ≠ i
  bj : b ≠ j
  ij : i ≠ j
  tz : t ≠ z
  tb : t ≠ b
  ti : t ≠ i
  tj : t ≠ j
end
end L2
set_option maxRecDepth 100000
set_option maxHeartbeats 4000000
namespace L2
open PySem PySem.Spec PyProof.Rows
structure ZAp0 (z a b i j : Addr) : Prop where
  az : a ≠ z
  bz : b ≠ z
  iz : i ≠ z
  jz : j ≠ z
  ab : a ≠ b
  ai : a ≠ i
  aj : a ≠ j
  bi : b ≠ i
  bj : b ≠ j
  ij : i ≠ j
end L2
set_option maxRecDepth 100000
set_option maxHeartbeats 4000000
namespace L2
open PySem PySem.Spec PyProof.Rows
section
variable {X : Cx} {G : Gam} {a b : Expr} {pos p : Pos}
end
end L2
namespace PySem.SeqAt
open AutoSeq1 (wpAny_loadPart')
open MeetsSeq MeetsSeq2 MeetsSeq3 SeqRoads2
end PySem.SeqAt
set_option maxRecDepth 100000
set_option maxHeartbeats 4000000
namespace L2
open PySem PySem.Spec PyProof.Rows
theorem DVs.strs {K : PySem.W.Frag} {H : Hp} : ∀ (ss : List Str), DVs K H (ss.map V.str) (ss.map PyData.str)
  | [] => .nil
  | x :: r => .cons (.str x) (DVs.strs r)
section
variable {X : Cx} {G : Gam} {a b e : Expr} {pos p p2 : Pos} {d : PyData} {x : Str}
end
end L2
set_option maxRecDepth 100000
set_option maxHeartbeats 4000000
namespace L2
open PySem PySem.Spec PyProof.Rows
def spFL (K : PySem.W.Frag) (F : List PyData → List PyData → Prop) : Sp := fun vs H Q _ => ∃ ds ws, DVs K H vs ds ∧ F ds ws ∧ ∀ p us H', H p = none → Same H H' → H' p = some (.lst us) → DVs K H' us ws → Q (.ref p) H'
def FFn (P : Program) (w : World) (K : PySem.W.Frag) (mg : Str → Option Value) (base : Heap) (k : Nat) (x : Str) (F : List PyData → List PyData → Prop) : Prop :=
  ∃ f fd ps, FnOk P w K mg base CX0 k f fd ps (spFL K F) ∧ mg x = some (.ref f) ∧ PySem.W.keepIn K (.ref f) = true ∧ Binds K fd ps []
theorem FFn.data {P : Program} {w : World} {K : PySem.W.Frag} {mg : Str → Option Value} {base : Heap} {k : Nat} {x : Str} {F : List PyData → List PyData → Prop} (h : FFn P w K mg base k x F) : DFn P w K mg base k x (fun ds d => ∃ ws, F ds ws ∧ d = .list ws) := by
  obtain ⟨f, fd, ps, ok, r⟩ := h
  exact ⟨f, fd, ps, ok.imp fun vs H Q E ⟨ds, d, h1, ⟨ws, h2, e⟩, q⟩ => ⟨ds, ws, h1, h2, fun p us H' hp s' hl dv => q _ H' s' (by rw [e]; exact .lst (SqL.of hl) dv)⟩, r⟩
section
variable {X : Cx} {G : Gam} {c e : Expr} {es : List Expr} {pos pos' pos2 : Pos} {ws : List PyData} {sts A B : List Stmt}
end
section
variable {P : Program} {w : World} {K : PySem.W.Frag} {mg : Str → Option Value} {base : Heap}
end
section
variable {X : Cx} {G G2 : Gam} {e : Expr} {es : List Expr} {pos pos' pos2 : Pos} {ws ds : List PyData} {sts : List Stmt} {i : Nat} {x y : Str}
def tDF (K : PySem.W.Frag) (G : Gam) (ws : List PyData) : TE := fun σ H Q => SD K H σ G ∧ ∀ p us H', H p = none → Same H H' → H' p = some (.lst us) → DVs K H' us ws → Q (.ref p) H'
abbrev EVF (X : Cx) (G : Gam) (e : Expr) (ws : List PyData) : Prop := PE X e (tDF X.K G ws)
end
section
variable {X : Cx} {G : Gam} {a : Expr} {pos : Pos} {da : PyData}
end
end L2
set_option maxRecDepth 100000
set_option maxHeartbeats 4000000
namespace L2
open PySem PySem.Spec PyProof.Rows
end L2
set_option maxRecDepth 100000
set_option maxHeartbeats 4000000
namespace L2
open PySem PySem.Spec PyProof.Rows
def TabV (K : PySem.W.Frag) (H : Hp) : List (Key × V) → List (Str × PyData) → Prop
  | [], [] => True
  | kv :: r, q :: t => kv.1 = .inr q.1 ∧ DV K H kv.2 q.2 ∧ TabV K H r t
  | _, _ => False
mutual
def noK : PyData → Bool
  | .none => true
  | .bool _ => true
  | .int _ => true
  | .str _ => true
  | .tuple xs => noKs xs
  | .list xs => noKs xs
  | .dict _ => false
def noKs : List PyData → Bool
  | [] => true
  | x :: r => noK x && noKs r
end
theorem dict_ne {H : Hp} {p a : Addr} {kvs : List (Key × V)} {o : HO} (hp : H p = some (.dK kvs)) (e : H a = some o) (n : ∀ k, o ≠ .dK k) : a ≠ p := fun c => by subst c; rw [hp] at e; cases e; exact n _ rfl
mutual
theorem DV.noDict {K : PySem.W.Frag} {H H' : Hp} {p : Addr} {kvs : List (Key × V)} (hp : H p = some (.dK kvs)) (hH : ∀ a, a ≠ p → H' a = H a) : ∀ {v : V} {d : PyData}, DV K H v d → noK d = true → DV K H' v d
  | _, _, .non, _ => .non
  | _, _, .bl b, _ => .bl b
  | _, _, .int i, _ => .int i
  | _, _, .str x, _ => .str x
  | _, _, .tup (a := a) h t, f => by
    refine .tup ?_ (DVs.noDict hp hH t (by unfold noK at f; exact f))
    rcases h with (h | ⟨o, h⟩) | h
    · exact .inl (.inl (by rw [hH a (dict_ne hp h fun _ c => by cases c)]; exact h))
    · exact .inl (.inr ⟨o, by rw [hH a (dict_ne hp h fun _ c => by cases c)]; exact h⟩)
    · exact .inr h
  | _, _, .lst (a := a) h t, f => by
    refine .lst ?_ (DVs.noDict hp hH t (by unfold noK at f; exact f))
    rcases h with (h | ⟨o, h⟩) | h
    · exact .inl (.inl (by rw [hH a (dict_ne hp h fun _ c => by cases c)]; exact h))
    · exact .inl (.inr ⟨o, by rw [hH a (dict_ne hp h fun _ c => by cases c)]; exact h⟩)
    · exact .inr h
  | _, _, .dct h t, f => by unfold noK at f; cases f
  | _, _, .exc h, f => by unfold noK at f; cases f
  | _, _, .exr h h', f => by unfold noK at f; cases f
  | _, _, .obj h t, f => by unfold noK at f; cases f
theorem DVs.noDict {K : PySem.W.Frag} {H H' : Hp} {p : Addr} {kvs : List (Key × V)} (hp : H p = some (.dK kvs)) (hH : ∀ a, a ≠ p → H' a = H a) : ∀ {v : List V} {d : List PyData}, DVs K H v d → noKs d = true → DVs K H' v d
  | _, _, .nil, _ => .nil
  | _, _, .cons h t, f => by
    unfold noKs at f
    rw [Bool.and_eq_true] at f
    exact .cons (DV.noDict hp hH h f.1) (DVs.noDict hp hH t f.2)
end
theorem TabV.noDict {K : PySem.W.Frag} {H H' : Hp} {p : Addr} {kvs : List (Key × V)} (hp : H p = some (.dK kvs)) (hH : ∀ a, a ≠ p → H' a = H a) : ∀ {r : List (Key × V)} {t : List (Str × PyData)}, TabV K H r t → (t.all fun q => noK q.2) = true → TabV K H' r t
  | [], [], _, _ => True.intro
  | _ :: _, q :: t, ⟨a, b, c⟩, f => by
    rw [List.all_cons, Bool.and_eq_true] at f
    exact ⟨a, b.noDict hp hH f.1, TabV.noDict hp hH c f.2⟩
  | [], _ :: _, h, _ => h
  | _ :: _, [], h, _ => h
theorem TabV.mono {K : PySem.W.Frag} {H H' : Hp} (e : Same H H') : ∀ {r : List (Key × V)} {t : List (Str × PyData)}, TabV K H r t → TabV K H' r t
  | [], [], _ => True.intro
  | _ :: _, _ :: _, ⟨a, b, c⟩ => ⟨a, b.mono e, TabV.mono e c⟩
  | [], _ :: _, h => h
  | _ :: _, [], h => h
theorem TabV.length {K : PySem.W.Frag} {H : Hp} : ∀ {r : List (Key × V)} {t : List (Str × PyData)}, TabV K H r t → r.length = t.length
  | [], [], _ => rfl
  | _ :: _, _ :: _, ⟨_, _, c⟩ => by rw [List.length_cons, List.length_cons, TabV.length c]
  | [], _ :: _, h => h.elim
  | _ :: _, [], h => h.elim
theorem TabV.keys {K : PySem.W.Frag} {H : Hp} : ∀ {r : List (Key × V)} {t : List (Str × PyData)}, TabV K H r t → r.map (·.1) = t.map fun q => .inr q.1
  | [], [], _ => rfl
  | _ :: _, _ :: _, ⟨a, _, c⟩ => by rw [List.map_cons, List.map_cons, TabV.keys c, a]
  | [], _ :: _, h => h.elim
  | _ :: _, [], h => h.elim
def tabGet (t : List (Str × PyData)) (s : Str) : Option PyData := (t.find? fun q => q.1 == s).map (·.2)
theorem TabV.val {K : PySem.W.Frag} {H : Hp} {s : Str} : ∀ {r : List (Key × V)} {t : List (Str × PyData)}, TabV K H r t → (∃ v d, valV r (.inr s) = some v ∧ tabGet t s = some d ∧ DV K H v d) ∨ (valV r (.inr s) = none ∧ tabGet t s = none)
  | [], [], _ => .inr ⟨rfl, rfl⟩
  | kv :: r, q :: t, ⟨a, b, c⟩ => by
    by_cases h : q.1 = s
    · refine .inl ⟨kv.2, q.2, valV_pos (by rw [a, h]), ?_, b⟩
      unfold tabGet
      rw [List.find?_cons, beq_iff_eq.mpr h]
      rfl
    · rw [valV_neg (by rw [a]; exact fun c => h (by cases c; rfl))]
      have : tabGet (q :: t) s = tabGet t s := by
        unfold tabGet
        rw [List.find?_cons, beq_eq_false_iff_ne.mpr h]
      rw [this]
      exact TabV.val c
  | [], _ :: _, h => h.elim
  | _ :: _, [], h => h.elim
section
variable {X : Cx} {G : Gam} {e f : Expr} {pos p p2 apos : Pos} {d d0 : PyData} {x : Str} {keys : List (Option Expr)} {values : List Expr} {tab : List (Str × PyData)}
end
end L2
set_option maxRecDepth 100000
set_option maxHeartbeats 4000000
namespace L2
open PySem PySem.Spec PyProof.Rows
section
variable {X : Cx} {G : Gam} {o e : Expr} {pos p p2 : Pos} {d : PyData} {x : Str}
end
end L2
set_option maxRecDepth 100000
set_option maxHeartbeats 1000000
namespace L2
open PySem PySem.Spec PyProof.Rows
section
variable {X : Cx} {G : Gam} {H0 : Hp} {p : Addr} {i j : Nat} {Pre Mid Post : Gam → List PyData → Prop} {a b e c : Expr} {es : List Expr} {pos pos' pos2 : Pos} {x : Str} {ws xs ys : List PyData} {d : PyData}
end
end L2
set_option maxRecDepth 100000
set_option maxHeartbeats 1000000
namespace L2
open PySem PySem.Spec PyProof.Rows
def hasK (es : List (PyData × PyData)) (k : Key) : Bool := es.any fun q => PyData.eqv q.1 (keyD k)
theorem keyD_eqv (a b : Key) : PyData.eqv (keyD a) (keyD b) = decide (a = b) := by
  cases a <;> cases b <;> simp [keyD, PyData.eqv] <;> (rw [Bool.eq_iff_iff]; simp)
theorem DVk.has {K : PySem.W.Frag} {H : Hp} {k : Key} : ∀ {kvs : List (Key × V)} {es : List (PyData × PyData)}, DVk K H kvs es → (valV kvs k).isSome = hasK es k
  | _, _, .nil => rfl
  | _, _, .cons (k := a) (x := x) (xs := xs) (ds := ds) h t => by
    have ih := DVk.has (k := k) t
    rw [← valV_any] at ih ⊢
    unfold hasK at ih ⊢
    rw [List.any_cons, List.any_cons, ih, keyD_eqv]
theorem DVk.length {K : PySem.W.Frag} {H : Hp} : ∀ {kvs : List (Key × V)} {es : List (PyData × PyData)}, DVk K H kvs es → kvs.length = es.length
  | _, _, .nil => rfl
  | _, _, .cons _ t => by rw [List.length_cons, List.length_cons, DVk.length t]
def putD (es : List (PyData × PyData)) (k : Key) (d : PyData) : List (PyData × PyData) := if hasK es k = true then es.map (fun q => if PyData.eqv q.1 (keyD k) = true then (q.1, d) else q) else es ++ [(keyD k, d)]
theorem DVk.app {K : PySem.W.Frag} {H : Hp} {k : Key} {x : V} {d : PyData} (hx : DV K H x d) : ∀ {kvs : List (Key × V)} {es : List (PyData × PyData)}, DVk K H kvs es → DVk K H (kvs ++ [(k, x)]) (es ++ [(keyD k, d)])
  | _, _, .nil => .cons hx .nil
  | _, _, .cons h t => .cons h (DVk.app hx t)
theorem DVk.repl {K : PySem.W.Frag} {H : Hp} {k : Key} {x : V} {d : PyData} (hx : DV K H x d) : ∀ {kvs : List (Key × V)} {es : List (PyData × PyData)}, DVk K H kvs es → DVk K H (kvs.map fun kv => if kv.1 = k then (kv.1, x) else kv) (es.map fun q => if PyData.eqv q.1 (keyD k) = true then (q.1, d) else q)
  | _, _, .nil => .nil
  | _, _, .cons (k := a) h t => by
    rw [List.map_cons, List.map_cons]
    by_cases e : a = k
    · rw [if_pos e, if_pos (by rw [keyD_eqv]; exact decide_eq_true e)]
      exact .cons hx (DVk.repl hx t)
    · rw [if_neg e, if_neg (by rw [keyD_eqv, decide_eq_false e]; simp)]
      exact .cons h (DVk.repl hx t)
theorem DVk.put {K : PySem.W.Frag} {H : Hp} {k : Key} {x : V} {d : PyData} {kvs : List (Key × V)} {es : List (PyData × PyData)} (h : DVk K H kvs es) (hx : DV K H x d) : DVk K H (putK kvs k x) (putD es k d) := by
  unfold putK putD
  rw [valV_any, h.has]
  split
  · exact h.repl hx
  · exact h.app hx
section
variable {X : Cx} {G : Gam} {H0 : Hp} {p : Addr} {i j : Nat} {a b e c : Expr} {pos pos' pos2 : Pos} {x : Str} {d : PyData} {es : List (PyData × PyData)}
end
mutual
theorem DVk.noDict {K : PySem.W.Frag} {H H' : Hp} {p : Addr} {kvs : List (Key × V)} (hp : H p = some (.dK kvs)) (hH : ∀ a, a ≠ p → H' a = H a) : ∀ {v : List (Key × V)} {d : List (PyData × PyData)}, DVk K H v d → (d.all fun q => noK q.2) = true → DVk K H' v d
  | _, _, .nil, _ => .nil
  | _, _, .cons h t, f => by
    rw [List.all_cons, Bool.and_eq_true] at f
    exact .cons (DV.noDict hp hH h f.1) (DVk.noDict hp hH t f.2)
end
abbrev plusD (G : Gam) (i : Nat) (es : List (PyData × PyData)) : Gam := G.set i (some (.dict es))
def ODt (K : PySem.W.Frag) (H0 : Hp) (p : Addr) (i : Nat) (G : Gam) (es : List (PyData × PyData)) (σ : St) (H : Hp) : Prop :=
  ∃ Hb kvs, H = upd Hb p (.dK kvs) ∧ Hb p = none ∧ Same H0 Hb ∧ SD K Hb σ G ∧ σ[i]? = some (some (.ref p)) ∧ DVk K Hb kvs es
theorem ODt.sd {K : PySem.W.Frag} {H0 : Hp} {p : Addr} {i : Nat} {G : Gam} {es : List (PyData × PyData)} {σ : St} {H : Hp} (h : ODt K H0 p i G es σ H) : SD K H σ (plusD G i es) := by
  obtain ⟨Hb, kvs, rfl, hn, s0, hσ, hi, dv⟩ := h
  have h1 := hσ.mono (Same.new (o := .dK kvs) hn)
  have h2 := h1.set (i := i) (v := .ref p) (d := .dict es) (.dct upd_same (dv.mono (Same.new hn)))
  have e : σ.set i (some (V.ref p)) = σ := by
    refine List.ext_getElem? fun j => ?_
    by_cases hj : i = j
    · subst hj
      rw [List.getElem?_set_self (List.getElem?_eq_some_iff.mp hi).1, hi]
    · rw [List.getElem?_set_ne hj]
  rw [e] at h2
  exact h2
theorem upd_deleO {H : Hp} {p : Addr} {o : HO} (h : H p = some o) : upd (dele H p) p o = H := by
  funext b
  by_cases hb : b = p
  · subst hb; rw [upd_same, h]
  · rw [upd_ne hb, dele_ne hb]
theorem ODt.step {K : PySem.W.Frag} {H0 : Hp} {p : Addr} {i : Nat} {G : Gam} {es : List (PyData × PyData)} {σ : St} {H H' : Hp} (h : ODt K H0 p i G es σ H) (s : Same H H') :
    ODt K H0 p i G es σ H' ∧ ∀ v d, DV K H' v d → noK d = true → ∃ Hb kvs, H' = upd Hb p (.dK kvs) ∧ Hb p = none ∧ Same H0 Hb ∧ SD K Hb σ G ∧ σ[i]? = some (some (.ref p)) ∧ DVk K Hb kvs es ∧ DV K Hb v d := by
  obtain ⟨Hb, kvs, rfl, hn, s0, hσ, hi, dv⟩ := h
  have hp : H' p = some (.dK kvs) := s p _ upd_same
  have sb : Same Hb (dele H' p) := fun b o e => by
    have hb : b ≠ p := ne_of_none e hn
    rw [dele_ne hb]
    exact s b o (by rw [upd_ne hb]; exact e)
  refine ⟨⟨dele H' p, kvs, (upd_deleO hp).symm, dele_same, s0.trans sb, hσ.mono sb, hi, dv.mono sb⟩, fun v d q f => ⟨dele H' p, kvs, (upd_deleO hp).symm, dele_same, s0.trans sb, hσ.mono sb, hi, dv.mono sb, DV.noDict hp (fun a ha => dele_ne ha) q f⟩⟩
section
variable {X : Cx} {H0 : Hp} {p : Addr} {i j : Nat} {Pre Mid Post PreA PreB : Gam → List (PyData × PyData) → Prop} {e c : Expr} {pos pos' pos2 : Pos} {x : Str}
variable {G : Gam} {d : PyData}
end
end L2
set_option maxRecDepth 100000
set_option maxHeartbeats 1000000
namespace L2
open PySem PySem.Spec PyProof.Rows
section
variable {X : Cx} {G : Gam} {H0 : Hp} {p : Addr} {i j : Nat} {Pre Mid Post : Gam → List PyData → Prop} {a b e c tg : Expr} {es : List Expr} {pos pos' pos2 : Pos} {x : Str} {ws xs ys : List PyData} {d : PyData} {R : PyData → Prop}
theorem cd_min {i j : Int} (hc : X.calm = true) : CD X (.builtin "min") [.int i, .int j] (.int (if j < i then j else i)) := (call_min2 hc).imp fun xs H Q ⟨h, q⟩ => by
  obtain ⟨v, w, rfl, dv, dw⟩ := h.two
  exact ⟨i, j, by rw [dv.of_int, dw.of_int], q _ H (Same.refl H) (.int _)⟩
end
end L2
set_option maxRecDepth 100000
set_option maxHeartbeats 1000000
namespace L2
open PySem PySem.Spec PyProof.Rows
def TrAll {α : Type} (N : Nat) (R : α → Prop) : PySem.W.KasT α → Prop
  | .ret a => R a
  | .ask i j k => i < N ∧ j < N ∧ ∀ b, TrAll N R (k b)
theorem TrAll.imp {α : Type} {N : Nat} {R T : α → Prop} (m : ∀ a, R a → T a) : ∀ {t : PySem.W.KasT α}, TrAll N R t → TrAll N T t
  | .ret a, h => m a h
  | .ask i j k, ⟨a, b, h⟩ => ⟨a, b, fun c => TrAll.imp m (h c)⟩
theorem TrAll.bind {α β : Type} {N : Nat} {R : α → Prop} {T : β → Prop} {f : α → PySem.W.KasT β} (hf : ∀ a, R a → TrAll N T (f a)) : ∀ {t : PySem.W.KasT α}, TrAll N R t → TrAll N T (t.bind f)
  | .ret a, h => hf a h
  | .ask i j k, ⟨a, b, h⟩ => ⟨a, b, fun c => TrAll.bind hf (h c)⟩
def PmN (N : Nat) (p : Array Nat) : Prop := p.Perm (List.toArray (List.range N))
theorem PmN.lt {N : Nat} {p : Array Nat} (h : PmN N p) (hN : 0 < N) (i : Nat) : p.getD i 0 < N := by
  by_cases hi : i < p.size
  · have e : p.getD i 0 = p[i] := by simp [Array.getD, hi]
    rw [e]
    have : p[i] ∈ List.range N := by
      have := (Array.perm_iff_toList_perm.mp h).mem_iff (a := p[i])
      simpa using this.mp (by simp)
    exact List.mem_range.mp this
  · have e : p.getD i 0 = 0 := by simp [Array.getD, hi]
    rw [e]
    exact hN
section
variable {N : Nat} (hN : 0 < N)
include hN
end
section
variable {prog : Program} {w : World} {A : Around} {E : Value → Shared → Prop} {s : Shared}
end
end L2
set_option maxRecDepth 100000
set_option maxHeartbeats 1000000
namespace L2
open PySem PySem.Spec PyProof.Rows
theorem DVk.ints {K : PySem.W.Frag} {H : Hp} : ∀ {kvs : List (Key × V)} {es : List (PyData × PyData)}, DVk K H kvs es → (∀ q ∈ es, ∃ i j : Int, q = (.int i, .int j)) → ∀ {j : Nat} {q : Key × V}, kvs[j]? = some q → ∃ i v : Int, q = (.inl i, .int v) ∧ ((PyData.int i, PyData.int v) ∈ es)
  | _, _, .nil, _, _, _, h => by simp at h
  | _, _, .cons (k := k) (x := x) (d := d) (ds := ds) dv t, he, 0, q, h => by
    simp at h
    subst h
    obtain ⟨i, v, e⟩ := he _ (List.mem_cons_self ..)
    have e1 := (Prod.mk.inj e).1
    have e2 := (Prod.mk.inj e).2
    cases k with
    | inr s => cases e1
    | inl z =>
      cases e1
      subst e2
      exact ⟨i, v, by rw [dv.of_int], List.mem_cons_self ..⟩
  | _, _, .cons dv t, he, j + 1, q, h => by
    obtain ⟨i, v, h1, h2⟩ := DVk.ints t (fun q hq => he q (List.mem_cons_of_mem _ hq)) (j := j) (q := q) (by simpa using h)
    exact ⟨i, v, h1, List.mem_cons_of_mem _ h2⟩
section
variable {X : Cx} {G : Gam} {o : Expr} {pos p apos cpos : Pos} {es : List (PyData × PyData)}
end
end L2
set_option maxRecDepth 100000
set_option maxHeartbeats 1000000
namespace L2
open PySem PySem.Spec PyProof.Rows
section
variable {X : Cx} {H0 : Hp} {p : Addr} {i j : Nat} {Pre Mid Post PreA PreB : Gam → List (PyData × PyData) → Prop} {e c : Expr} {es : List Expr} {pos pos' pos2 p1 : Pos} {x : Str} {G : Gam} {d : PyData} {R : PyData → Prop} {Rs : List PyData → Prop} {ds : List PyData}
end
end L2
set_option maxRecDepth 100000
set_option maxHeartbeats 1000000
namespace L2
open PySem PySem.Spec PyProof.Rows
section
variable {X : Cx} {G : Gam} {a b e : Expr} {pos p p2 : Pos} {d : PyData} {x : Str}
end
end L2
set_option maxRecDepth 100000
set_option maxHeartbeats 1000000
namespace L2
open PySem PySem.Spec PyProof.Rows
end L2
set_option maxRecDepth 100000
set_option maxHeartbeats 1000000
namespace L2
open PySem PySem.Spec PyProof.Rows
section
variable {X : Cx} {G : Gam} {a : Expr} {pos p : Pos}
end
end L2
set_option maxRecDepth 100000
set_option maxHeartbeats 1000000
namespace L2
open PySem PySem.Spec PyProof.Rows
section
variable {P : Program} {w : World} {K : PySem.W.Frag} {mg : Str → Option Value} {base : Heap}
end
section
variable {X : Cx} {G : Gam} {e : Expr} {pos pos' pos2 : Pos} {x f : Str} {d : PyData}
def Flds (K : PySem.W.Frag) (H : Hp) (fs : List (Str × V)) (fd : List (Str × PyData)) : Prop := ∀ q ∈ fd, ∃ v, fs.lookup q.1 = some v ∧ DV K H v q.2
structure OI (K : PySem.W.Frag) (a C dx : Addr) (H0 : Hp) (n : Nat) (fd : List (Str × PyData)) (σ : St) (G : Gam) (fs : List (Str × V)) (H : Hp) : Prop where
  slot : σ[0]? = some (some (.ref a))
  obj : H a = some (.ins C dx fs)
  sd : SD K H σ G
  keep : ∀ b, b ≠ a → ∀ o, H0 b = some o → H b = some o
  flds : Flds K H fs fd
  few : fs.length ≤ n
theorem OI.step {K : PySem.W.Frag} {a C dx : Addr} {H0 : Hp} {n : Nat} {fd : List (Str × PyData)} {σ : St} {fs : List (Str × V)} {H H' : Hp} (o : OI K a C dx H0 n fd σ G fs H) (s : Same H H') : OI K a C dx H0 n fd σ G fs H' :=
  ⟨o.slot, s _ _ o.obj, o.sd.mono s, fun b hb u e => s _ _ (o.keep b hb u e), fun q hq => let ⟨v, h1, h2⟩ := o.flds q hq; ⟨v, h1, h2.mono s⟩, o.few⟩
end
end L2
set_option maxRecDepth 100000
set_option maxHeartbeats 1000000
namespace L2
open PySem PySem.Spec PyProof.Rows
section
variable {X : Cx}
end
end L2
namespace L2
open PySem PySem.Spec PyProof.Rows
section
variable {X : Cx} {G : Gam} {i : Nat} {x : Str} {es : List Expr} {pos pos' pos2 : Pos} {sts : List Stmt} {o : Out} {ds : List PyData}
end
end L2
set_option maxRecDepth 100000
set_option maxHeartbeats 1000000
namespace L2
open PySem PySem.Spec PyProof.Rows
section
variable {X : Cx} {G G2 : Gam} {H0 : Hp} {p : Addr} {i j : Nat} {Pre Mid Post : Gam → List PyData → Prop} {a b e c iter : Expr} {es : List Expr} {pos pos' pos2 pos3 : Pos} {x : Str} {ws xs ys ds : List PyData} {d : PyData} {sts A B : List Stmt}
theorem DVs.setAt {K : PySem.W.Frag} {H : Hp} {v : V} {d : PyData} (h : DV K H v d) : ∀ {vs : List V} {ds : List PyData} (n : Nat), DVs K H vs ds → DVs K H (vs.set n v) (ds.set n d)
  | _, _, _, .nil => .nil
  | _, _, 0, .cons _ t => .cons h t
  | _, _, n + 1, .cons q t => .cons q (DVs.setAt h n t)
end
end L2
set_option maxRecDepth 100000
set_option maxHeartbeats 1000000
namespace L2
open PySem PySem.Spec PyProof.Rows
section
variable {X : Cx} {G : Gam} {elt target iter : Expr} {ifs : List Expr} {scope : Scope} {pos : Pos} {N : List Str} {ix : List Nat} {ds : List PyData}
end
theorem SqT.dele {K : PySem.W.Frag} {H : Hp} {p a : Addr} {ws xs : List V} (hp : H p = some (.lst ws)) (h : SqT K H a xs) : SqT K (L2.dele H p) a xs := by
  rcases h with (h | ⟨o, h⟩) | h
  · have : a ≠ p := fun z => by subst z; rw [hp] at h; cases h
    exact .inl (.inl (by rw [dele_ne this]; exact h))
  · have : a ≠ p := fun z => by subst z; rw [hp] at h; cases h
    exact .inl (.inr ⟨o, by rw [dele_ne this]; exact h⟩)
  · exact .inr h
section
variable {X : Cx} {H0 : Hp} {p : Addr} {i : Nat} {Pre Post : Gam → List PyData → Prop} {e : Expr} {pos pos' pos2 : Pos} {x : Str}
end
end L2
set_option maxRecDepth 100000
set_option maxHeartbeats 1000000
namespace L2
open PySem PySem.Spec PyProof.Rows
section
variable {X : Cx} {G : Gam} {a : Expr} {pos p : Pos}
end
section
variable {K : PySem.W.Frag} {H : Hp} {t : Addr} {ys : List V} {ds : List PyData}
end
end L2
set_option maxRecDepth 100000
set_option maxHeartbeats 1000000
namespace L2
open PySem PySem.Spec PyProof.Rows
abbrev base2 (H : Hp) (p q : Addr) : Hp := dele (dele H p) q
theorem base2_ne {H : Hp} {p q b : Addr} (h1 : b ≠ p) (h2 : b ≠ q) : base2 H p q b = H b := by show dele (dele H p) q b = _; rw [dele_ne h2, dele_ne h1]
theorem base2_some {H : Hp} {p q b : Addr} {o : HO} (h : base2 H p q b = some o) : b ≠ p ∧ b ≠ q ∧ H b = some o := by
  have hq : b ≠ q := fun c => by subst c; rw [show base2 H p b b = none from dele_same] at h; cases h
  have hp : b ≠ p := fun c => by
    subst c
    rw [show base2 H b q b = dele H b b from dele_ne hq, dele_same] at h
    cases h
  exact ⟨hp, hq, by rw [base2_ne hp hq] at h; exact h⟩
theorem base2_sub {H : Hp} {p q : Addr} : Same (base2 H p q) H := fun b o e => (base2_some e).2.2
theorem base2_mono {H H' : Hp} {p q : Addr} (s : Same H H') : Same (base2 H p q) (base2 H' p q) := fun b o e => by
  obtain ⟨h1, h2, h3⟩ := base2_some e
  rw [base2_ne h1 h2]
  exact s b o h3
theorem base2_swap {H : Hp} {p q : Addr} : base2 H p q = base2 H q p := by
  funext b
  by_cases h1 : b = p
  · by_cases h2 : b = q
    · subst h1 h2; rfl
    · subst h1
      show dele (dele H b) q b = dele (dele H q) b b
      rw [dele_ne h2, dele_same, dele_same]
  · by_cases h2 : b = q
    · subst h2
      show dele (dele H p) b b = dele (dele H b) p b
      rw [dele_same, dele_ne h1, dele_same]
    · rw [base2_ne h1 h2, base2_ne h2 h1]
theorem base2_upd {H : Hp} {p q : Addr} {o : HO} : base2 (upd H p o) p q = base2 H p q := by
  funext b
  by_cases h2 : b = q
  · subst h2; show dele _ b b = dele _ b b; rw [dele_same, dele_same]
  · by_cases h1 : b = p
    · subst h1
      show dele (dele _ b) q b = dele (dele _ b) q b
      rw [dele_ne h2, dele_ne h2, dele_same, dele_same]
    · rw [base2_ne h1 h2, base2_ne h1 h2, upd_ne h1]
section
variable {K : PySem.W.Frag} {H : Hp} {p q : Addr} {ws us : List V}
theorem DV.base2 {v : V} {d : PyData} (hp : H p = some (.lst ws)) (hq : H q = some (.lst us)) (ne : p ≠ q) (h : DV K H v d) (n : noL d = true) : DV K (L2.base2 H p q) v d := DV.dele (ws := us) (by rw [dele_ne (Ne.symm ne)]; exact hq) (DV.dele hp h n) n
theorem DVs.base2 {v : List V} {d : List PyData} (hp : H p = some (.lst ws)) (hq : H q = some (.lst us)) (ne : p ≠ q) (h : DVs K H v d) (n : noLs d = true) : DVs K (L2.base2 H p q) v d := DVs.dele (ws := us) (by rw [dele_ne (Ne.symm ne)]; exact hq) (DVs.dele hp h n) n
theorem SqT.base2 {t : Addr} {ys : List V} (hp : H p = some (.lst ws)) (hq : H q = some (.lst us)) (ne : p ≠ q) (h : SqT K H t ys) : SqT K (L2.base2 H p q) t ys := SqT.dele (ws := us) (by rw [dele_ne (Ne.symm ne)]; exact hq) (SqT.dele hp h)
end
structure OS2 (K : PySem.W.Frag) (H0 : Hp) (p : Addr) (i : Nat) (q : Addr) (j : Nat) (G : Gam) (ds es : List PyData) (σ : St) (H : Hp) : Prop where
  ne : p ≠ q
  ex : ∃ vs us, H p = some (.lst vs) ∧ H q = some (.lst us) ∧ DVs K (base2 H p q) vs ds ∧ DVs K (base2 H p q) us es
  old : Same H0 (base2 H p q)
  sdb : SD K (base2 H p q) σ G
  hi : σ[i]? = some (some (.ref p))
  hj : σ[j]? = some (some (.ref q))
abbrev plus2 (G : Gam) (i : Nat) (ds : List PyData) (j : Nat) (es : List PyData) : Gam := (G.set i (some (.list ds))).set j (some (.list es))
theorem set_self {α : Type} {l : List α} {i : Nat} {a : α} (h : l[i]? = some a) : l.set i a = l := by
  refine List.ext_getElem? fun j => ?_
  by_cases hj : i = j
  · subst hj
    rw [List.getElem?_set_self (List.getElem?_eq_some_iff.mp h).1, h]
  · rw [List.getElem?_set_ne hj]
section
variable {K : PySem.W.Frag} {H0 H H' : Hp} {p q : Addr} {i j : Nat} {G : Gam} {ds es : List PyData} {σ : St}
theorem OS2.swap (o : OS2 K H0 p i q j G ds es σ H) : OS2 K H0 q j p i G es ds σ H := by
  obtain ⟨ne, ⟨vs, us, h1, h2, d1, d2⟩, old, sd, hi, hj⟩ := o
  rw [base2_swap] at d1 d2 old sd
  exact ⟨Ne.symm ne, ⟨us, vs, h2, h1, d2, d1⟩, old, sd, hj, hi⟩
theorem OS2.sd (o : OS2 K H0 p i q j G ds es σ H) : SD K H σ (plus2 G i ds j es) := by
  obtain ⟨ne, ⟨vs, us, h1, h2, d1, d2⟩, old, sd, hi, hj⟩ := o
  have a := ((sd.mono base2_sub).set (i := i) (v := .ref p) (d := .list ds) (.lst (SqL.of h1) (d1.mono base2_sub))).set (i := j) (v := .ref q) (d := .list es) (.lst (SqL.of h2) (d2.mono base2_sub))
  rw [set_self hi, set_self hj] at a
  exact a
theorem OS2.step (o : OS2 K H0 p i q j G ds es σ H) (s : Same H H') : OS2 K H0 p i q j G ds es σ H' := by
  obtain ⟨ne, ⟨vs, us, h1, h2, d1, d2⟩, old, sd, hi, hj⟩ := o
  exact ⟨ne, ⟨vs, us, s _ _ h1, s _ _ h2, d1.mono (base2_mono s), d2.mono (base2_mono s)⟩, old.trans (base2_mono s), sd.mono (base2_mono s), hi, hj⟩
theorem OS2.new {v : V} {d : PyData} (o : OS2 K H0 p i q j G ds es σ H) (h : DV K H v d) (n : noL d = true) : DV K (base2 H p q) v d := by
  obtain ⟨ne, ⟨vs, us, h1, h2, _⟩, _⟩ := o
  exact DV.base2 h1 h2 ne h n
end
abbrev P2 := Gam → List PyData → List PyData → Prop
section
variable {X : Cx} {H0 : Hp} {p q : Addr} {i j m : Nat} {Pre Mid Post PreA PreB : P2} {a e b c : Expr} {pos pos' pos2 pos3 : Pos} {x y : Str} {G : Gam} {d : PyData} {R : PyData → Prop}
structure BindB (K : PySem.W.Frag) (is : List Nat) (g : TG) (B : PyData → Gam → Gam) (d : PyData) : Prop where
  to : ∀ (v : V) (σ : St) (Hb H : Hp) (G : Gam) (Q : St → Hp → Prop), Same Hb H → SD K Hb σ G → DV K Hb v d → (∀ σ2, SD K Hb σ2 (B d G) → (∀ m, m ∉ is → σ2[m]? = σ[m]?) → Q σ2 H) → g v σ H Q
end
end L2
set_option maxRecDepth 100000
set_option maxHeartbeats 3200000
namespace L2
open PySem
def Rise (xs : Array Nat) : Prop := xs.toList.Pairwise (· < ·)
theorem Rise.lt {xs : Array Nat} (R : Rise xs) {a b : Nat} (ha : a < b) (hb : b < xs.size) : xs[a]'(Nat.lt_trans ha hb) < xs[b] := by
  have := List.pairwise_iff_getElem.mp R a b (by simpa using Nat.lt_trans ha hb) (by simpa using hb) ha
  simpa using this
theorem below_go {xs : Array Nat} {j : Nat} (R : Rise xs) : ∀ fuel lo hi, lo ≤ hi → hi ≤ xs.size → hi - lo ≤ fuel → (∀ m (h : m < xs.size), m < lo → xs[m] < j) → (∀ m (h : m < xs.size), hi ≤ m → j ≤ xs[m]) →
    SetTable.below.go xs j fuel lo hi ≤ xs.size ∧ (∀ m (h : m < xs.size), m < SetTable.below.go xs j fuel lo hi → xs[m] < j) ∧ (∀ m (h : m < xs.size), SetTable.below.go xs j fuel lo hi ≤ m → j ≤ xs[m])
  | 0, lo, hi, h1, h2, h3, hl, hh => by
    have : lo = hi := by omega
    subst this
    exact ⟨h2, hl, hh⟩
  | fuel + 1, lo, hi, h1, h2, h3, hl, hh => by
    unfold SetTable.below.go
    by_cases hlt : lo < hi
    · rw [if_pos hlt]
      have hm : (lo + hi) / 2 < xs.size := by omega
      have eg : xs.getD ((lo + hi) / 2) j = xs[(lo + hi) / 2] := by rw [Array.getD_eq_getD_getElem?, Array.getElem?_eq_getElem hm]; rfl
      simp only [eg]
      by_cases hc : xs[(lo + hi) / 2] < j
      · rw [if_pos hc]
        refine below_go R fuel _ _ (by omega) h2 (by omega) (fun m h hm' => ?_) hh
        by_cases e : m = (lo + hi) / 2
        · subst e; exact hc
        · exact Nat.lt_trans (R.lt (by omega) hm) hc
      · rw [if_neg hc]
        refine below_go R fuel _ _ (by omega) (by omega) (by omega) hl (fun m h hm' => ?_)
        by_cases e : m = (lo + hi) / 2
        · subst e; omega
        · have := R.lt (a := (lo + hi) / 2) (b := m) (by omega) h
          omega
    · rw [if_neg hlt]
      have : lo = hi := by omega
      subst this
      exact ⟨h2, hl, hh⟩
theorem below_spec {xs : Array Nat} (R : Rise xs) (j : Nat) : SetTable.below xs j ≤ xs.size ∧ (∀ m (h : m < xs.size), m < SetTable.below xs j → xs[m] < j) ∧ (∀ m (h : m < xs.size), SetTable.below xs j ≤ m → j ≤ xs[m]) :=
  below_go R xs.size 0 xs.size (Nat.zero_le _) (Nat.le_refl _) (by omega) (fun m h z => by omega) (fun m h z => by omega)
theorem below_notin {xs : Array Nat} (R : Rise xs) {j : Nat} (h : xs[SetTable.below xs j]? ≠ some j) : j ∉ xs.toList := by
  intro hj
  obtain ⟨m, hm, e⟩ := List.getElem_of_mem hj
  have hm' : m < xs.size := by simpa using hm
  have e' : xs[m] = j := by simpa using e
  obtain ⟨b1, b2, b3⟩ := below_spec R j
  by_cases c : m < SetTable.below xs j
  · have := b2 m hm' c; omega
  · by_cases c2 : m = SetTable.below xs j
    · subst c2
      exact h (by rw [Array.getElem?_eq_getElem hm', e'])
    · have h1 := R.lt (a := SetTable.below xs j) (b := m) (by omega) hm'
      have h2 := b3 (SetTable.below xs j) (by omega) (Nat.le_refl _)
      omega
theorem insertAt_list {α : Type} (xs : Array α) (p : Nat) (x : α) : (SetTable.insertAt xs p x).toList = xs.toList.take p ++ x :: xs.toList.drop p := by
  unfold SetTable.insertAt
  simp [Array.toList_extract, List.extract_eq_take_drop]
  exact List.take_of_length_le (by rw [List.length_drop, Array.length_toList]; omega)
theorem put_rise {t : SetTable} {j : Nat} (R : Rise t.place) (hj : j ∉ t.place.toList) : Rise (t.put j).1.place := by
  show Rise (SetTable.insertAt t.place (SetTable.below t.place j) j)
  unfold Rise
  rw [insertAt_list]
  obtain ⟨b1, b2, b3⟩ := below_spec R j
  generalize SetTable.below t.place j = p at b1 b2 b3
  have R' : t.place.toList.Pairwise (· < ·) := R
  refine List.pairwise_append.mpr ⟨R'.sublist (List.take_sublist ..), List.pairwise_cons.mpr ⟨fun y hy => ?_, R'.sublist (List.drop_sublist ..)⟩, fun a ha b hb => ?_⟩
  · obtain ⟨m, hm, e⟩ := List.getElem_of_mem hy
    rw [List.getElem_drop] at e
    have hm' : p + m < t.place.size := by rw [List.length_drop, Array.length_toList] at hm; omega
    have h1 := b3 (p + m) hm' (by omega)
    have e' : t.place[p + m] = y := by simpa using e
    have hne : y ≠ j := fun z => hj (by rw [← z]; exact List.mem_of_mem_drop hy)
    omega
  · obtain ⟨m, hm, e⟩ := List.getElem_of_mem ha
    rw [List.getElem_take] at e
    have hm2 : m < p ∧ m < t.place.size := by rw [List.length_take, Array.length_toList] at hm; omega
    have h1 := b2 m hm2.2 hm2.1
    have e' : t.place[m] = a := by simpa using e
    rcases List.mem_cons.mp hb with rfl | hb
    · omega
    · obtain ⟨m2, hm3, e3⟩ := List.getElem_of_mem hb
      rw [List.getElem_drop] at e3
      have hm' : p + m2 < t.place.size := by rw [List.length_drop, Array.length_toList] at hm3; omega
      have h4 := b3 (p + m2) hm' (by omega)
      have e4 : t.place[p + m2] = b := by simpa using e3
      omega
theorem slot_notlive {t : SetTable} (R : Rise t.place) {j : Nat} (h : ∀ i, t.slot j ≠ .live i) : j ∉ t.place.toList := by
  refine below_notin R fun e => ?_
  refine h (SetTable.below t.place j) ?_
  unfold SetTable.slot
  simp [e]
theorem probe_free {t : SetTable} (R : Rise t.place) {ha : Nat → Int} {h : Int} : ∀ fuel (p : SetTable.Probe), (∀ d, p.dummy = some d → d ∉ t.place.toList) → ∀ j d, SetTable.probe.go t ha h fuel p = some (.empty j d) → j ∉ t.place.toList ∧ ∀ d', d = some d' → d' ∉ t.place.toList
  | 0, p, _, j, d, e => by unfold SetTable.probe.go at e; cases e
  | fuel + 1, p, hp, j, d, e => by
    unfold SetTable.probe.go at e
    have adv : ∀ q : SetTable.Probe, (t.advance q).dummy = q.dummy := fun q => by unfold SetTable.advance; split <;> rfl
    cases hs : t.slot p.j with
    | empty =>
      rw [hs] at e
      cases e
      exact ⟨slot_notlive R (fun i z => by rw [hs] at z; cases z), hp⟩
    | dummy =>
      rw [hs] at e
      refine probe_free R fuel _ (fun d' z => ?_) j d e
      rw [adv] at z
      cases z
      exact slot_notlive R fun i z => by rw [hs] at z; cases z
    | live i =>
      rw [hs] at e
      dsimp only at e
      split at e
      · cases e
      · exact probe_free R fuel _ (fun d' z => hp d' (by rw [adv] at z; exact z)) j d e
theorem freeSlot_notin {t : SetTable} (R : Rise t.place) {h : Int} {j : Nat} {b : Bool} (e : t.freeSlot h = some (j, b)) : j ∉ t.place.toList := by
  unfold SetTable.freeSlot SetTable.probe at e
  split at e
  · rename_i j' d hp
    cases e
    obtain ⟨h1, h2⟩ := probe_free R _ _ (fun d z => by cases z) _ _ hp
    cases d with
    | none => exact h1
    | some d' => exact h2 d' rfl
  · cases e
def TblOk (b : Bool) (t : SetTable) : Prop := t.led = b ∧ Rise t.place
theorem range_rise (n : Nat) : Rise (Array.range n) := by
  unfold Rise
  rw [Array.toList_range]
  exact List.pairwise_lt_range
theorem standIn_ok {b : Bool} {t : SetTable} (h : t.led = b) (n : Nat) : TblOk b (t.standIn n) := ⟨h, range_rise n⟩
theorem orStandIn_ok {b : Bool} {t : SetTable} (h : TblOk b t) (n : Nat) : TblOk b (t.orStandIn n) := by
  unfold SetTable.orStandIn
  split
  · exact h
  · exact standIn_ok h.1 n
theorem layNew_ok {b : Bool} {t : SetTable} (h : TblOk b t) (es : Array (Int × Value)) (hs : Int) (x : Value) : TblOk b (layNew t es hs x).2.1 := by
  unfold layNew
  split
  · rename_i slot wd e
    have q : TblOk b (t.put slot).1 := ⟨h.1, put_rise h.2 (freeSlot_notin h.2 e)⟩
    exact orStandIn_ok q _
  · exact standIn_ok h.1 _
theorem laid_ok {mask finger moves : Nat} {led plain : Bool} {hashes : Array Int} {t : SetTable} {o : Array Nat} (e : SetTable.laid mask finger moves led plain hashes = some (t, o)) : TblOk led t := by
  unfold SetTable.laid at e
  cases ho : SetTable.layClean mask hashes with
  | none => rw [ho] at e; cases e
  | some owner =>
    rw [ho] at e
    cases e
    refine ⟨rfl, ?_⟩
    unfold Rise
    show List.Pairwise _ _
    rw [List.map_filterMap]
    refine List.Pairwise.filterMap _ (fun a a' hlt b hb b' hb' => ?_) (List.pairwise_lt_range (n := mask + 1))
    have g : ∀ {a b : Nat}, Option.map (fun x => x.1) (Option.map (fun x => (a, x)) (owner.getD a none)) = some b → b = a := fun {a b} z => by
      cases q : owner.getD a none with
      | none => rw [q] at z; cases z
      | some c => rw [q] at z; cases z; rfl
    have := g hb
    have := g hb'
    omega
theorem relayAll_ok {b : Bool} {t : SetTable} (h : TblOk b t) (es : Array (Int × Value)) (n : Nat) : TblOk b (relayAll t es n).2.1 := by
  unfold relayAll
  cases e : t.relaid (es.map (·.1)) n with
  | none => exact standIn_ok h.1 _
  | some q =>
    obtain ⟨t', o⟩ := q
    dsimp only
    split
    · have := laid_ok e
      rw [h.1] at this
      exact this
    · exact standIn_ok h.1 _
end L2
namespace L2
open PySem
structure SetG (prog : Program) (w : World) (h : Heap) (a : Addr) (S : Int → Bool) (n : Nat) (o : Obj) (es : Array (Int × Value)) (ep : Nat) (t : SetTable) : Prop where
  at_ : h.get? a = some o
  ex : o.ExactSet
  dat : o.data = .set es ep t
  els : ElemsOf (intKind prog w) es.toList
  mem : ∀ k, S k = true ↔ ∃ e ∈ es.toList, (intKind prog w).is k e.2 = true
  few : es.size < scanBound
  fit : t.fits es.size = true
  len : es.size = n
  tbl : TblOk (!w.params.followText "set-order") t
def SetO (prog : Program) (w : World) (h : Heap) (a : Addr) (S : Int → Bool) (n : Nat) : Prop := ∃ o es ep t, SetG prog w h a S n o es ep t
section
variable {prog : Program} {w : World} {A : Around} {E : Value → Shared → Prop} {s : Shared} {a : Addr} {S : Int → Bool} {n : Nat}
theorem store_G {h : Heap} {o : Obj} {es es' : Array (Int × Value)} {ep : Nat} {t t' : SetTable} {S' : Int → Bool} (ho : h.get? a = some o) (hex : o.ExactSet) (hd : o.data = .set es ep t) (el : ElemsOf (intKind prog w) es'.toList) (me : ∀ k, S' k = true ↔ ∃ e ∈ es'.toList, (intKind prog w).is k e.2 = true) (hb : es'.size < scanBound) (hf : t'.fits es'.size = true) (ht : TblOk (!w.params.followText "set-order") t') :
    (h.update a (Obj.putSet es' t')).get? a = some { o with data := .set es' (ep + 1) t' } ∧ SetO prog w (h.update a (Obj.putSet es' t')) a S' es'.size := by
  obtain ⟨g, _⟩ := SetOf_store (knd := intKind prog w) ho hex hd el me hb hf
  exact ⟨g, _, _, _, _, g, hex, rfl, el, me, hb, hf, rfl, ht⟩
theorem add_G {k : Int} {tk : Tok} {Q : Bool → Shared → Prop} (hS : SetO prog w s.heap a S n) (room : n + 1 < scanBound)
    (h : ∀ h', Heap.SameBut a s.heap h' → SetO prog w h' a (fun k' => S k' || decide (k' = k)) (if S k then n else n + 1) → Q (!S k) { s with heap := h' }) :
    wpAny (model prog w) A (setAddHashed a (.int k tk) ((intKind prog w).hash k)) Q E s := by
  obtain ⟨o, es, ep, t, g⟩ := hS
  have key : (intKind prog w).is k (.int k tk) = true := intKind_is _ _ _ _
  have few1 : es.size + 1 < scanBound := by rw [g.len]; exact room
  unfold setAddHashed setAddHashedIn
  refine wpAny_holding (wpAny_bind (wpAny_setState_of g.at_ g.dat g.fit ?_))
  dsimp only
  rw [byScan_of rfl g.few g.els]
  simp only [↓reduceIte]
  unfold setAddByScan
  refine wpAny_bind (wpAny_bind (wpAny_rule (wpAny_bind (wpAny_setScan_of key g.at_ g.dat g.fit g.els ?_))))
  cases hr : List.findIdx? (fun e => (intKind prog w).is k e.2) es.toList with
  | some j =>
    dsimp only
    obtain ⟨hj, hpj, _⟩ := List.findIdx?_eq_some_iff_getElem.mp hr
    have hSk : S k = true := (g.mem k).mpr ⟨es.toList[j], List.getElem_mem hj, hpj⟩
    have r := h s.heap (Heap.SameBut.refl a s.heap) ⟨o, es, ep, t, g.at_, g.ex, g.dat, g.els, fun k' => by
      rw [Bool.or_eq_true, decide_eq_true_eq, ← g.mem k']
      exact ⟨fun z => z.elim id fun z => z ▸ hSk, .inl⟩, g.few, g.fit, by rw [if_pos hSk]; exact g.len, g.tbl⟩
    rw [hSk] at r
    exact wpAny_pure (wpAny_pure (by cases s; exact r))
  | none =>
    dsimp only
    have hSk : S k = false := by
      cases hk : S k with
      | false => rfl
      | true =>
        obtain ⟨e, he, hp⟩ := (g.mem k).mp hk
        have z := List.findIdx?_eq_none_iff.mp hr e he
        rw [hp] at z
        cases z
    have way : ∀ (b : Bool) {s₁ : Shared} {Q' : Unit → Shared → Prop}, Q' () s₁ → wpAny (model prog w) A (match b with | true => rule "set.scan.the-table-gave-way" | false => pure ()) Q' E s₁ := fun b s₁ Q' hq => by
      cases b
      · exact wpAny_pure hq
      · exact wpAny_rule hq
    have pm := layNew_perm t es ((intKind prog w).hash k) (.int k tk)
    have ft := layNew_fits t es ((intKind prog w).hash k) (.int k tk)
    have tb := layNew_ok g.tbl es ((intKind prog w).hash k) (.int k tk)
    generalize layNew t es ((intKind prog w).hash k) (.int k tk) = L at pm ft tb ⊢
    obtain ⟨es1, t1, wd, gv⟩ := L
    dsimp only at pm ft tb ⊢
    rw [Array.toList_push] at pm
    have el1 : ElemsOf (intKind prog w) es1.toList := (g.els.push key rfl).perm pm
    have me1 : ∀ k', (S k' || decide (k' = k)) = true ↔ ∃ e ∈ es1.toList, (intKind prog w).is k' e.2 = true := mem_push_iff key g.mem pm
    have ln1 : es1.size = es.size + 1 := by rw [← Array.length_toList, pm.length_eq, List.length_append, Array.length_toList]; rfl
    have fw1 : es1.size < scanBound := by rw [ln1]; exact few1
    have fin : ∀ h', Heap.SameBut a s.heap h' → SetO prog w h' a (fun k' => S k' || decide (k' = k)) es1.size → Q true { s with heap := h' } := fun h' sb so => by
      have r := h h' sb
      rw [hSk] at r
      exact r (by rw [if_neg (by simp), ← g.len, ← ln1]; exact so)
    refine wpAny_bind (way _ ?_)
    obtain ⟨o1, so1⟩ := store_G (prog := prog) g.at_ g.ex g.dat el1 me1 fw1 ft tb
    have sb1 := Heap.SameBut.update s.heap a (Obj.putSet es1 t1)
    rw [show hashByValue 8 (Value.int k tk) = (pure true : Sem Bool) from rfl]
    split
    all_goals
      refine wpAny_bind (wpAny_pure ?_)
      simp only [↓reduceIte]
      refine wpAny_bind (wpAny_storeSet_of g.at_ g.dat ?_ (fits_of_scanBound fw1))
      split
      · have pm2 := relayAll_perm t1 es1 (SetTable.grown es1.size)
        have ft2 := relayAll_fits t1 es1 (SetTable.grown es1.size)
        have tb2 := relayAll_ok tb es1 (SetTable.grown es1.size)
        generalize relayAll t1 es1 (SetTable.grown es1.size) = R at pm2 ft2 tb2 ⊢
        obtain ⟨es2, t2, gv2⟩ := R
        dsimp only at pm2 ft2 tb2 ⊢
        have ln2 : es2.size = es1.size := by rw [← Array.length_toList, pm2.length_eq, Array.length_toList]
        have fw2 : es2.size < scanBound := by rw [ln2]; exact fw1
        refine wpAny_bind (way _ ?_)
        obtain ⟨_, so2⟩ := store_G (prog := prog) (S' := fun k' => S k' || decide (k' = k)) o1 g.ex rfl (el1.perm pm2) (fun k' => (me1 k').trans ⟨fun ⟨e, he, q⟩ => ⟨e, pm2.mem_iff.mpr he, q⟩, fun ⟨e, he, q⟩ => ⟨e, pm2.mem_iff.mp he, q⟩⟩) fw2 ft2 tb2
        refine wpAny_bind (wpAny_storeSet_of o1 rfl ?_ (fits_of_scanBound fw2))
        rw [ln2] at so2
        exact wpAny_pure (wpAny_pure (fin _ (sb1.trans (Heap.SameBut.update _ a _)) so2))
      · exact wpAny_pure (wpAny_pure (fin _ sb1 so1))
end
end L2
namespace L2
open PySem PyProof.Rows
section
variable {prog : Program} {w : World} {A : Around} {E : Value → Shared → Prop}
abbrev metL (ns : List Int) (i : Nat) : List Int := firstMet (fun i => ns.getD i 0) i
theorem loop_G {R : Result → Shared → Prop} {l I S : Addr} {items : Array Value} {ns : List Int} (hh : A.in1.handled = none) (hlI : l ≠ I) (hSl : l ≠ S) (hSI : S ≠ I) (izs : IntsAre items.toList ns) (few : items.size + 1 < scanBound) : ∀ (k i : Nat) (s : Shared), items.size - i = k → i ≤ items.size → s.heap.IsListIter I l i → s.heap.IsList l items → SetO prog w s.heap S (fun x => (metL ns i).any (· == x)) (metL ns i).length →
    (∀ h' tk, (∀ b o, b ≠ S → b ≠ I → s.heap.get? b = some o → h'.get? b = some o) → SetO prog w h' S (fun x => (metL ns items.size).any (· == x)) (metL ns items.size).length → R (.ok (.ret .none)) { s with heap := h', toks := tk }) →
    codeAny (model prog w) A (.builtin "set.update.loop" ⟨[.ref S, .ref I], []⟩) R s := by
  intro k
  induction k with
  | zero =>
    intro i s hk hi it il so hR
    have e : i = items.size := by omega
    subst e
    refine codeAny_builtin PyProof.Rows.F.entry_set_update_loop ?_
    rw [Around.under_plainId PyProof.Rows.F.plain_set_update_loop _]
    show wpAny _ A.in1 (pyNext (.ref I) >>= _) _ _ s
    refine wpAny_bind (wpAny_pyNext_list_end hh it il (Array.getElem?_eq_none (Nat.le_refl _)) fun h' xb => ?_)
    show wpAny _ A.in1 (ret Value.none) _ _ _
    refine wpAny_pure (hR h' s.toks (fun b o _ hb e => xb b o hb e) ?_)
    obtain ⟨o, es, ep, t, g⟩ := so
    exact ⟨o, es, ep, t, xb S o hSI g.at_, g.ex, g.dat, g.els, g.mem, g.few, g.fit, g.len, g.tbl⟩
  | succ k ih =>
    intro i s hk hi it il so hR
    have hlt : i < items.size := by omega
    have hx : items[i]? = some items[i] := Array.getElem?_eq_getElem hlt
    obtain ⟨tk, ev⟩ := izs.int_at i items[i] (by rw [Array.getElem?_toList]; exact hx)
    refine codeAny_builtin PyProof.Rows.F.entry_set_update_loop ?_
    rw [Around.under_plainId PyProof.Rows.F.plain_set_update_loop _]
    show wpAny _ A.in1 (pyNext (.ref I) >>= _) _ _ s
    refine wpAny_bind (wpAny_pyNext_list_item it il hx fun h1 it1 sb => ?_)
    rw [ev]
    show wpAny _ A.in1 (holding [Value.int (ns.getD i 0) tk] (setAdd S (.int (ns.getD i 0) tk)) >>= _) _ _ _
    refine wpAny_bind (wpAny_holding ?_)
    unfold setAdd
    refine wpAny_holding (wpAny_bind ((intKind prog w).pyHash (k := ns.getD i 0) (intKind_is _ _ _ _) ?_))
    have so1 : SetO prog w h1 S (fun x => (metL ns i).any (· == x)) (metL ns i).length := by
      obtain ⟨o, es, ep, t, g⟩ := so
      exact ⟨o, es, ep, t, by rw [sb.2 S hSI]; exact g.at_, g.ex, g.dat, g.els, g.mem, g.few, g.fit, g.len, g.tbl⟩
    have hl := firstMet_length_le (fun i => ns.getD i 0) i
    refine add_G (s := { s with heap := h1, toks := s.toks + 1 }) so1 (Nat.lt_of_le_of_lt (Nat.add_le_add_right hl 1) (by omega)) fun h2 sb2 so2 => ?_
    have so3 : SetO prog w h2 S (fun x => (metL ns (i + 1)).any (· == x)) (metL ns (i + 1)).length := by
      have e1 : (fun x => (metL ns i).any (· == x) || decide (x = ns.getD i 0)) = fun x => (metL ns (i + 1)).any (· == x) := by
        funext x
        rw [show metL ns (i + 1) = step_dedup (metL ns i) (ns.getD i 0) from firstMet_succ _ i, step_any]
      have e2 : (if (metL ns i).any (· == ns.getD i 0) = true then (metL ns i).length else (metL ns i).length + 1) = (metL ns (i + 1)).length := by
        rw [show metL ns (i + 1) = step_dedup (metL ns i) (ns.getD i 0) from firstMet_succ _ i, step_length]
      rw [← e1, ← e2]
      exact so2
    refine wpAny_pure ⟨plainId_quiet PyProof.Rows.F.plain_set_update_loop _, ih (i + 1) _ (by omega) hlt ?_ ?_ so3 fun h3 tk3 kp so4 => hR h3 tk3 (fun b o b1 b2 e => kp b o b1 b2 ?_) so4⟩
    · obtain ⟨o, e, r⟩ := it1
      exact ⟨o, by show h2.get? I = some o; rw [sb2.2 I (Ne.symm hSI)]; exact e, r⟩
    · obtain ⟨o, e, r⟩ := il
      exact ⟨o, by show h2.get? l = some o; rw [sb2.2 l hSl]; show h1.get? l = some o; rw [sb.2 l hlI]; exact e, r⟩
    · show h2.get? b = some o
      rw [sb2.2 b b1]
      show h1.get? b = some o
      rw [sb.2 b b2]
      exact e
end
end L2
namespace L2
open PySem PyProof.Rows
section
variable {prog : Program} {w : World} {A : Around} {E : Value → Shared → Prop} {s : Shared}
abbrev setObj (w : World) : Obj := { cls := .type "set", dict := none, data := .set #[] 0 (.fresh 0 0 (!w.params.followText "set-order")) }
theorem new_G (x : Value) {Q₁ : Value → Shared → Prop} (h : Q₁ (.ref s.heap.objs.size) { s with heap := s.heap.push (setObj w) }) :
    codeAny (model prog w) A (.call (.builtin "set.__new__") ⟨[.type "set", x], []⟩) (wants Q₁ E) s := by
  refine codeAny_of_tree ?_
  show wpAny _ A.in1 (checkBuiltinCall "set.__new__" ⟨[.type "set", x], []⟩ >>= fun _ => again (.builtin "set.__new__" ⟨[.type "set", x], []⟩)) _ _ s
  refine wpAny_bind (wpAny_of_eq (PySem.F.newCall_set_1 x) (wpAny_pure ⟨plainId_quiet PySem.F.plain_set_new _, codeAny_builtin PySem.F.entry_set_new ?_⟩))
  rw [Around.under_plainId PySem.F.plain_set_new _]
  unfold Builtin.«set.__new__» Builtin.Frozenset.newClass
  have own := sub_set_self
  obtain ⟨hp, gn, dr, tk, os⟩ := s
  dsimp only
  wp_walk
  refine wpAny_askSetting (wpAny_pure ?_)
  dsimp only
  simp only [newObj]
  exact wpAny_bind (wpAny_alloc (wpAny_pure (wpAny_pure h)))
theorem set_G {l : Addr} {items : Array Value} {ns : List Int} {Q : Value → Shared → Prop} (hh : A.handled = none) (il : s.heap.IsList l items) (izs : IntsAre items.toList ns) (few : items.size + 1 < scanBound)
    (h : ∀ h' tk, SetO prog w h' s.heap.objs.size (fun x => (metL ns items.size).any (· == x)) (metL ns items.size).length → (∀ b o, s.heap.get? b = some o → h'.get? b = some o) → Q (.ref s.heap.objs.size) { s with heap := h', toks := tk }) :
    wpAny (model prog w) A (call (.type "set") [.ref l]) Q E s := by
  obtain ⟨c0, t0, mr⟩ := PySem.F.called_set.mro
  have md := PySem.F.called_set.made
  have sb := PySem.F.called_set.sub
  have nt := PySem.F.called_set.notType
  have cc := PySem.F.called_set.canCreate
  have tc := PySem.F.typeCall_set_1 (.ref l)
  refine wpAny_call (codeAny_of_tree ?_)
  show wpAny _ _ (callAny (.type "set") ⟨[.ref l], []⟩) _ _ _
  refine wpAny_pure ⟨Code.quiet_builtin _ (by decide +kernel), codeAny_builtin PySem.F.entry_type_call ?_⟩
  rw [Around.under_plain (weight_type_call_type "set" [.ref l] []) rfl]
  repeat any_goals (first | wp_step | assumption)
  refine codeAny_mono (new_G (.ref l) (E := E) (Q₁ := fun ob s₁ => ob = .ref s.heap.objs.size ∧ s₁ = { s with heap := s.heap.push (setObj w) }) ⟨rfl, rfl⟩) fun r s₁ hr => ?_
  cases r with
  | error e => exact hr
  | ok fl =>
    cases fl with
    | ret ob =>
      obtain ⟨rfl, rfl⟩ := hr
      have g0 : (s.heap.push (setObj w)).get? s.heap.objs.size = some (setObj w) := Heap.get?_push_size _ rfl
      have ty : Shared.TypeIs { s with heap := s.heap.push (setObj w) } (.ref s.heap.objs.size) "set" := ⟨_, g0, rfl⟩
      have li := PySem.F.called_set.init.lookup
      have bi := PySem.F.called_set.init.bind (.ref s.heap.objs.size)
      repeat any_goals (first | wp_step | assumption)
      refine codeAny_mono (codeAny_call_builtin (R := wants (fun r s₂ => r = .none ∧ ∃ h' tk, s₂ = { s with heap := h', toks := tk } ∧ SetO prog w h' s.heap.objs.size (fun x => (metL ns items.size).any (· == x)) (metL ns items.size).length ∧ ∀ b o, s.heap.get? b = some o → h'.get? b = some o) E) PySem.F.called_set.init.plain PySem.F.entry_set_init (check_set_init_1 ty ?_)) fun r₂ s₂ hr₂ => ?_
      · obtain ⟨⟨oc, od, odt, osl⟩, gl, cl, nl, dl⟩ := id il
        simp only at cl dl
        subst cl dl
        have gl1 : (s.heap.push (setObj w)).get? l = some { cls := .type "list", dict := od, data := .seq items nl, slots := osl } := Heap.get?_push_of_some _ gl
        have s1 := PySem.F.sub_list_set
        have s2 := PySem.F.sub_list_frozenset
        have s3 : (Value.type "list" == Value.type "dict") = false := by decide
        have il1 : (s.heap.push (setObj w)).IsList l items := ⟨_, gl1, rfl, nl, rfl⟩
        have zs : (s.heap.push (setObj w)).objs.size = s.heap.objs.size + 1 := Heap.size_push ..
        unfold Builtin.«set.__init__» noKeywords Builtin.Frozenset.updateFrom
        generalize hP : pyIter = PI
        wp_walk
        subst hP
        refine wpAny_pyIter_list il1 (wpAny_bind (wpAny_runValue ?_))
        have ll : l < s.heap.objs.size := Heap.lt_size gl
        refine loop_G (by simp [hh]) (by rw [zs]; exact Nat.ne_of_lt (Nat.lt_succ_of_lt ll)) (Nat.ne_of_lt ll) (by rw [zs]; exact Nat.ne_of_lt (Nat.lt_succ_self _)) izs few (items.size - 0) 0 _ rfl (Nat.zero_le _) ⟨_, Heap.get?_push_size _ rfl, rfl, rfl⟩ (il1.push _) ?_ fun h' tk kp so => ?_
        · exact ⟨_, #[], 0, _, Heap.get?_push_of_some _ g0, ⟨rfl, rfl, rfl⟩, rfl, (fun e he => by simp at he), (fun k => by simp [metL, firstMet]), by decide, rfl, rfl, rfl, List.Pairwise.nil⟩
        · show wpAny _ _ _ _ _ _
          refine wpAny_pure ?_
          show wpAny _ _ (ret Value.none) _ _ _
          refine wpAny_pure ⟨rfl, h', tk, rfl, so, fun b o e => kp b o (Nat.ne_of_lt (Heap.lt_size e)) ?_ (Heap.get?_push_of_some _ (Heap.get?_push_of_some _ e))⟩
          rw [zs]
          exact Nat.ne_of_lt (Nat.lt_succ_of_lt (Heap.lt_size e))
      · cases r₂ with
        | error e => exact hr₂
        | ok fl₂ =>
          cases fl₂ with
          | ret r =>
            obtain ⟨rfl, h', tk, rfl, so, kp⟩ := hr₂
            repeat any_goals (first | wp_step | assumption)
            exact h _ _ so kp
          | _ => exact hr₂.elim
    | _ => exact hr.elim
end
end L2
namespace L2
open PySem PyProof.Rows
namespace F9
theorem slot_next : Slot "set_iterator" "__next__" "set_iterator.__next__" := .of (owner := "set_iterator") (n := "__next__") (by rw [typeLookup_type, builtinLookup_eq_fast]; kernel_rfl) (by decide +kernel) (by decide +kernel) (by decide +kernel) (by first | exact .inl (by decide +kernel) | exact .inr (by decide +kernel)) (by rw [isSubtype_type]; kernel_rfl)
theorem entry_next : entryFor table "set_iterator.__next__" = some Builtin.«set_iterator.__next__» := entryFor_of_fast (by kernel_rfl)
theorem args_next (a : Value) : argsOk "set_iterator.__next__" ⟨[a], []⟩ := by unfold argsOk; kernel_rfl
theorem slot_self : Slot "set_iterator" "__iter__" "set_iterator.__iter__" := .of (owner := "set_iterator") (n := "__iter__") (by rw [typeLookup_type, builtinLookup_eq_fast]; kernel_rfl) (by decide +kernel) (by decide +kernel) (by decide +kernel) (by first | exact .inl (by decide +kernel) | exact .inr (by decide +kernel)) (by rw [isSubtype_type]; kernel_rfl)
theorem entry_self : entryFor table "set_iterator.__iter__" = some Builtin.«dict_keyiterator.__iter__» := entryFor_alias (id' := "dict_keyiterator.__iter__") (by kernel_rfl) rfl (by decide +kernel) (by kernel_rfl)
theorem args_self (a : Value) : argsOk "set_iterator.__iter__" ⟨[a], []⟩ := by unfold argsOk; kernel_rfl
theorem slot_iter : Slot "set" "__iter__" "set.__iter__" := .of (owner := "set") (n := "__iter__") (by rw [typeLookup_type, builtinLookup_eq_fast]; kernel_rfl) (by decide +kernel) (by decide +kernel) (by decide +kernel) (by first | exact .inl (by decide +kernel) | exact .inr (by decide +kernel)) (by rw [isSubtype_type]; kernel_rfl)
theorem entry_iter : entryFor table "set.__iter__" = some Builtin.«frozenset.__iter__» := entryFor_alias (id' := "frozenset.__iter__") (by kernel_rfl) rfl (by decide +kernel) (by kernel_rfl)
theorem args_iter (a : Value) : argsOk "set.__iter__" ⟨[a], []⟩ := by unfold argsOk; kernel_rfl
end F9
def SetIt (h : Heap) (I a : Addr) (fst : Value) (i n ep : Nat) : Prop := ∃ o, h.get? I = some o ∧ o.cls = .type "set_iterator" ∧ o.data = .fields #[fst, .int i 0, .ref a, .int n 0, .int ep 0]
section
variable {prog : Program} {w : World} {A : Around} {E : Value → Shared → Prop} {s : Shared} {I a : Addr} {i n ep : Nat} {o : Obj} {es : Array (Int × Value)} {t : SetTable} {S : Int → Bool} {fst : Value}
theorem SetIt.ty (it : SetIt s.heap I a fst i n ep) : s.TypeIs (.ref I) "set_iterator" := let ⟨o, e, c, _⟩ := it; ⟨o, e, c⟩
def Nxt (prog : Program) (w : World) (o : Obj) (a : Addr) (slot i ep : Nat) (r : Option (Value × Nat)) : Prop := ∀ (A : Around) (E : Value → Shared → Prop) (s : Shared) (Q : Option (Value × Nat) → Shared → Prop), s.heap.get? a = some o → Q r s → wpAny (model prog w) A (setNext a slot i ep) Q E s
theorem next_item {slot nx : Nat} {x : Value} {Q : Option Value → Shared → Prop} (it : SetIt s.heap I a (.int slot 0) i n ep) (g : SetG prog w s.heap a S n o es ep t) (ha : a ≠ I) (nt : Nxt prog w o a slot i ep (some (x, nx)))
    (hQ : ∀ h', SetIt h' I a (.int nx 0) (i + 1) n ep → Heap.SameBut I s.heap h' → Q (some x) { s with heap := h' }) : wpAny (model prog w) A (pyNext (.ref I)) Q E s := by
  have ty := it.ty
  obtain ⟨oi, gi, ci, di⟩ := id it
  unfold pyNext
  refine wpAny_bind (wpAny_attempt (wpAny_callSpecial?_slot (name := Str.ofString "__next__") ty F9.slot_next (wpAny_call_entry F9.slot_next ty F9.entry_next ?_ (F9.args_next _))))
  unfold Builtin.«set_iterator.__next__»
  refine wpAny_bind (wpAny_pure ?_)
  refine wpAny_bind (wpAny_fieldsOf gi di ?_)
  dsimp only
  refine wpAny_bind (wpAny_setEntries_of g.at_ g.dat g.fit ?_)
  rw [if_neg (by rw [g.len]; simp)]
  simp only [Int.toNat_natCast]
  refine wpAny_bind (nt _ _ _ _ g.at_ ?_)
  dsimp only
  refine wpAny_bind (wpAny_setField gi di (by simp) ?_)
  have g1 : (s.heap.update I (Obj.mapFields (·.setIfInBounds 0 (rawInt (nx : Int))))).get? I = some (oi.mapFields (·.setIfInBounds 0 (rawInt (nx : Int)))) := Heap.get?_update_self _ gi (Obj.isFreed_of_fields (Obj.data_mapFields di _))
  refine wpAny_bind (wpAny_setField g1 (Obj.data_mapFields di _) (by simp) (wpAny_pure ⟨x, rfl, wpAny_pure (hQ _ ?_ ((Heap.SameBut.update ..).trans (Heap.SameBut.update ..)))⟩))
  refine ⟨_, Heap.get?_update_self _ g1 (Obj.isFreed_of_fields (Obj.data_mapFields (Obj.data_mapFields di _) _)), ?_, ?_⟩
  · rw [Obj.cls_mapFields, Obj.cls_mapFields]; exact ci
  · rw [Obj.data_mapFields (Obj.data_mapFields di _)]
    simp [rawInt]
theorem next_end {slot : Nat} {Q : Option Value → Shared → Prop} (hh : A.handled = none) (it : SetIt s.heap I a (.int slot 0) i n ep) (g : SetG prog w s.heap a S n o es ep t) (ha : a ≠ I) (nt : Nxt prog w o a slot i ep none)
    (hQ : ∀ h', Heap.ExtBut I s.heap h' → Q none { s with heap := h' }) : wpAny (model prog w) A (pyNext (.ref I)) Q E s := by
  have ty := it.ty
  obtain ⟨oi, gi, ci, di⟩ := id it
  unfold pyNext
  refine wpAny_bind (wpAny_attempt (wpAny_callSpecial?_slot (name := Str.ofString "__next__") ty F9.slot_next (wpAny_call_entry F9.slot_next ty F9.entry_next ?_ (F9.args_next _))))
  unfold Builtin.«set_iterator.__next__»
  refine wpAny_bind (wpAny_pure ?_)
  refine wpAny_bind (wpAny_fieldsOf gi di ?_)
  dsimp only
  refine wpAny_bind (wpAny_setEntries_of g.at_ g.dat g.fit ?_)
  rw [if_neg (by rw [g.len]; simp)]
  simp only [Int.toNat_natCast]
  refine wpAny_bind (nt _ _ _ _ g.at_ ?_)
  dsimp only
  refine wpAny_bind (wpAny_setField gi di (by simp) ?_)
  refine wpAny_bind ?_
  simp only [newExc, newTuple]
  refine wpAny_bind (wpAny_newObj_type ?_ (by size_fits))
  refine wpAny_bind (m := firstArgMember _ _) (wpAny_of_eq (a := Value.none) (by first | rfl | (simp only [firstArgMember]; done)) ?_)
  refine wpAny_newObj_type ?_ (by size_fits)
  simp only [raiseNew]
  refine wpAny_bind (wpAny_handled ?_)
  rw [show A.in1.handled = none by simp [hh]]
  refine wpAny_bind (wpAny_pure (wpAny_throw ?_))
  refine wpAny_bind (wpAny_isInstance (T := "StopIteration") (b := true) ⟨_, Heap.get?_push_size _ rfl, rfl⟩ isSubtype_stop ?_)
  exact wpAny_pure (hQ _ (((Heap.SameBut.update ..).extBut.push _).push _))
theorem next_drawn {tp : Addr} {ps : Array Value} {np : Nat} {q : Nat} {x : Value} {hx : Int} {ot : Obj} {Q : Option Value → Shared → Prop} (it : SetIt s.heap I a (.ref tp) i n ep) (g : SetG prog w s.heap a S n o es ep t) (gt : s.heap.get? tp = some ot) (dt : ot.data = .seq ps np) (hp : ps[i]? = some (.int q 0)) (he : es[q]? = some (hx, x))
    (hQ : ∀ h', SetIt h' I a (.ref tp) (i + 1) n ep → Heap.SameBut I s.heap h' → Q (some x) { s with heap := h' }) : wpAny (model prog w) A (pyNext (.ref I)) Q E s := by
  have ty := it.ty
  obtain ⟨oi, gi, ci, di⟩ := id it
  unfold pyNext
  refine wpAny_bind (wpAny_attempt (wpAny_callSpecial?_slot (name := Str.ofString "__next__") ty F9.slot_next (wpAny_call_entry F9.slot_next ty F9.entry_next ?_ (F9.args_next _))))
  unfold Builtin.«set_iterator.__next__»
  refine wpAny_bind (wpAny_pure ?_)
  refine wpAny_bind (wpAny_fieldsOf gi di ?_)
  dsimp only
  refine wpAny_bind (wpAny_setEntries_of g.at_ g.dat g.fit ?_)
  rw [if_neg (by rw [g.len]; simp)]
  refine wpAny_bind (wpAny_seqItems gt dt ?_)
  simp only [Int.toNat_natCast, hp]
  unfold setNextDrawn
  refine wpAny_bind (wpAny_bind (wpAny_setState_of g.at_ g.dat g.fit ?_))
  simp only [bne_self_eq_false, Bool.false_eq_true, ↓reduceIte, he]
  refine wpAny_pure ?_
  refine wpAny_bind (wpAny_setField gi di (by simp) (wpAny_pure ⟨x, rfl, wpAny_pure (hQ _ ?_ (Heap.SameBut.update ..))⟩))
  refine ⟨_, Heap.get?_update_self _ gi (Obj.isFreed_of_fields (Obj.data_mapFields di _)), ?_, ?_⟩
  · rw [Obj.cls_mapFields]; exact ci
  · rw [Obj.data_mapFields di]
    simp [rawInt]
theorem end_drawn {tp : Addr} {ps : Array Value} {np : Nat} {ot : Obj} {Q : Option Value → Shared → Prop} (hh : A.handled = none) (it : SetIt s.heap I a (.ref tp) i n ep) (g : SetG prog w s.heap a S n o es ep t) (gt : s.heap.get? tp = some ot) (dt : ot.data = .seq ps np) (hp : ps[i]? = none)
    (hQ : ∀ h', Heap.ExtBut I s.heap h' → Q none { s with heap := h' }) : wpAny (model prog w) A (pyNext (.ref I)) Q E s := by
  have ty := it.ty
  obtain ⟨oi, gi, ci, di⟩ := id it
  unfold pyNext
  refine wpAny_bind (wpAny_attempt (wpAny_callSpecial?_slot (name := Str.ofString "__next__") ty F9.slot_next (wpAny_call_entry F9.slot_next ty F9.entry_next ?_ (F9.args_next _))))
  unfold Builtin.«set_iterator.__next__»
  refine wpAny_bind (wpAny_pure ?_)
  refine wpAny_bind (wpAny_fieldsOf gi di ?_)
  dsimp only
  refine wpAny_bind (wpAny_setEntries_of g.at_ g.dat g.fit ?_)
  rw [if_neg (by rw [g.len]; simp)]
  refine wpAny_bind (wpAny_seqItems gt dt ?_)
  simp only [Int.toNat_natCast, hp]
  have g1 : (s.heap.update I (Obj.mapFields (·.setIfInBounds 0 (rawInt 0)))).get? I = some (oi.mapFields (·.setIfInBounds 0 (rawInt 0))) := Heap.get?_update_self _ gi (Obj.isFreed_of_fields (Obj.data_mapFields di _))
  refine wpAny_bind (wpAny_setField gi di (by simp) ?_)
  refine wpAny_bind (wpAny_setField g1 (Obj.data_mapFields di _) (by simp) ?_)
  refine wpAny_bind ?_
  simp only [newExc, newTuple]
  refine wpAny_bind (wpAny_newObj_type ?_ (by size_fits))
  refine wpAny_bind (m := firstArgMember _ _) (wpAny_of_eq (a := Value.none) (by first | rfl | (simp only [firstArgMember]; done)) ?_)
  refine wpAny_newObj_type ?_ (by size_fits)
  simp only [raiseNew]
  refine wpAny_bind (wpAny_handled ?_)
  rw [show A.in1.handled = none by simp [hh]]
  refine wpAny_bind (wpAny_pure (wpAny_throw ?_))
  refine wpAny_bind (wpAny_isInstance (T := "StopIteration") (b := true) ⟨_, Heap.get?_push_size _ rfl, rfl⟩ isSubtype_stop ?_)
  exact wpAny_pure (hQ _ ((((Heap.SameBut.update ..).trans (Heap.SameBut.update ..)).extBut.push _).push _))
theorem self_it {Q : Value → Shared → Prop} (it : SetIt s.heap I a fst i n ep) (h : Q (.ref I) s) : wpAny (model prog w) A (pyIter (.ref I)) Q E s := by
  refine wpAny_pyIter_slot it.ty F9.slot_self (wpAny_call_entry F9.slot_self it.ty F9.entry_self ?_ (F9.args_self _))
  show wpAny _ _ (ret (.ref I)) _ _ s
  exact wpAny_pure ⟨_, rfl, "set_iterator", _, it.ty, F9.slot_next.lookup, h⟩
end
end L2
namespace L2
open PySem PyProof.Rows
section
variable {prog : Program} {w : World} {A : Around} {E : Value → Shared → Prop} {s : Shared} {I a : Addr} {i n ep : Nat} {o : Obj} {es : Array (Int × Value)} {t : SetTable} {S : Int → Bool}
theorem SetG.move {h h' : Heap} (g : SetG prog w h a S n o es ep t) (e : h'.get? a = some o) : SetG prog w h' a S n o es ep t := ⟨e, g.ex, g.dat, g.els, g.mem, g.few, g.fit, g.len, g.tbl⟩
theorem erase_perm {α : Type} : ∀ {l : List α} {i : Nat} (h : i < l.length), (l[i] :: l.eraseIdx i).Perm l
  | [], i, h => absurd h (by simp)
  | a :: l, 0, h => List.Perm.refl _
  | a :: l, i + 1, h => by
    show (l[i]'(by simpa using h) :: a :: l.eraseIdx i).Perm (a :: l)
    exact (List.Perm.swap _ _ _).trans (List.Perm.cons _ (erase_perm _))
theorem pick_perm {α : Type} (next : Nat → Nat) : ∀ (fuel k : Nat) (left : List α) (out : Array α), left.length = fuel → (pickOrder.go next fuel k left out).toList.Perm (out.toList ++ left)
  | 0, k, left, out, h => by
    have : left = [] := List.eq_nil_of_length_eq_zero h
    subst this
    unfold pickOrder.go
    rw [List.append_nil]
  | fuel + 1, k, left, out, h => by
    have hl : next k % left.length < left.length := Nat.mod_lt _ (by omega)
    unfold pickOrder.go
    rw [List.getElem?_eq_getElem hl]
    dsimp only
    refine (pick_perm next fuel (k + 1) _ _ (by rw [List.length_eraseIdx, if_pos hl]; omega)).trans ?_
    rw [Array.toList_push, List.append_assoc]
    exact List.Perm.append_left _ (erase_perm hl)
theorem pickOrder_perm (next : Nat → Nat) (xs : Array (Int × Value)) : (pickOrder next xs).toList.Perm xs.toList := by
  have := pick_perm next xs.size 0 xs.toList #[] (by simp)
  simpa [pickOrder] using this
theorem draw_perm {α : Type} {Q : List α → Shared → Prop} : ∀ (k : Nat) (xs : List α) (s : Shared), xs.length = k → (∀ ys d, ys.Perm xs → Q ys { s with drawn := d }) → wpAny (model prog w) A (drawOrder k xs) Q E s
  | 0, xs, s, h, hQ => by
    have : xs = [] := List.eq_nil_of_length_eq_zero h
    subst this
    unfold drawOrder
    exact wpAny_pure (hQ [] s.drawn (List.Perm.refl _))
  | k + 1, [], s, h, hQ => by cases h
  | k + 1, x :: r, s, h, hQ => by
    unfold drawOrder
    refine wpAny_bind ?_
    intro Γ p hΓ
    unfold choose
    rw [Sem.wp_choose]
    refine ⟨by simp, ?_⟩
    have hl : (model prog w).w.draws .order (s.drawn.get .order) % (x :: r).length < (x :: r).length := Nat.mod_lt _ (by simp)
    generalize (model prog w).w.draws .order (s.drawn.get .order) % (x :: r).length = q at hl
    have : wpAny (model prog w) A (pure q) (fun q' s' => q' = q ∧ s' = { s with drawn := s.drawn.bump .order } → True) E { s with drawn := s.drawn.bump .order } := wpAny_pure fun _ => trivial
    refine (wpAny_pure (M := model prog w) (A := A) (E := E) (a := q) (s := { s with drawn := s.drawn.bump .order }) ?_) Γ p hΓ
    rw [List.getElem?_eq_getElem hl]
    dsimp only
    refine wpAny_bind (draw_perm k _ _ (by rw [List.length_eraseIdx, if_pos hl]; simp at h ⊢; omega) fun ys d hp => wpAny_pure ?_)
    exact hQ _ d ((List.Perm.cons _ hp).trans (erase_perm hl))
theorem nxt_text (hb : w.params.followText "set-order" = true) (g : SetG prog w s.heap a S n o es ep t) (slot i : Nat) : Nxt prog w o a slot i ep (((pickOrder (w.params.setOrder a ep) es)[i]?).map fun e => (e.2, slot)) := by
  intro A E s' Q e hQ
  unfold setNext
  refine wpAny_bind (wpAny_setState_of e g.dat g.fit ?_)
  dsimp only
  unfold setsByText
  refine wpAny_bind (wpAny_bind (wpAny_askSetting (wpAny_pure ?_)))
  rw [show (model prog w).w.params.followText "set-order" = true from hb]
  simp only [↓reduceIte, bne_self_eq_false, Bool.false_eq_true]
  refine wpAny_bind ?_
  unfold setWalk
  refine wpAny_bind (wpAny_setState_of e g.dat g.fit ?_)
  dsimp only
  unfold setsByText
  refine wpAny_bind (wpAny_bind (wpAny_askSetting (wpAny_pure ?_)))
  rw [show (model prog w).w.params.followText "set-order" = true from hb]
  simp only [↓reduceIte]
  exact wpAny_bind (wpAny_askSetting (wpAny_pure (wpAny_pure hQ)))
def slAt (t : SetTable) : Nat → Nat
  | 0 => 0
  | i + 1 => t.place.getD i 0 + 1
theorem below_at {t : SetTable} (R : Rise t.place) : ∀ i, i ≤ t.place.size → SetTable.below t.place (slAt t i) = i := fun i hi => by
  obtain ⟨b1, b2, b3⟩ := below_spec R (slAt t i)
  generalize SetTable.below t.place (slAt t i) = p at b1 b2 b3
  cases i with
  | zero =>
    cases p with
    | zero => rfl
    | succ p =>
      have := b2 0 (by omega) (by omega)
      exact absurd this (by show ¬ _ < 0; omega)
  | succ i =>
    have hi' : i < t.place.size := hi
    have eg : t.place.getD i 0 = t.place[i] := by rw [Array.getD_eq_getD_getElem?, Array.getElem?_eq_getElem hi']; rfl
    have es : slAt t (i + 1) = t.place[i] + 1 := by show t.place.getD i 0 + 1 = _; rw [eg]
    rw [es] at b2 b3
    by_cases c : p ≤ i
    · have := b3 i hi' c
      omega
    · by_cases c2 : p = i + 1
      · exact c2
      · have hp : i + 1 < t.place.size := by omega
        have h1 := b2 (i + 1) hp (by omega)
        have h2 := R.lt (a := i) (b := i + 1) (by omega) hp
        omega
theorem nxt_led (hb : w.params.followText "set-order" = false) (g : SetG prog w s.heap a S n o es ep t) (hd : (!t.plain && decide (es.size > 1)) = false) (i : Nat) (hi : i ≤ n) : Nxt prog w o a (slAt t i) i ep (match es[i]? with | some e => some (e.2, slAt t (i + 1)) | none => none) := by
  intro A E s' Q e hQ
  have tb := g.tbl
  rw [hb] at tb
  have sz : t.place.size = es.size := by
    have f := g.fit
    simp only [SetTable.fits, Bool.and_eq_true, beq_iff_eq] at f
    exact f.1
  unfold setNext
  refine wpAny_bind (wpAny_setState_of e g.dat g.fit ?_)
  dsimp only
  unfold setsByText
  refine wpAny_bind (wpAny_bind (wpAny_askSetting (wpAny_pure ?_)))
  rw [show (model prog w).w.params.followText "set-order" = false from hb]
  simp only [Bool.false_eq_true, ↓reduceIte]
  split
  · rename_i c
    have c' : (!t.plain && decide (es.size > 1)) = true := c
    rw [hd] at c'
    cases c'
  refine wpAny_bind (wpAny_of_eq (a := ()) ?_ ?_)
  · show (if (!t.led && !es.isEmpty) = true then _ else _) = _
    rw [tb.1]
    rfl
  rw [below_at tb.2 i (by rw [sz, g.len]; exact hi)]
  by_cases c : i < es.size
  · have c2 : i < t.place.size := by rw [sz]; exact c
    rw [Array.getElem?_eq_getElem c, Array.getElem?_eq_getElem c2]
    rw [Array.getElem?_eq_getElem c] at hQ
    refine wpAny_pure ?_
    have eg : t.place.getD i 0 = t.place[i] := by rw [Array.getD_eq_getD_getElem?, Array.getElem?_eq_getElem c2]; rfl
    have : slAt t (i + 1) = t.place[i] + 1 := by show t.place.getD i 0 + 1 = _; rw [eg]
    dsimp only at hQ
    rw [this] at hQ
    exact hQ
  · have e0 : es[i]? = none := Array.getElem?_eq_none (by omega)
    rw [e0] at hQ ⊢
    exact wpAny_pure hQ
end
end L2
namespace L2
open PySem PyProof.Rows
section
variable {prog : Program} {w : World} {A : Around} {E : Value → Shared → Prop} {s : Shared} {I a : Addr} {i n ep : Nat} {o : Obj} {es : Array (Int × Value)} {t : SetTable} {S : Int → Bool}
theorem SetIt.at {h h' : Heap} {fst : Value} (it : SetIt h I a fst i n ep) (e : ∀ o, h.get? I = some o → h'.get? I = some o) : SetIt h' I a fst i n ep := let ⟨o, g, r⟩ := it; ⟨o, e o g, r⟩
theorem walk_slots {L : List (Int × Value)} {sl : Nat → Nat} {h0 : Heap} (hh : A.handled = none) (g : SetG prog w h0 a S n o es ep t) (ha : a ≠ I) (hL : L.length = n) (nx : ∀ i (h : i < n), Nxt prog w o a (sl i) i ep (some ((L[i]'(by omega)).2, sl (i + 1)))) (nn : Nxt prog w o a (sl n) n ep none) :
    WalksS prog w A I [I, a] [I] (fun x y => y = x) n (fun i v => (L.map (·.2))[i]? = some v) (fun i s => s.heap.get? a = some o ∧ SetIt s.heap I a (.int (sl i) 0) i n ep) where
  sub := fun b hb => by rw [List.mem_singleton.mp hb]; simp
  grefl := fun _ => rfl
  gtrans := fun _ _ _ h1 h2 => h2.trans h1
  frame := fun i s h' tk st _ hk => ⟨hk a (by simp) o st.1, st.2.at fun o e => hk I (by simp) o e⟩
  item := fun i s Q E hi st hQ => next_item st.2 (g.move st.1) ha (nx i hi) fun h' it' sb => hQ _ _ (by rw [List.getElem?_map, List.getElem?_eq_getElem (by omega)]; rfl) ⟨by show h'.get? a = some o; rw [sb.2 a ha]; exact st.1, it'⟩ ⟨fun b o hb e => by show h'.get? b = some o; rw [sb.2 b (fun z => hb (by rw [z]; simp))]; exact e, rfl, rfl, rfl, Nat.le_refl _⟩
  done := fun s Q E st hQ => next_end hh st.2 (g.move st.1) ha nn fun h' xb => hQ _ ⟨fun b o hb e => xb b o (fun z => hb (by rw [z]; simp)) e, rfl, rfl, rfl, Nat.le_refl _⟩
  self := fun i s Q E st h => self_it st.2 h
theorem walk_drawn {tp : Addr} {qs : List Nat} {ot : Obj} {np : Nat} {h0 : Heap} (hh : A.handled = none) (g : SetG prog w h0 a S n o es ep t) (ha : a ≠ I) (ht : tp ≠ I) (dt : ot.data = .seq (qs.map fun (q : Nat) => Value.int (q : Int) 0).toArray np) (hq : qs.length = n) (hin : ∀ q ∈ qs, q < es.size) :
    WalksS prog w A I [I, a, tp] [I] (fun x y => y = x) n (fun i v => ((qs.filterMap fun q => es[q]?).map (·.2))[i]? = some v) (fun i s => s.heap.get? a = some o ∧ SetIt s.heap I a (.ref tp) i n ep ∧ s.heap.get? tp = some ot) where
  sub := fun b hb => by rw [List.mem_singleton.mp hb]; simp
  grefl := fun _ => rfl
  gtrans := fun _ _ _ h1 h2 => h2.trans h1
  frame := fun i s h' tk st _ hk => ⟨hk a (by simp) o st.1, st.2.1.at fun o e => hk I (by simp) o e, hk tp (by simp) ot st.2.2⟩
  item := fun i s Q E hi st hQ => by
    have hi' : i < qs.length := by omega
    have hlt := hin qs[i] (List.getElem_mem hi')
    have ee : es[qs[i]]? = some es[qs[i]] := Array.getElem?_eq_getElem hlt
    have fm : ∀ (l : List Nat), (∀ q ∈ l, q < es.size) → ∀ j (hj : j < l.length), (l.filterMap fun q => es[q]?)[j]? = es[l[j]]? := by
      intro l
      induction l with
      | nil => intro _ j hj; simp at hj
      | cons x r ih =>
        intro hx j hj
        have hxx := hx x (List.mem_cons_self ..)
        have h1 : es[x]? = some es[x] := Array.getElem?_eq_getElem hxx
        rw [List.filterMap_cons, h1]
        cases j with
        | zero => simp [h1]
        | succ j =>
          simp only [List.getElem?_cons_succ, List.getElem_cons_succ]
          exact ih (fun q hq => hx q (List.mem_cons_of_mem _ hq)) j (by simpa using hj)
    refine next_drawn (q := qs[i]) (x := (es[qs[i]]).2) (hx := (es[qs[i]]).1) st.2.1 (g.move st.1) st.2.2 dt (by simp [hi']) ee fun h' it' sb => hQ _ _ ?_ ⟨?_, it', ?_⟩ ⟨fun b o hb e => ?_, rfl, rfl, rfl, Nat.le_refl _⟩
    · rw [List.getElem?_map, fm qs hin i hi', ee]; rfl
    · show h'.get? a = some o; rw [sb.2 a ha]; exact st.1
    · show h'.get? tp = some ot; rw [sb.2 tp ht]; exact st.2.2
    · show h'.get? b = some o; rw [sb.2 b (fun z => hb (by rw [z]; simp))]; exact e
  done := fun s Q E st hQ => end_drawn hh st.2.1 (g.move st.1) st.2.2 dt (by simp [hq]) fun h' xb => hQ _ ⟨fun b o hb e => xb b o (fun z => hb (by rw [z]; simp)) e, rfl, rfl, rfl, Nat.le_refl _⟩
  self := fun i s Q E st h => self_it st.2.1 h
def Ready (prog : Program) (w : World) (a : Addr) (n : Nat) (L : List (Int × Value)) (z : Nat) (I : Addr) (s' : Shared) : Prop :=
  ∃ fp St, (∀ A : Around, A.handled = none → WalksS prog w A I fp [I] (fun x y => y = x) n (fun i v => (L.map (·.2))[i]? = some v) St) ∧ St 0 s' ∧ I ∈ fp ∧ z ≤ I ∧ ∀ b ∈ fp, b = a ∨ (z ≤ b ∧ b < s'.heap.objs.size)
theorem drawn_of {b : Bool} {Q : Bool → Shared → Prop} (g : SetG prog w s.heap a S n o es ep t) (hb : (!w.params.followText "set-order" && (!t.plain && decide (es.size > 1))) = b) (h : Q b s) : wpAny (model prog w) A (setDrawn a) Q E s := by
  unfold setDrawn
  refine wpAny_bind (wpAny_setState_of g.at_ g.dat g.fit ?_)
  dsimp only
  unfold setsByText
  refine wpAny_bind (wpAny_bind (wpAny_askSetting (wpAny_pure (wpAny_pure ?_))))
  subst hb
  exact h
theorem range_es (es : Array (Int × Value)) : ((List.range es.size).filterMap fun q => es[q]?) = es.toList := by
  refine List.ext_getElem? fun j => ?_
  have fm : ∀ (k : Nat), k ≤ es.size → ((List.range k).filterMap fun q => es[q]?) = es.toList.take k := by
    intro k
    induction k with
    | zero => intro _; rfl
    | succ k ih =>
      intro hk
      have h1 : es[k]? = some es[k] := Array.getElem?_eq_getElem hk
      rw [List.range_succ, List.filterMap_append, ih (by omega), List.take_add_one]
      congr 1
      simp [h1]
  rw [fm es.size (Nat.le_refl _), List.take_of_length_le (by simp)]
theorem iter_set {Q : Value → Shared → Prop} (g : SetG prog w s.heap a S n o es ep t) (hn : n ≤ sizeLine)
    (hQ : ∀ I s' L, L.Perm es.toList → Ready prog w a n L s.heap.objs.size I s' → (∀ b o, s.heap.get? b = some o → s'.heap.get? b = some o) → s'.gens = s.gens → s'.os = s.os → s'.toks = s.toks → s.heap.objs.size ≤ s'.heap.objs.size → Q (.ref I) s') : wpAny (model prog w) A (pyIter (.ref a)) Q E s := by
  have ty : s.TypeIs (.ref a) "set" := ⟨o, g.at_, g.ex.1⟩
  have al : a < s.heap.objs.size := Heap.lt_size g.at_
  refine wpAny_pyIter_slot ty F9.slot_iter (wpAny_call_entry F9.slot_iter ty F9.entry_iter ?_ (F9.args_iter _))
  unfold Builtin.«frozenset.__iter__» Builtin.Frozenset.slot0 slotArgs
  simp only [List.isEmpty_nil, Bool.not_true, Bool.false_eq_true, ↓reduceIte, bind_assoc, List.length_nil, bne_self_eq_false]
  unfold Builtin.Frozenset.addrOf Builtin.Frozenset.sizeOf
  refine wpAny_bind (wpAny_pure ?_)
  dsimp only
  refine wpAny_bind (wpAny_pure ?_)
  refine wpAny_bind (wpAny_bind (wpAny_setEntries_of g.at_ g.dat g.fit (wpAny_pure ?_)))
  refine wpAny_bind (drawn_of g rfl ?_)
  have ln := g.len
  cases hdr : (!w.params.followText "set-order" && (!t.plain && decide (es.size > 1))) with
  | true =>
    simp only [↓reduceIte]
    refine wpAny_bind (draw_perm es.size (List.range es.size) s (by simp) fun qs d hp => ?_)
    have lq : qs.length = n := by rw [hp.length_eq, List.length_range, ln]
    simp only [newTuple]
    refine wpAny_bind (wpAny_newObj_type ?_ (by show (qs.map fun (i : Nat) => rawInt (i : Int)).toArray.size ≤ sizeLine; simp [lq]; exact hn))
    have g1 := g.move (h' := s.heap.push { cls := .type "tuple", data := .seq (qs.map fun (i : Nat) => rawInt (i : Int)).toArray }) (Heap.get?_push_of_some _ g.at_)
    have zs : (s.heap.push { cls := .type "tuple", data := .seq (qs.map fun (i : Nat) => rawInt (i : Int)).toArray }).objs.size = s.heap.objs.size + 1 := Heap.size_push ..
    refine wpAny_bind (wpAny_setEpoch_of g1.at_ g1.dat g1.fit ?_)
    refine wpAny_bind (wpAny_newObj_type (wpAny_pure ⟨_, rfl, "set_iterator", _, ⟨_, Heap.get?_push_size _ rfl, rfl⟩, F9.slot_next.lookup, ?_⟩))
    refine hQ _ _ (qs.filterMap fun q => es[q]?) ((hp.filterMap _).trans (by rw [range_es])) ⟨_, _, fun A hh => walk_drawn (tp := s.heap.objs.size) (np := 0) (ot := { cls := .type "tuple", data := .seq (qs.map fun (i : Nat) => rawInt (i : Int)).toArray }) hh g ?_ ?_ rfl lq (fun q hq => List.mem_range.mp (hp.mem_iff.mp hq)), ⟨?_, ⟨_, Heap.get?_push_size _ rfl, rfl, ?_⟩, ?_⟩, ?_, ?_, ?_⟩ ?_ rfl rfl rfl ?_
    · rw [zs]; exact Nat.ne_of_lt (Nat.lt_succ_of_lt al)
    · rw [zs]; exact Nat.ne_of_lt (Nat.lt_succ_self _)
    · exact Heap.get?_push_of_some _ (Heap.get?_push_of_some _ g.at_)
    · rw [ln]; rfl
    · exact Heap.get?_push_of_some _ (Heap.get?_push_size _ rfl)
    · simp
    · rw [zs]; exact Nat.le_succ _
    · intro b hb
      simp only [List.mem_cons, List.not_mem_nil, or_false] at hb
      rcases hb with rfl | rfl | rfl
      · exact .inr ⟨by rw [zs]; exact Nat.le_succ _, Nat.lt_of_lt_of_eq (Nat.lt_succ_self _) (Heap.size_push ..).symm⟩
      · exact .inl rfl
      · exact .inr ⟨Nat.le_refl _, Nat.lt_of_lt_of_eq (Nat.lt_succ_of_lt (Nat.lt_of_lt_of_eq (Nat.lt_succ_self _) zs.symm)) (Heap.size_push ..).symm⟩
    · exact fun b o e => Heap.get?_push_of_some _ (Heap.get?_push_of_some _ e)
    · exact Nat.le_of_lt (Nat.lt_of_lt_of_eq (Nat.lt_succ_of_lt (Nat.lt_of_lt_of_eq (Nat.lt_succ_self _) zs.symm)) (Heap.size_push ..).symm)
  | false =>
    simp only [Bool.false_eq_true, ↓reduceIte]
    refine wpAny_bind (wpAny_pure ?_)
    refine wpAny_bind (wpAny_setEpoch_of g.at_ g.dat g.fit ?_)
    refine wpAny_bind (wpAny_newObj_type (wpAny_pure ⟨_, rfl, "set_iterator", _, ⟨_, Heap.get?_push_size _ rfl, rfl⟩, F9.slot_next.lookup, ?_⟩))
    have hne : a ≠ s.heap.objs.size := Nat.ne_of_lt al
    cases hb : w.params.followText "set-order" with
    | true =>
      have pm := pickOrder_perm (w.params.setOrder a ep) es
      have lp : (pickOrder (w.params.setOrder a ep) es).toList.length = n := by rw [pm.length_eq, Array.length_toList, ln]
      refine hQ _ _ (pickOrder (w.params.setOrder a ep) es).toList pm ⟨[s.heap.objs.size, a], _, fun A hh => walk_slots (sl := fun _ => 0) hh g hne lp (fun i hi => ?_) ?_, ⟨Heap.get?_push_of_some _ g.at_, ⟨_, Heap.get?_push_size _ rfl, rfl, ?_⟩⟩, by simp, Nat.le_refl _, fun b hb => ?_⟩ (fun b o e => Heap.get?_push_of_some _ e) rfl rfl rfl ?_
      · have r := nxt_text hb g 0 i
        have hi' : i < (pickOrder (w.params.setOrder a ep) es).size := by rw [← Array.length_toList, lp]; exact hi
        rw [Array.getElem?_eq_getElem hi'] at r
        simpa using r
      · have r := nxt_text hb g 0 n
        rw [Array.getElem?_eq_none (by rw [← Array.length_toList, lp]; exact Nat.le_refl _)] at r
        exact r
      · rw [ln]; rfl
      · simp only [List.mem_cons, List.not_mem_nil, or_false] at hb
        rcases hb with rfl | rfl
        · exact .inr ⟨Nat.le_refl _, by rw [Heap.size_push]; exact Nat.lt_succ_self _⟩
        · exact .inl rfl
      · rw [Heap.size_push]; exact Nat.le_succ _
    | false =>
      rw [hb] at hdr
      refine hQ _ _ es.toList (List.Perm.refl _) ⟨[s.heap.objs.size, a], _, fun A hh => walk_slots (sl := slAt t) hh g hne (by rw [Array.length_toList, ln]) (fun i hi => ?_) ?_, ⟨Heap.get?_push_of_some _ g.at_, ⟨_, Heap.get?_push_size _ rfl, rfl, ?_⟩⟩, by simp, Nat.le_refl _, fun b hb => ?_⟩ (fun b o e => Heap.get?_push_of_some _ e) rfl rfl rfl ?_
      · have r := nxt_led hb g (by simpa using hdr) i (Nat.le_of_lt hi)
        rw [Array.getElem?_eq_getElem (by omega)] at r
        simpa using r
      · have r := nxt_led hb g (by simpa using hdr) n (Nat.le_refl _)
        rw [Array.getElem?_eq_none (by omega)] at r
        exact r
      · rw [ln]; rfl
      · simp only [List.mem_cons, List.not_mem_nil, or_false] at hb
        rcases hb with rfl | rfl
        · exact .inr ⟨Nat.le_refl _, by rw [Heap.size_push]; exact Nat.lt_succ_self _⟩
        · exact .inl rfl
      · rw [Heap.size_push]; exact Nat.le_succ _
end
end L2
namespace L2
open PySem PyProof.Rows
section
variable {prog : Program} {w : World} {A : Around} {E : Value → Shared → Prop} {s : Shared} {a : Addr} {i n ep : Nat} {o : Obj} {es : Array (Int × Value)} {t : SetTable} {S : Int → Bool}
theorem collect_set {Q : List Value → Shared → Prop} (hh : A.handled = none) (g : SetG prog w s.heap a S n o es ep t) (hn : n ≤ sizeLine)
    (hQ : ∀ (L : List (Int × Value)) (s' : Shared), L.Perm es.toList → (∀ b o, s.heap.get? b = some o → s'.heap.get? b = some o) → s'.gens = s.gens → s'.os = s.os → s.toks ≤ s'.toks → Q (L.map (·.2)) s') : wpAny (model prog w) A (collect (.ref a)) Q E s := by
  have al : a < s.heap.objs.size := Heap.lt_size g.at_
  unfold collect
  refine wpAny_bind (wpAny_runValue (codeAny_builtin PySem.F.entry_proto_collect ?_))
  rw [Around.under_plainId PySem.F.plain_proto_collect _]
  show wpAny _ A.in1 (newList [] >>= fun l => again (.builtin "list.__iadd__" ⟨[l, .ref a], []⟩)) _ _ s
  refine wpAny_bind (wpAny_newObj_type (wpAny_pure ⟨plainId_quiet PySem.F.plain_list_iadd _, codeAny_builtin PySem.F.entry_list_iadd ?_⟩))
  rw [Around.under_plainId PySem.F.plain_list_iadd _]
  have g1 := g.move (h' := s.heap.push { cls := .type "list", data := .seq ([] : List Value).toArray }) (Heap.get?_push_of_some _ g.at_)
  have l1 : (s.heap.push { cls := .type "list", data := .seq ([] : List Value).toArray }).get? s.heap.objs.size = some { cls := .type "list", data := .seq ([] : List Value).toArray } := Heap.get?_push_size _ rfl
  have zs : (s.heap.push { cls := .type "list", data := .seq ([] : List Value).toArray }).objs.size = s.heap.objs.size + 1 := Heap.size_push ..
  have ne : Builtin.List.listSameRef (.ref s.heap.objs.size) (.ref a) = false := by
    have : s.heap.objs.size ≠ a := Nat.ne_of_gt al
    simp [Builtin.List.listSameRef, this]
  show wpAny _ A.in1 (Builtin.List.listExtendWith (.ref s.heap.objs.size) (.ref a) (.ref s.heap.objs.size)) _ _ _
  unfold Builtin.List.listExtendWith
  have ty1 : Shared.TypeIs { s with heap := s.heap.push { cls := .type "list", data := .seq ([] : List Value).toArray } } (.ref a) "set" := ⟨o, g1.at_, g.ex.1⟩
  refine wpAny_bind (wpAny_typeOf ty1 ?_)
  rw [if_neg (by rw [ne]; decide)]
  refine wpAny_bind (iter_set g1 hn fun I s' L pm rd kp eg eo et zz => ?_)
  have ty2 : s'.TypeIs (.ref a) "set" := ⟨o, kp _ _ g1.at_, g.ex.1⟩
  refine wpAny_bind (wpAny_holding ?_)
  unfold Builtin.List.listLengthHint
  refine wpAny_bind (wpAny_specialOf ty2 PySem.F.slot_set_len.lookup ?_)
  have sp : splitId "set.__len__" = some ("set", "__len__") := by decide +kernel
  simp only [sp]
  refine wpAny_bind (wpAny_isInstance (b := true) ty2 (by rw [isSubtype_type]; kernel_rfl) ?_)
  simp only [Bool.not_true, Bool.false_eq_true, ↓reduceIte]
  rw [if_pos (by decide +kernel)]
  refine wpAny_bind (wpAny_typeOf ty2 ?_)
  refine wpAny_pure ?_
  rw [if_pos (by decide +kernel)]
  refine wpAny_bind (wpAny_rule ?_)
  obtain ⟨fp, St, W, st0, mI, zI, hfp⟩ := rd
  have hzs : s.heap.objs.size < I := by
    have : (s.heap.push { cls := .type "list", data := .seq ([] : List Value).toArray }).objs.size ≤ I := zI
    rw [zs] at this
    exact this
  have Sf : s.heap.objs.size ∉ fp := fun m => by
    rcases hfp _ m with e | ⟨e, _⟩
    · exact absurd e (Nat.ne_of_gt al)
    · have : (s.heap.push { cls := .type "list", data := .seq ([] : List Value).toArray }).objs.size ≤ s.heap.objs.size := e
      rw [zs] at this
      exact absurd this (Nat.not_succ_le_self _)
  have lp := kp _ _ l1
  unfold Builtin.List.listTouch
  refine wpAny_bind (wpAny_bind (listUpdate_at lp rfl ?_ (by rw [sizeLine_eq]; decide) (by rw [sizeLine_eq]; decide)))
  have lp2 := Heap.get?_update_self (Obj.mapSeq (fun xs => xs.push .none)) lp rfl
  refine listUpdate_at (xs := #[.none]) (n := 1) lp2 rfl ?_ (by rw [sizeLine_eq]; decide) (by rw [sizeLine_eq]; decide)
  have lp3 := Heap.get?_update_self (Obj.mapSeq (fun xs => xs.pop)) lp2 rfl
  have hk : ∀ b, b ≠ s.heap.objs.size → ∀ o, s'.heap.get? b = some o → ((s'.heap.update s.heap.objs.size (Obj.mapSeq (fun xs => xs.push .none))).update s.heap.objs.size (Obj.mapSeq (fun xs => xs.pop))).get? b = some o := fun b hb o e => by
    rw [Heap.get?_update_other _ _ (Ne.symm hb), Heap.get?_update_other _ _ (Ne.symm hb)]
    exact e
  have st1 := (W A.in1 (by simp [hh])).frame 0 s' _ s'.toks st0 (Nat.le_refl _) fun b hb o e => hk b (fun z => Sf (z ▸ hb)) o e
  refine wpAny_pure ⟨plainId_quiet PySem.F.plain_extend_loop _, codeAny_extend_loopS (W A.in1 (by simp [hh])) hn s.heap.objs.size Sf (.ref s.heap.objs.size) n 0 _ #[] 2 rfl (Nat.zero_le _) st1 lp3 (ItemsOf.nil _) fun s3 acc c mv l3 it => ?_⟩
  show wpAny _ A (load s.heap.objs.size >>= _) _ _ s3
  refine wpAny_bind (wpAny_load l3 (wpAny_pure ?_))
  have ln : (L.map (·.2)).length = n := by rw [List.length_map, pm.length_eq, Array.length_toList, g.len]
  have ea : acc.toList = L.map (·.2) := by
    refine List.ext_getElem? fun j => ?_
    by_cases hj : j < n
    · have h1 : acc.toList[j]? = some (acc[j]'(by rw [it.1]; exact hj)) := by simp [hj, it.1]
      rw [h1]
      exact (it.2 j _ (by simp [hj, it.1])).symm
    · rw [List.getElem?_eq_none (by rw [Array.length_toList, it.1]; omega), List.getElem?_eq_none (by omega)]
  rw [ea]
  refine hQ L s3 pm (fun b o e => ?_) ?_ ?_ ?_
  · have hb : b < s.heap.objs.size := Heap.lt_size e
    refine mv.heap b o ?_ (hk b (Nat.ne_of_lt hb) o (kp b o (Heap.get?_push_of_some _ e)))
    simp only [List.mem_cons, List.not_mem_nil, or_false, not_or]
    exact ⟨Nat.ne_of_lt hb, Nat.ne_of_lt (Nat.lt_trans hb hzs)⟩
  · rw [mv.gens]; exact eg
  · rw [mv.os]; exact eo
  · have := mv.toks
    exact Nat.le_trans (Nat.le_of_eq et.symm) this
end
end L2
set_option maxRecDepth 100000
set_option maxHeartbeats 1000000
namespace L2
open PySem PySem.Spec PyProof.Rows
def insI (x : Int) : List Int → List Int
  | [] => [x]
  | a :: r => if x < a then x :: a :: r else if x = a then a :: r else a :: insI x r
def srtI (l : List Int) : List Int := l.foldr insI []
theorem insI_mem (x y : Int) : ∀ l : List Int, y ∈ insI x l ↔ y = x ∨ y ∈ l
  | [] => by simp [insI]
  | a :: r => by
    unfold insI
    split
    · simp
    · split
      · rename_i h
        subst h
        simp
      · rw [List.mem_cons, insI_mem x y r, List.mem_cons]
        constructor
        · rintro (h | h | h) <;> simp [h]
        · rintro (h | h | h) <;> simp [h]
theorem insI_rise (x : Int) : ∀ l : List Int, l.Pairwise (· < ·) → (insI x l).Pairwise (· < ·)
  | [], _ => by simp [insI]
  | a :: r, h => by
    obtain ⟨h1, h2⟩ := List.pairwise_cons.mp h
    unfold insI
    split
    · rename_i hx
      exact List.pairwise_cons.mpr ⟨fun b hb => by
        rcases List.mem_cons.mp hb with rfl | hb
        · exact hx
        · exact Int.lt_trans hx (h1 b hb), h⟩
    · split
      · exact h
      · rename_i h3 h4
        refine List.pairwise_cons.mpr ⟨fun b hb => ?_, insI_rise x r h2⟩
        rcases (insI_mem x b r).mp hb with rfl | hb
        · omega
        · exact h1 b hb
theorem srtI_mem (y : Int) : ∀ l : List Int, y ∈ srtI l ↔ y ∈ l
  | [] => by simp [srtI]
  | a :: r => by
    show y ∈ insI a (srtI r) ↔ _
    rw [insI_mem, srtI_mem y r, List.mem_cons]
theorem srtI_rise : ∀ l : List Int, (srtI l).Pairwise (· < ·)
  | [] => by simp [srtI]
  | a :: r => insI_rise a _ (srtI_rise r)
theorem rise_unique : ∀ {l m : List Int}, l.Pairwise (· < ·) → m.Pairwise (· < ·) → (∀ x, x ∈ l ↔ x ∈ m) → l = m
  | [], [], _, _, _ => rfl
  | [], b :: m, _, _, h => absurd ((h b).mpr (List.mem_cons_self ..)) (by simp)
  | a :: l, [], _, _, h => absurd ((h a).mp (List.mem_cons_self ..)) (by simp)
  | a :: l, b :: m, h1, h2, h => by
    obtain ⟨p1, p2⟩ := List.pairwise_cons.mp h1
    obtain ⟨q1, q2⟩ := List.pairwise_cons.mp h2
    have e : a = b := by
      rcases List.mem_cons.mp ((h a).mp (List.mem_cons_self ..)) with e | ha
      · exact e
      · rcases List.mem_cons.mp ((h b).mpr (List.mem_cons_self ..)) with e | hb
        · exact e.symm
        · have := q1 a ha
          have := p1 b hb
          omega
    subst e
    congr 1
    refine rise_unique p2 q2 fun x => ⟨fun hx => ?_, fun hx => ?_⟩
    · rcases List.mem_cons.mp ((h x).mp (List.mem_cons_of_mem _ hx)) with e | z
      · have := p1 x hx; omega
      · exact z
    · rcases List.mem_cons.mp ((h x).mpr (List.mem_cons_of_mem _ hx)) with e | z
      · have := q1 x hx; omega
      · exact z
theorem nodup_perm : ∀ {l m : List Int}, l.Nodup → (∀ x ∈ l, x ∈ m) → m.length ≤ l.length → l.Perm m
  | [], m, _, _, h => by
    have : m = [] := List.eq_nil_of_length_eq_zero (by simpa using h)
    rw [this]
  | a :: l, m, hn, hs, hl => by
    obtain ⟨h1, h2⟩ := List.nodup_cons.mp hn
    have ha := hs a (List.mem_cons_self ..)
    have pe := List.perm_cons_erase ha
    refine (List.Perm.cons a (nodup_perm h2 (fun x hx => ?_) ?_)).trans pe.symm
    · have := pe.mem_iff.mp (hs x (List.mem_cons_of_mem _ hx))
      rcases List.mem_cons.mp this with e | z
      · subst e; exact absurd hx h1
      · exact z
    · have := pe.length_eq
      simp only [List.length_cons] at this hl
      omega
theorem met_nodup (ns : List Int) : ∀ i, (metL ns i).Nodup
  | 0 => List.nodup_nil
  | i + 1 => by
    rw [show metL ns (i + 1) = step_dedup (metL ns i) (ns.getD i 0) from firstMet_succ _ i]
    unfold step_dedup
    split
    · exact met_nodup ns i
    · rename_i h
      refine List.nodup_append.mpr ⟨met_nodup ns i, by simp, fun a ha b hb => ?_⟩
      rw [List.mem_singleton.mp hb]
      intro e
      subst e
      exact h (List.any_eq_true.mpr ⟨_, ha, by simp⟩)
theorem met_mem (ns : List Int) (k : Int) : k ∈ metL ns ns.length ↔ k ∈ ns := by
  have h := firstMet_any (fun i => ns.getD i 0) ns.length k
  have e : (List.range ns.length).map (fun i => ns.getD i 0) = ns := by
    refine List.ext_getElem? fun j => ?_
    by_cases hj : j < ns.length
    · rw [List.getElem?_map, List.getElem?_range hj, List.getElem?_eq_getElem hj]
      simp [List.getD_eq_getElem?_getD, hj]
    · rw [List.getElem?_eq_none (by simp; omega), List.getElem?_eq_none (by omega)]
  rw [e] at h
  constructor
  · intro hk
    have : (metL ns ns.length).any (· == k) = true := List.any_eq_true.mpr ⟨k, hk, by simp⟩
    rw [show (metL ns ns.length).any (· == k) = ns.any (· == k) from h] at this
    obtain ⟨x, hx, ex⟩ := List.any_eq_true.mp this
    rw [← (beq_iff_eq.mp ex)]
    exact hx
  · intro hk
    have : ns.any (· == k) = true := List.any_eq_true.mpr ⟨k, hk, by simp⟩
    rw [← h] at this
    obtain ⟨x, hx, ex⟩ := List.any_eq_true.mp this
    rw [← (beq_iff_eq.mp ex)]
    exact hx
theorem srt_len (ns : List Int) : (srtI ns).length = (metL ns ns.length).length := by
  have nd : (srtI ns).Nodup := (srtI_rise ns).imp fun h => by omega
  have h1 : (metL ns ns.length).Perm (srtI ns) ∨ (srtI ns).Perm (metL ns ns.length) := by
    by_cases c : (srtI ns).length ≤ (metL ns ns.length).length
    · exact .inl (nodup_perm (met_nodup ns _) (fun x hx => (srtI_mem x ns).mpr ((met_mem ns x).mp hx)) c)
    · exact .inr (nodup_perm nd (fun x hx => (met_mem ns x).mpr ((srtI_mem x ns).mp hx)) (by omega))
  rcases h1 with h | h
  · exact h.length_eq.symm
  · exact h.length_eq
theorem set_ints {prog : Program} {w : World} {h : Heap} {a : Addr} {ns : List Int} {o : Obj} {es : Array (Int × Value)} {ep : Nat} {t : SetTable} (g : SetG prog w h a (fun x => (metL ns ns.length).any (· == x)) (metL ns ns.length).length o es ep t) {L : List (Int × Value)} (pm : L.Perm es.toList) :
    ∃ ks, IntsAre (L.map (·.2)) ks ∧ ks.Perm (metL ns ns.length) := by
  have els : ∀ e ∈ L, ∃ k tk, e.2 = Value.int k tk := fun e he => by
    obtain ⟨⟨k, hk, _⟩, _⟩ := g.els e (pm.mem_iff.mp he)
    obtain ⟨tk, r⟩ := Value.isInt_shape (k := k) (v := e.2) hk
    exact ⟨k, tk, r⟩
  have mk : ∀ (M : List (Int × Value)), (∀ e ∈ M, ∃ k tk, e.2 = Value.int k tk) → ∃ ks, IntsAre (M.map (·.2)) ks ∧ ∀ k, (∃ e ∈ M, (intKind prog w).is k e.2 = true) → k ∈ ks := by
    intro M
    induction M with
    | nil => exact fun _ => ⟨[], .nil, fun k ⟨e, he, _⟩ => by cases he⟩
    | cons e M ih =>
      intro hM
      obtain ⟨ks, h1, h2⟩ := ih fun e he => hM e (List.mem_cons_of_mem _ he)
      obtain ⟨k, tk, r⟩ := hM e (List.mem_cons_self ..)
      refine ⟨k :: ks, by rw [List.map_cons, r]; exact .cons k tk h1, fun k' ⟨e', he', q⟩ => ?_⟩
      rcases List.mem_cons.mp he' with rfl | he'
      · rw [r] at q
        have := (intKind prog w).inj (.int k tk) k' k q (intKind_is _ _ _ _)
        rw [this]
        exact List.mem_cons_self ..
      · exact List.mem_cons_of_mem _ (h2 k' ⟨e', he', q⟩)
  obtain ⟨ks, h1, h2⟩ := mk L els
  refine ⟨ks, h1, (nodup_perm (met_nodup ns _) (fun x hx => h2 x ?_) ?_).symm⟩
  · obtain ⟨e, he, q⟩ := (g.mem x).mp (List.any_eq_true.mpr ⟨x, hx, by simp⟩)
    exact ⟨e, pm.mem_iff.mpr he, q⟩
  · rw [← IntsAre.length h1, List.length_map, pm.length_eq, Array.length_toList, g.len]
    exact Nat.le_refl _
end L2
set_option maxRecDepth 100000
set_option maxHeartbeats 1000000
namespace L2
open PySem PySem.Spec PyProof.Rows
theorem boot_set : bootBuiltins "set" = some (.type "set") := by decide +kernel
theorem Inv.redraw {X : Cx} {pins : List (Addr × Obj)} {σ : St} {H : Hp} {s s' : Shared} (I : Inv X pins σ H s) (k : ∀ b o, s.heap.get? b = some o → s'.heap.get? b = some o) (eg : s'.gens = s.gens) (eo : s'.os = s.os) : Inv X pins σ H s' := by
  obtain ⟨h', g', d', t', o'⟩ := s'
  simp only at k eg eo
  subst eg eo
  have I1 : Inv X pins σ H { s with heap := h', toks := t' } := I.kept k
  exact ⟨I1.ok, I1.os, I1.bare, I1.base, I1.loc, I1.cell, I1.free, I1.freeC, I1.pin, I1.hok, I1.len⟩
theorem sorted_at {h : Heap} {a : Addr} {vs : List Value} {out : Array Value} (e : h.get? a = some (seqObj "list" vs.toArray 0)) : (∃ c, (sortedHeap h a vs out).get? a = some (seqObj "list" out.toList.toArray c)) ∧ ∀ b, b ≠ a → ∀ o, h.get? b = some o → (sortedHeap h a vs out).get? b = some o := by
  obtain ⟨c1, e1⟩ : ∃ c, (h.update a (Obj.mapSeq fun _ => #[])).get? a = some (seqObj "list" #[] c) := ⟨_, get?_update_seq e fun _ => #[]⟩
  have e2 := Heap.get?_push_of_some (seqObj "list" #[] 0) (Heap.get?_push_of_some (seqObj "tuple" vs.toArray 0) e1)
  refine ⟨⟨_, by rw [Array.toArray_toList]; exact get?_update_seq e2 fun _ => out⟩, fun b hb o q => ?_⟩
  unfold sortedHeap
  rw [Heap.get?_update_other _ _ (Ne.symm hb)]
  exact Heap.get?_push_of_some _ (Heap.get?_push_of_some _ (by rw [Heap.get?_update_other _ _ (Ne.symm hb)]; exact q))
theorem ints_of {K : PySem.W.Frag} {H : Hp} : ∀ {vs : List V} {us : List Value} {l : List Int}, DVs K H vs (l.map PyData.int) → Vals vs us → IntsAre us l
  | _, _, [], .nil, .nil => .nil
  | _, _, a :: l, .cons d t, .cons r rs => by
    have e := d.of_int
    subst e
    obtain ⟨tk, rfl⟩ := r
    exact .cons a tk (ints_of t rs)
theorem ints_back {K : PySem.W.Frag} {H : Hp} : ∀ {us : List Value} {l : List Int}, IntsAre us l → Vals (l.map V.int) us ∧ DVs K H (l.map V.int) (l.map PyData.int)
  | _, _, .nil => ⟨.nil, .nil⟩
  | _, _, .cons n t hr => by
    obtain ⟨h1, h2⟩ := ints_back (K := K) (H := H) hr
    exact ⟨.cons ⟨t, rfl⟩ h1, .cons (.int n) h2⟩
theorem perm_rise {l : List Int} (h : l.Pairwise (· ≤ ·)) (n : l.Nodup) : l.Pairwise (· < ·) := by
  induction l with
  | nil => exact .nil
  | cons a r ih =>
    obtain ⟨h1, h2⟩ := List.pairwise_cons.mp h
    obtain ⟨n1, n2⟩ := List.nodup_cons.mp n
    exact List.pairwise_cons.mpr ⟨fun b hb => by
      have := h1 b hb
      have : a ≠ b := fun z => n1 (z ▸ hb)
      omega, ih h2 n2⟩
section
variable {X : Cx} {G : Gam} {e : Expr} {pos p pos2 p2 : Pos} {l : List Int}
theorem set_made {pins : List (Addr × Obj)} {s : Shared} {σ : St} {H : Hp} {Q : Value → Shared → Prop} (hcalm : X.calm = true) (I : Inv X pins σ H s) (hσ : SD X.K H σ G) (ha : EV X G e (.list (l.map PyData.int))) (h64 : l.length < 64) (hg : Gl X "set") (hm : X.mg "set" = none)
    (hs : starEach [e] X.env = [(false, eval e X.env)]) (q : ∀ a s' H', Inv X pins σ H' s' → Same H H' → SetO X.prog X.w s'.heap a (fun x => (metL l l.length).any (· == x)) (metL l l.length).length → Q (.ref a) s') :
    wpAny (model X.prog X.w) X.A (eval (.Call (.Name "set" p2) [e] [] pos2) X.env) Q X.xe s := by
  refine Call_ (ld_blt I hg hm boot_set (PyProof.Rows.callWith_type1 (thn (av_cons ha av_nil (by rw [hs]; rfl) pos2 pins s σ H _ I ⟨hσ, fun vs H' s' dv => (⟨s', dv⟩ : Same H H' ∧ DVs X.K H' vs [.list (l.map PyData.int)])⟩) fun us s1 ⟨vs, H1, I1, r1, sm, dv⟩ => ?_) (by rw [hs]; rfl) rfl))
  obtain ⟨v1, rfl, d1⟩ := dv.one
  obtain ⟨t, ys, rfl, hq, dys⟩ := d1.of_lst
  obtain ⟨u1, rfl, ru⟩ := vals1 r1
  cases ru
  obtain ⟨its, rv, pl, _⟩ := I1.list hq
  have iz : IntsAre its l := ints_of dys rv
  have hl : its.length = l.length := IntsAre.length iz
  refine set_G (items := its.toArray) (ns := l) (I1.ok.hd hcalm) (show s1.heap.IsList t its.toArray from pl.isList) (by simpa using iz) (by rw [List.size_toArray, hl]; unfold scanBound; omega) fun h' tk so kp => ?_
  rw [show its.toArray.size = l.length from (List.size_toArray ..).trans hl] at so
  exact q _ _ H1 (I1.kept (t' := tk) kp) sm so
theorem evf_sortedSet (hcalm : X.calm = true) (ha : EV X G e (.list (l.map PyData.int))) (h64 : l.length < 64) (hg : Gl X "sorted") (hm : X.mg "sorted" = none) (hg2 : Gl X "set") (hm2 : X.mg "set" = none)
    (hs : starEach [e] X.env = [(false, eval e X.env)] := by rfl)
    (he : starEach [.Call (.Name "set" p2) [e] [] pos2] X.env = (false, eval (.Call (.Name "set" p2) [e] [] pos2) X.env) :: starEach [] X.env := by rfl) (hpl : (backTo pos (starEach [] X.env)).any (·.1) = false := by rfl) :
    EVF X G (.Call (.Name "sorted" p) [.Call (.Name "set" p2) [e] [] pos2] [] pos) ((srtI l).map PyData.int) := by
  intro pins s σ H Q I ⟨hσ, q⟩
  refine wpAny_Call_Name_kw (ld_blt I hg hm PyProof.Rows.boot_sorted ?_)
  refine PyProof.Rows.callWith_builtin1 ?_ he hpl
  rw [he]
  refine Calls.spliced_cons ?_
  refine set_made hcalm I hσ ha h64 hg2 hm2 hs fun a s1 H1 I1 sm so => ?_
  obtain ⟨o, es, ep, t, g⟩ := so
  have hn64 : (metL l l.length).length < 64 := Nat.lt_of_le_of_lt (firstMet_length_le _ _) h64
  refine Calls.spliced_nil ?_
  refine Calls.call_function_entry kind_sorted plain_sorted entry_sorted (args_sorted1 _) ?_
  unfold Builtin.«sorted»
  refine wpAny_bind (m := checkCount "sorted" 1 1 _) (wpAny_pure ?_)
  refine wpAny_bind (collect_set (A := X.A.in1) (I1.ok.hd hcalm) g (by rw [sizeLine_eq]; omega) fun L s2 pm kp eg eo et => ?_)
  obtain ⟨ks, iz, pk⟩ := set_ints g pm
  have I2 : Inv X pins σ H1 s2 := I1.redraw kp eg eo
  have hlk : (L.map (·.2)).length < 64 := by rw [List.length_map, pm.length_eq, Array.length_toList, g.len]; exact hn64
  refine wpAny_bind (wpAny_newList ?_ (by rw [sizeLine_eq]; omega))
  have hoL : (s2.heap.push { cls := .type "list", data := .seq (L.map (·.2)).toArray }).get? s2.heap.objs.size = some (seqObj "list" (L.map (·.2)).toArray 0) := Heap.get?_push_size _ rfl
  refine wpAny_bind (wpAny_holding (wpAny_call_entry slot_list_sort ⟨_, hoL, rfl⟩ entry_list_sort (list_sort_tree hoL iz hlk fun out ns' a1 a2 a3 => ⟨_, rfl, ?_⟩) (args_list_sort _)))
  refine wpAny_pure ⟨_, rfl, ?_⟩
  have en : ns' = srtI l := by
    have nd : ns'.Nodup := (a2.trans pk).nodup_iff.mpr (met_nodup l _)
    refine rise_unique (perm_rise a3 nd) (srtI_rise l) fun x => ?_
    rw [(a2.trans pk).mem_iff, met_mem, srtI_mem]
  subst en
  obtain ⟨vb, db⟩ := ints_back (K := X.K) (H := upd H1 s2.heap.objs.size (.lst ((srtI l).map V.int))) a1
  obtain ⟨⟨c1, f1⟩, f2⟩ := sorted_at (out := out) hoL
  have hB : H1 s2.heap.objs.size = none := I2.hok.fresh (Nat.le_refl _)
  have I3 := I2.laid (a := s2.heap.objs.size) (o := .lst ((srtI l).map V.int)) (t' := s2.toks) (fun b u e => f2 b (Nat.ne_of_lt (Heap.lt_size e)) u (Heap.get?_push_of_some _ e)) (Nat.le_refl _) ⟨by rw [List.length_map, srt_len, sizeLine_eq]; omega, out.toList, c1, vb, f1⟩
  exact ⟨.ref s2.heap.objs.size, _, I3, rfl, q _ _ _ (sm.free hB) (sm.trans (Same.new hB)) upd_same db⟩
theorem ev_lenSet (hcalm : X.calm = true) (ha : EV X G e (.list (l.map PyData.int))) (h64 : l.length < 64) (hg : Gl X "len") (hm : X.mg "len" = none) (hg2 : Gl X "set") (hm2 : X.mg "set" = none)
    (hs : starEach [e] X.env = [(false, eval e X.env)] := by rfl)
    (he : starEach [.Call (.Name "set" p2) [e] [] pos2] X.env = (false, eval (.Call (.Name "set" p2) [e] [] pos2) X.env) :: starEach [] X.env := by rfl) (hpl : (backTo pos (starEach [] X.env)).any (·.1) = false := by rfl) :
    EV X G (.Call (.Name "len" p) [.Call (.Name "set" p2) [e] [] pos2] [] pos) (.int ((srtI l).length : Int)) := by
  intro pins s σ H Q I ⟨hσ, q⟩
  refine wpAny_Call_Name_kw (ld_blt I hg hm (u := .builtin "len") (by decide +kernel) ?_)
  refine PyProof.Rows.callWith_builtin1 ?_ he hpl
  rw [he]
  refine Calls.spliced_cons ?_
  refine set_made hcalm I hσ ha h64 hg2 hm2 hs fun a s1 H1 I1 sm so => ?_
  obtain ⟨o, es, ep, t, g⟩ := so
  refine Calls.spliced_nil ?_
  refine call_len_set g.at_ g.ex g.dat g.fit ?_ ?_
  · have := g.few
    unfold scanBound at this
    omega
  · rw [g.len, ← srt_len]
    exact ⟨.int _, H1, I1.kept (t' := s1.toks + 1 + 1) fun b o e => e, ⟨_, rfl⟩, q _ _ sm (.int _)⟩
end
end L2
set_option maxRecDepth 100000
set_option maxHeartbeats 1000000
namespace L2
open PySem PySem.Spec PyProof.Rows
theorem evf_ev {X : Cx} {G : Gam} {e : Expr} {ws : List PyData} (h : EVF X G e ws) : EV X G e (.list ws) := h.imp fun σ H Q ⟨h, q⟩ => ⟨h, fun p us H' _ s' hl dv => q _ _ s' (.lst (SqL.of hl) dv)⟩
theorem evf_listL {X : Cx} {G : Gam} {a : Expr} {ds : List PyData} {pos pos2 : Pos} (ha : EV X G a (.list ds)) (hg : Gl X "list") (hm : X.mg "list" = none) (he : starEach [a] X.env = (false, eval a X.env) :: starEach [] X.env := by rfl) (hpl : (backTo pos (starEach [] X.env)).any (·.1) = false := by rfl) : EVF X G (.Call (.Name "list" pos2) [a] [] pos) ds :=
  (pe_callTy call_list_of hg hm (by decide +kernel) (av_cons ha av_nil he) (by decide) (by decide) he hpl).imp fun σ H Q ⟨h, q⟩ => ⟨h, fun vs H1 s1 d1 => by
    obtain ⟨v, rfl, dv⟩ := d1.one
    obtain ⟨l, us, rfl, hl, d1⟩ := dv.of_lst
    exact ⟨l, us, rfl, .inl hl, fun p hp => q p us _ (s1.free hp) (s1.trans (Same.new hp)) upd_same (d1.mono (Same.new hp))⟩⟩
structure OSh (K : PySem.W.Frag) (H0 : Hp) (p t : Addr) (i : Nat) (G : Gam) (ds es : List PyData) (σ : St) (H : Hp) : Prop where
  ne : p ≠ t
  ex : ∃ vs u, H p = some (.lst vs) ∧ H t = some (.lst [.ref p, u]) ∧ DVs K (base2 H p t) vs ds ∧ DV K (base2 H p t) u (.list es)
  old : Same H0 (base2 H p t)
  sdb : SD K (base2 H p t) σ G
  hi : σ[i]? = some (some (.ref t))
abbrev plusN (G : Gam) (i : Nat) (ds es : List PyData) : Gam := G.set i (some (.list [.list ds, .list es]))
section
variable {K : PySem.W.Frag} {H0 H H' : Hp} {p t : Addr} {i : Nat} {G : Gam} {ds es : List PyData} {σ : St}
theorem OSh.sd (o : OSh K H0 p t i G ds es σ H) : SD K H σ (plusN G i ds es) := by
  obtain ⟨ne, ⟨vs, u, h1, h2, d1, d2⟩, old, sd, hi⟩ := o
  have a := (sd.mono base2_sub).set (i := i) (v := .ref t) (d := .list [.list ds, .list es]) (.lst (SqL.of h2) (.cons (.lst (SqL.of h1) (d1.mono base2_sub)) (.cons (d2.mono base2_sub) .nil)))
  rw [set_self hi] at a
  exact a
theorem OSh.step (o : OSh K H0 p t i G ds es σ H) (s : Same H H') : OSh K H0 p t i G ds es σ H' := by
  obtain ⟨ne, ⟨vs, u, h1, h2, d1, d2⟩, old, sd, hi⟩ := o
  exact ⟨ne, ⟨vs, u, s _ _ h1, s _ _ h2, d1.mono (base2_mono s), d2.mono (base2_mono s)⟩, old.trans (base2_mono s), sd.mono (base2_mono s), hi⟩
theorem OSh.new {v : V} {d : PyData} (o : OSh K H0 p t i G ds es σ H) (h : DV K H v d) (n : noL d = true) : DV K (base2 H p t) v d := by
  obtain ⟨ne, ⟨vs, u, h1, h2, _⟩, _⟩ := o
  exact DV.base2 h1 h2 ne h n
end
def tHh (K : PySem.W.Frag) (H0 : Hp) (p t : Addr) (i : Nat) (Pre Post : P2) : TS := fun D σ H => (∃ G ds es, Pre G ds es ∧ OSh K H0 p t i G ds es σ H) ∧ ∀ σ' H' G ds es, Post G ds es → OSh K H0 p t i G ds es σ' H' → D.nx σ' H'
abbrev HN (X : Cx) (H0 : Hp) (p t : Addr) (i : Nat) (Pre : P2) (st : Stmt) (Post : P2) : Prop := PS X st (tHh X.K H0 p t i Pre Post)
abbrev HNs (X : Cx) (H0 : Hp) (p t : Addr) (i : Nat) (Pre : P2) (sts : List Stmt) (Post : P2) : Prop := PSs X sts (tHh X.K H0 p t i Pre Post)
section
variable {X : Cx} {H0 : Hp} {p t : Addr} {i j m : Nat} {Pre Mid Post : P2} {a e b c : Expr} {pos pos' pos2 pos3 : Pos} {x y : Str} {G : Gam} {d : PyData}
theorem hn_nil (h : ∀ G ds es, Pre G ds es → Post G ds es) : HNs X H0 p t i Pre [] Post := pss_nil.imp fun D σ H ⟨⟨G, ds, es, a, o⟩, k⟩ => k σ H G ds es (h G ds es a) o
theorem hn_cons {st : Stmt} {sts : List Stmt} (h1 : HN X H0 p t i Pre st Mid) (h2 : HNs X H0 p t i Mid sts Post) : HNs X H0 p t i Pre (st :: sts) Post :=
  (pss_cons h1 h2).imp fun D σ H ⟨a, k⟩ => ⟨a, fun σ' H' G ds es r o => ⟨⟨G, ds, es, r, o⟩, k⟩⟩
theorem hn_set (hN : X.N.Nodup) (hm : X.N[m]? = some x) (hmi : m ≠ i) (hx : Loc X.env.scope x) (h : ∀ G ds es, Pre G ds es → ∃ d, EV X (plusN G i ds es) e d ∧ noL d = true ∧ Post (G.set m (some d)) ds es) (hs : swapsWith e (some (.Name x pos')) pos.line X.env = pure false := by rfl)
    (hf : X.fn x = true ∨ X.env.scope.names.lookup x = some .local := by first | exact .inl rfl | exact .inr rfl | assumption) : HN X H0 p t i Pre (.Assign [.Name x pos'] e pos) Post := by
  intro pins s σ H D I ⟨⟨G, ds, es, a, o⟩, k⟩
  obtain ⟨d, ev, nl, po⟩ := h G ds es a
  refine ps_set hN hm hx ev hs hf pins s σ H D I ⟨o.sd, fun v H1 s1 d1 => ?_⟩
  have o1 := o.step s1
  have dn := o1.new d1 nl
  obtain ⟨ne, ex, old, sd, hi⟩ := o1
  exact k _ _ _ ds es po ⟨ne, ex, old, sd.set dn, by rw [List.getElem?_set_ne hmi]; exact hi⟩
theorem hn_ifF {A : List Stmt} (h : ∀ G ds es, Pre G ds es → TV X (plusN G i ds es) c false) : HN X H0 p t i Pre (.If c A [] pos) Pre := by
  intro pins s σ H D I ⟨⟨G, ds, es, a, o⟩, k⟩
  exact ps_if (h G ds es a) (pss_never (sts := A)) (pss_nil (X := X)) pins s σ H D I ⟨o.sd, fun H1 s1 => iteF (k _ _ _ _ _ a (o.step s1))⟩
theorem hn_put {cc : Nat} {q1 q2 : Pos} (hv : PE X (.Name x pos2) (tVar i)) (h : ∀ G ds es, Pre G ds es → ∃ d m n, EV X (plusN G i ds es) e d ∧ noL d = true ∧ EV X (plusN G i ds es) b (.int m) ∧ ixN ds.length m = some n ∧ Post G (ds.set n d) es)
    (ha : ∀ v, assign (.Subscript (.Subscript (.Name x pos2) (.Constant (.int 0) cc q1) q2) b pos3) X.env v = (do
      let ov ← holding [v] (eval (.Subscript (.Name x pos2) (.Constant (.int 0) cc q1) q2) X.env)
      let iv ← holding [v, ov] (eval b X.env)
      standAt pos3
      holding [v, ov, iv] (setItem ov iv v)
      release [v, ov, iv] []) := by intro _; rfl)
    (hp0 : PlainIx (.Constant (.int 0) cc q1) := by intro _ _; rfl)
    (hs : swapsWithSole [.Subscript (.Subscript (.Name x pos2) (.Constant (.int 0) cc q1) q2) b pos3] e pos.line X.env = pure false := by rfl) (hw : swappedStores [.Subscript (.Subscript (.Name x pos2) (.Constant (.int 0) cc q1) q2) b pos3] e X.env = pure none := by rfl)
    (h1 : (assignEach [.Subscript (.Subscript (.Name x pos2) (.Constant (.int 0) cc q1) q2) b pos3] X.env).map (·.2) = [assign (.Subscript (.Subscript (.Name x pos2) (.Constant (.int 0) cc q1) q2) b pos3) X.env] := by rfl) : HN X H0 p t i Pre (.Assign [.Subscript (.Subscript (.Name x pos2) (.Constant (.int 0) cc q1) q2) b pos3] e pos) Post := by
  intro pins s σ H D I ⟨⟨G, ds, es, a, o⟩, k⟩
  obtain ⟨d, m, n, ev, nl, eb, hm, po⟩ := h G ds es a
  refine ps_asg ev (pg_sub (pe_ix ix_list hv pe_int hp0) eb set_list ha) hs hw h1 pins s σ H D I ⟨o.sd, fun v H1 s1 d1 => ?_⟩
  have o1 := o.step s1
  obtain ⟨vs1, u1, g1, g2, _⟩ := id o1.ex
  refine ⟨.ref t, o1.hi, ?_⟩
  refine ⟨t, [.ref p, u1], 0, .ref p, rfl, rfl, SqL.of g2, rfl, o1.sd, fun w H2 s2 d2 => ?_⟩
  have o2 := o1.step s2
  have dn := o2.new (d1.mono s2) nl
  obtain ⟨ne, ⟨vs, u, f1, f2, d3, d4⟩, old, sd, hi⟩ := o2
  refine ⟨p, vs, m, n, rfl, d2.of_int, f1, by rw [d3.length]; exact hm, ?_⟩
  refine k _ _ G _ es po ⟨ne, ⟨vs.set n v, u, upd_same, by rw [upd_ne (Ne.symm ne)]; exact f2, ?_, ?_⟩, ?_, ?_, hi⟩
  · rw [base2_upd]; exact d3.setAt dn _
  · rw [base2_upd]; exact d4
  · rw [base2_upd]; exact old
  · rw [base2_upd]; exact sd
theorem hn_for {tg : Expr} {body : List Stmt} {z : Str} {xs : List PyData} (W : Nat → P2) (hp : PassesOwn (model X.prog X.w) X.A X.env X.xe) (hcalm : X.calm = true) (hij : j ≠ i) (hg : PG X tg (gName j)) (hv : PE X (.Name z pos') (tVar m))
    (hpre : ∀ G ds es, Pre G ds es → W 0 G ds es ∧ G[m]? = some (some (.list xs)))
    (hs : ∀ (H1 : Hp) (k : Nat) d, xs[k]? = some d → HNs X H1 p t i (fun G ds es => ∃ G', W k G' ds es ∧ G = G'.set j (some d)) body (W (k + 1))) (hpost : ∀ G ds es, W xs.length G ds es → Post G ds es)
    (hfs : ∀ x, foldedSetIterable (.Name z pos') X.env x = pure x := by intro _; rfl) : HN X H0 p t i Pre (.For tg (.Name z pos') body [] pos) Post := by
  intro pins s σ H D I ⟨⟨G, ds, es, a, o⟩, q⟩
  obtain ⟨w0, hm⟩ := hpre G ds es a
  obtain ⟨v, e1, dl⟩ := o.sdb.2 m _ hm
  obtain ⟨l, us, rfl, hl, dus⟩ := dl.of_lst
  have hbody : PSs X body (fun D σ H => ∃ kd : Hp × Nat × PyData, xs[kd.2.1]? = some kd.2.2 ∧ tHh X.K kd.1 p t i (fun G ds es => ∃ G', W kd.2.1 G' ds es ∧ G = G'.set j (some kd.2.2)) (W (kd.2.1 + 1)) D σ H) := fun pins s σ H D I ⟨k, hk, q⟩ => hs k.1 k.2.1 k.2.2 hk pins s σ H D I q
  have ostart : OSh X.K (base2 H p t) p t i G ds es σ H := ⟨o.ne, o.ex, Same.refl _, o.sdb, o.hi⟩
  have keyN : ∀ {G2 : Gam} {ds2 es2 : List PyData} {σ2 : St} {H2 : Hp}, OSh X.K (base2 H p t) p t i G2 ds2 es2 σ2 H2 → SqL X.K H2 l us := fun o2 => base2_sub.seq (o2.old.seq hl)
  refine ps_for hp hcalm (pi_list hv) hg hbody hfs pins s σ H D I ⟨_, e1, l, rfl, ⟨us, base2_sub.seq hl⟩, ?_⟩
  refine for_list (K := X.K) (a := l) (xs := us) (g := gName j) (tb := fun D σ H => ∃ kd : Hp × Nat × PyData, xs[kd.2.1]? = some kd.2.2 ∧ tHh X.K kd.1 p t i (fun G ds es => ∃ G', W kd.2.1 G' ds es ∧ G = G'.set j (some kd.2.2)) (W (kd.2.1 + 1)) D σ H)
    (fun k σ2 H2 => ∃ G ds es, W k G ds es ∧ OSh X.K (base2 H p t) p t i G ds es σ2 H2) ⟨G, ds, es, w0, ostart⟩ (fun k σ2 H2 _ ⟨_, _, _, _, o2⟩ => keyN o2) (fun k z σ2 H2 hk ⟨G2, ds2, es2, w2, o2⟩ => ?_)
    (fun σ2 H2 ⟨G2, ds2, es2, w2, o2⟩ => q σ2 H2 G2 ds2 es2 (hpost _ _ _ (by rw [← dus.length]; exact w2)) ⟨o2.ne, o2.ex, o.old.trans o2.old, o2.sdb, o2.hi⟩)
  obtain ⟨d, ed, dz⟩ := dus.get' hk
  exact ⟨(base2 H p t, k, d), ed, ⟨_, ds2, es2, ⟨G2, w2, rfl⟩, ⟨o2.ne, o2.ex, o2.old, o2.sdb.set (dz.mono o2.old), by rw [List.getElem?_set_ne hij]; exact o2.hi⟩⟩, fun σ3 H3 G3 ds3 es3 w3 o3 => ⟨G3, ds3, es3, w3, o3⟩⟩
theorem svs_ownN {sts : List Stmt} {e1 e2 : Expr} {ws1 ws2 : List PyData} {G2 : Gam} {pa pa' pl : Pos} (hN : X.N.Nodup) (hi : X.N[i]? = some x) (hx : Loc X.env.scope x) (hGi : i < G.length) (h1 : EVF X G e1 ws1) (h2 : EVF X G e2 ws2) (n1 : noLs ws1 = true) (n2 : noLs ws2 = true)
    (h : ∀ H0 p t, HNs X H0 p t i (fun G' ds es => G' = G.set i none ∧ ds = ws1 ∧ es = ws2) sts (fun G' _ _ => G2.length = G'.length ∧ ∀ (j : Nat) d, G2[j]? = some (some d) → G'[j]? = some (some d)))
    (st1 : starEach [e1, e2] X.env = (false, eval e1 X.env) :: starEach [e2] X.env := by rfl) (st2 : starEach [e2] X.env = (false, eval e2 X.env) :: starEach [] X.env := by rfl)
    (hs : swapsWith (.List [e1, e2] pl) (some (.Name x pa')) pa.line X.env = pure false := by rfl) (hf : X.fn x = true ∨ X.env.scope.names.lookup x = some .local := by first | exact .inl rfl | exact .inr rfl | assumption) :
    SVs X G (.Assign [.Name x pa'] (.List [e1, e2] pl) pa :: sts) (.next G2) := by
  have hr : PSs X sts (fun D σ H => ∃ z : Hp × Addr × Addr, tHh X.K z.1 z.2.1 z.2.2 i (fun G' ds es => G' = G.set i none ∧ ds = ws1 ∧ es = ws2) (fun G' _ _ => G2.length = G'.length ∧ ∀ (j : Nat) d, G2[j]? = some (some d) → G'[j]? = some (some d)) D σ H) := fun pins s σ H D I ⟨z, q⟩ => h z.1 z.2.1 z.2.2 pins s σ H D I q
  refine (pss_cons (ps_set hN hi hx (pe_lst (pa_cons h1 (pa_cons h2 pa_nil st2) st1)) hs hf) hr).imp fun D σ H ⟨hσ, k⟩ => ⟨hσ, fun p us H1 hp s1 hl dv => ⟨hσ.mono s1, fun r us2 H2 hr0 s2 hl2 dv2 => ⟨(by show 2 ≤ sizeLine; rw [sizeLine_eq]; decide), fun t ht => ?_⟩⟩⟩
  have hp2 : H2 p = some (.lst us) := s2 _ _ hl
  have hpt : p ≠ t := fun c => by rw [← c, hp2] at ht; cases ht
  have hrt : r ≠ t := fun c => by rw [← c, hl2] at ht; cases ht
  have hrp : r ≠ p := fun c => by rw [c, hl] at hr0; cases hr0
  have Hp : (upd H2 t (.lst [.ref p, .ref r])) p = some (.lst us) := by rw [upd_ne hpt]; exact hp2
  have Ht : (upd H2 t (.lst [.ref p, .ref r])) t = some (.lst [.ref p, .ref r]) := upd_same
  have S3 : Same H2 (upd H2 t (.lst [.ref p, .ref r])) := Same.new ht
  have sb : Same H (base2 (upd H2 t (.lst [.ref p, .ref r])) p t) := fun b o e => by
    have b1 : b ≠ p := ne_of_none e hp
    have b2 : b ≠ t := fun c => by rw [c] at e; rw [s2 _ _ (s1 _ _ e)] at ht; cases ht
    rw [base2_ne b1 b2]
    exact S3 _ _ (s2 _ _ (s1 _ _ e))
  have du : DV X.K (base2 (upd H2 t (.lst [.ref p, .ref r])) p t) (.ref r) (.list ws2) := .lst (SqL.of (by rw [base2_ne hrp hrt]; exact S3 _ _ hl2)) (DVs.base2 Hp Ht hpt (dv2.mono S3) n2)
  refine ⟨(H, p, t), ⟨_, ws1, ws2, ⟨rfl, rfl, rfl⟩, ⟨hpt, ⟨us, .ref r, Hp, Ht, DVs.base2 Hp Ht hpt ((dv.mono s2).mono S3) n1, du⟩, sb, ⟨by simp [hσ.1], fun m d e => ?_⟩, ?_⟩⟩, fun σ' H' G' ds es w o => ?_⟩
  · by_cases hmi : i = m
    · subst hmi
      rw [List.getElem?_set_self hGi] at e
      cases e
    · rw [List.getElem?_set_ne hmi] at e
      obtain ⟨v, a1, a2⟩ := hσ.2 m d e
      exact ⟨v, by rw [List.getElem?_set_ne hmi]; exact a1, a2.mono sb⟩
  · rw [List.getElem?_set_self (by rw [hσ.1]; exact hGi)]
  · refine k _ _ (o.old.trans base2_sub) ?_
    have sd := o.sdb.mono base2_sub
    exact ⟨by rw [sd.1]; exact w.1.symm, fun m d e => sd.2 m d (w.2 m d e)⟩
end
end L2
set_option maxRecDepth 100000
set_option maxHeartbeats 1000000
namespace My
open PySem L2
local macro_rules | `(tactic| walk_at "dn") => `(tactic| first | decide | omega)
local macro_rules | `(tactic| walk_at "od") => `(tactic| first
  | exact od_add | exact od_sub | exact od_xor | exact od_lt | exact od_le | exact od_gt | exact od_ge
  | exact od_mod (by walk_at "dn") | exact od_fdiv ⟨by walk_at "dn", by walk_at "dn"⟩
  | exact od_mul (by first | exact Or.inl ⟨by walk_at "dn", by walk_at "dn"⟩ | exact Or.inr ⟨by walk_at "dn", by walk_at "dn"⟩)
  | exact od_pow ⟨by decide, by decide, by decide⟩
  | exact od_catL (by walk_at "sz") | exact od_catT (by simp) (by walk_at "sz")
  | exact od_in (.inl rfl) (by rfl) (by rfl) (by rfl) | exact od_in (.inr rfl) (by rfl) (by rfl) (by rfl)
  | exact od_notIn (.inl rfl) (by rfl) (by rfl) (by rfl) | exact od_notIn (.inr rfl) (by rfl) (by rfl) (by rfl)
  | exact od_eq (by walk_at "un") (by walk_at "cl") (by walk_at "cl") (by walk_at "dp") (by rfl)
  | exact od_ne (by walk_at "un") (by walk_at "cl") (by walk_at "cl") (by walk_at "dp") (by rfl))
local macro_rules | `(tactic| walk_at "sz") => `(tactic| first | decide | (rw [sizeLine_eq]; decide) | (rw [sizeLine_eq]; simp; done) | (rw [sizeLine_eq]; simp; omega) | (rw [sizeLine_eq]; omega))
local macro_rules | `(tactic| walk_at "bf") => `(tactic| (intro h; first | rfl | cases h))
local macro_rules | `(tactic| walk_at "rm") => `(tactic| exact Room.mono (by assumption) (by decide))
local macro_rules | `(tactic| walk_at "un") => `(tactic| exact Room.units (by assumption))
local macro_rules | `(tactic| walk_at "cl") => `(tactic| first | rfl | decide +kernel | (simp [PyData.canLay0, PyData.canLayAll0]; done))
local macro_rules | `(tactic| walk_at "dp") => `(tactic| first | (simp [PyData.depth, PyData.depthAll]; done) | decide)
local macro_rules | `(tactic| walk_at "rg") => `(tactic| first | decide | omega)
local macro_rules | `(tactic| walk_at "at") => `(tactic| first | rfl | exact atI_of (by walk_at "dn") (by rfl) | exact at_ints (by walk_at "dn") (by walk_at "dn"))
local macro_rules | `(tactic| walk_at "cd") => `(tactic| first | exact cd_lenL | exact cd_lenT | exact cd_lenS (by decide) | exact cd_all rfl | exact cd_tupleL | exact cd_listL | exact cd_listT | exact cd_intB | exact cd_max rfl | exact cd_min rfl | exact cd_sum rfl)
local macro_rules | `(tactic| walk_at "fn") => `(tactic| first | exact ⟨_, rfl, rfl⟩ | exact ⟨_, _, rfl, rfl⟩ | exact ⟨_, _, _, rfl, rfl⟩)
def top (i : Nat) : Stmt := PySem.Challenge.pw_likewise_k09_texts_told.main.body.getD i (.Pass ⟨0, 0, 0, 0⟩)
abbrev s_is_below : Stmt := top 1
abbrev s_text_of : Stmt := top 3
abbrev s_law_numbers : Stmt := top 5
abbrev s_law_whole : Stmt := top 6
abbrev s_law_is_text : Stmt := top 7
abbrev s_law : Stmt := top 8
theorem sc_is_below : FnScope ["thing", "bound"] ["thing", "bound"] (defScope s_is_below) := ⟨rfl, rfl, rfl, by decide +kernel, rfl, by decide +kernel, by decide +kernel⟩
theorem sc_text_of : FnScope ["cells", "some", "there"] ["cells", "some"] (defScope s_text_of) := ⟨rfl, rfl, rfl, by decide +kernel, rfl, by decide +kernel, by decide +kernel⟩
theorem sc_law_numbers : FnScope ["script", "at", "many", "cells", "found", "cell", "rest", "turn", "k", "near"] ["script", "at", "many"] (defScope s_law_numbers) := ⟨rfl, rfl, rfl, by decide +kernel, rfl, by decide +kernel, by decide +kernel⟩
theorem sc_law_whole : FnScope ["found"] ["found"] (defScope s_law_whole) := ⟨rfl, rfl, rfl, by decide +kernel, rfl, by decide +kernel, by decide +kernel⟩
theorem sc_law_is_text : FnScope ["found", "cells", "some", "last", "pair"] ["found", "cells", "some"] (defScope s_law_is_text) := ⟨rfl, rfl, rfl, by decide +kernel, rfl, by decide +kernel, by decide +kernel⟩
theorem sc_law : FnScope ["script", "numbers", "size", "cells", "turn", "many", "some", "handed", "found", "cell"] ["script"] (defScope s_law) := ⟨rfl, rfl, rfl, by decide +kernel, rfl, by decide +kernel, by decide +kernel⟩
structure Txt (mg : Str → Option Value) : Prop where
  b_len : mg "len" = none
  b_isinstance : mg "isinstance" = none
  b_int : mg "int" = none
  b_bool : mg "bool" = none
  b_list : mg "list" = none
  b_range : mg "range" = none
  b_tuple : mg "tuple" = none
  b_sorted : mg "sorted" = none
  b_set : mg "set" = none
section
variable {P : Program} {w : World} {K : PySem.W.Frag} {mg : Str → Option Value} {base : Heap}
def belowB : PyData → Int → Bool
  | .int i, b => decide (0 ≤ i) && decide (i < b)
  | _, _ => false
def noDct : PyData → Bool
  | .dict _ => false
  | _ => true
def F_is_below (ds : List PyData) (d : PyData) : Prop := ∃ t b, noDct t = true ∧ ds = [t, .int b] ∧ d = .bool (belowB t b)
theorem d_is_below (T : Txt mg) {f : Addr} {fd : FuncData} (F : Fun K "is_below" "is_below" s_is_below f fd) (hm : mg "is_below" = some (.ref f)) : DFn P w K mg base 1 "is_below" F_is_below := by
  refine F.data hm (F.binds fun _ _ _ _ _ _ us hl => match us, hl with | [_, _], _ => rfl) sc_is_below (fun ds d ⟨t, b, _, e, _⟩ => by rw [e]; rfl) fun cdv A outer s H E ds d hr ⟨t, b, hnd, e, e2⟩ => ?_
  subst e e2
  cases t with
  | int i => exact svs_ret (sv_ret (ev_and (ev_isi (n := "int") (ev_var 0 (by rfl) (pv 0)) rfl T.b_isinstance rfl T.b_int (by decide +kernel) (by rfl)) (fun _ => (ev_and (ev_not (ev_isi (n := "bool") (ev_var 0 (by rfl) (pv 0)) rfl T.b_isinstance rfl T.b_bool (by decide +kernel) (by rfl))) (fun _ => (ev_one (ev_chain2 ev_int (ev_var 0 (by rfl) (pv 0)) (by walk_at "od") (ev_var 1 (by rfl) (pv 1)) (by walk_at "od")))) (by walk_at "bf"))) (by walk_at "bf")))
  | bool i => exact svs_ret (sv_ret (ev_and (ev_isi (n := "int") (ev_var 0 (by rfl) (pv 0)) rfl T.b_isinstance rfl T.b_int (by decide +kernel) (by rfl)) (fun _ => ev_and (ev_not (ev_isi (n := "bool") (ev_var 0 (by rfl) (pv 0)) rfl T.b_isinstance rfl T.b_bool (by decide +kernel) (by rfl))) (fun h => by cases h) (fun _ => rfl)) (fun _ => rfl)))
  | none => exact svs_ret (sv_ret (ev_and (ev_isi (n := "int") (ev_var 0 (by rfl) (pv 0)) rfl T.b_isinstance rfl T.b_int (by decide +kernel) (by rfl)) (fun h => by cases h) (fun _ => rfl)))
  | str x => exact svs_ret (sv_ret (ev_and (ev_isi (n := "int") (ev_var 0 (by rfl) (pv 0)) rfl T.b_isinstance rfl T.b_int (by decide +kernel) (by rfl)) (fun h => by cases h) (fun _ => rfl)))
  | list x => exact svs_ret (sv_ret (ev_and (ev_isi (n := "int") (ev_var 0 (by rfl) (pv 0)) rfl T.b_isinstance rfl T.b_int (by decide +kernel) (by rfl)) (fun h => by cases h) (fun _ => rfl)))
  | tuple x => exact svs_ret (sv_ret (ev_and (ev_isi (n := "int") (ev_var 0 (by rfl) (pv 0)) rfl T.b_isinstance rfl T.b_int (by decide +kernel) (by rfl)) (fun h => by cases h) (fun _ => rfl)))
  | dict x => cases hnd
def numOk (many : Nat) (d : PyData) : Prop := ∃ rs : List Int, rs.length = many ∧ (∀ r ∈ rs, 0 ≤ r ∧ r < 1000000) ∧ d = .list (rs.map .int)
def numPre (ds : List PyData) : Prop := ∃ (ns : List Int) (a : Int) (many : Nat), ns.length ≤ 63 ∧ many ≤ 1000 ∧ ds = [.list (ns.map .int), .int a, .int many]
def numF (ds : List PyData) (d : PyData) : Prop := ∃ (s a : PyData) (many : Nat), ds = [s, a, .int many] ∧ numOk many d
theorem cutD_map {α : Type} (f : α → PyData) (l : List α) (o u : Option Int) : ∃ c : List α, c.length ≤ l.length ∧ cutD (l.map f) o u = c.map f := by
  refine ⟨(l.drop (HT.sIx l.length 0 o)).take (HT.sIx l.length l.length u - HT.sIx l.length 0 o), by rw [List.length_take, List.length_drop]; omega, ?_⟩
  unfold cutD
  rw [List.length_map, List.map_take, List.map_drop]
def someInts (lo hi : Int) (ds : List PyData) (n : Nat) : Prop := ∃ rs : List Int, rs.length = n ∧ (∀ r ∈ rs, lo ≤ r ∧ r < hi) ∧ ds = rs.map PyData.int
theorem someInts.snoc {lo hi r : Int} {ds : List PyData} {n : Nat} (h : someInts lo hi ds n) (h1 : lo ≤ r) (h2 : r < hi) : someInts lo hi (ds ++ [.int r]) (n + 1) := by
  obtain ⟨rs, e1, e2, e3⟩ := h
  refine ⟨rs ++ [r], by simp [e1], fun x hx => ?_, by simp [e3]⟩
  rcases List.mem_append.mp hx with z | z
  · exact e2 x z
  · have := List.mem_singleton.mp z
    subst this
    exact ⟨h1, h2⟩
theorem someInts.len {lo hi : Int} {ds : List PyData} {n : Nat} (h : someInts lo hi ds n) : ds.length = n := by
  obtain ⟨rs, e1, e2, e3⟩ := h
  rw [e3, List.length_map, e1]
theorem sqr_bound {k : Int} (h0 : 0 ≤ k) (h1 : k ≤ 1000) : 0 ≤ 1009 * k * k ∧ 1009 * k * k ≤ 1009000000 := by
  have a : 0 ≤ 1009 * k := by omega
  have b : 1009 * k ≤ 1009000 := by omega
  refine ⟨Int.mul_nonneg a h0, ?_⟩
  have c : 1009 * k * k ≤ 1009000 * 1000 := Int.mul_le_mul b h1 h0 (by decide)
  exact c
def GN (s a : Option PyData) (many : Nat) (zs : List Int) (G : Gam) (c r t k n : Option PyData) : Prop := G = [s, a, some (.int many), some (.list (zs.map PyData.int)), none, c, r, t, k, n]
theorem r_law_numbers (T : Txt mg) {f : Addr} {fd : FuncData} (F : Fun K "_law_numbers" "_law_numbers" s_law_numbers f fd) (hm : mg "_law_numbers" = some (.ref f)) : RFn P w K mg base 1 "_law_numbers" numF numPre := by
  refine F.dataR hm (F.binds fun _ _ _ _ _ _ us hl => match us, hl with | [_, _, _], _ => rfl) sc_law_numbers (fun ds ⟨ns, a, many, _, _, e⟩ => by rw [e]; rfl) fun cdv A outer s H E ds hr ⟨ns, a, many, hns, hmany, e⟩ => ?_
  subst e
  obtain ⟨cs, hcs, ecs⟩ := cutD_map PyData.int ns (some a) none
  refine rvs_cons (sv_setComp (ix := []) (N := ["cell"]) (B := bind1) (as := cs) (D := PyData.int) (fun _ => true) (fun z => PyData.int (z % 10 ^ 60)) rfl sc_law_numbers.nd (i := 3) rfl rfl (of_decide_eq_true (by kernel_rfl)) (own_name (by decide))
    (iv_list (ev_eq (by first | exact ev_slL (ev_var 0 (by rfl) (pv 0)) (ov_some (ev_var 1 (by rfl) (pv 1))) ov_none | exact ev_slT (ev_var 0 (by rfl) (pv 0)) (ov_some (ev_var 1 (by rfl) (pv 1))) ov_none (by walk_at "sl")) (congrArg PyData.list ecs))) (by rw [sizeLine_eq]; omega) (fun _ _ => bindD1 _) (fun _ _ _ _ _ => pg_name (i := 0) (show List.Nodup (["cell"] : List Str) by decide +kernel) rfl (Or.inl rfl)) (fun a ha cl C s H fp => pf_D0)
    (fun a ha hP cl C s H fp => (ev_bin (ev_var 0 (by rfl) (pv 0)) (ev_bin ev_int ev_int (by walk_at "od")) (by walk_at "od")))) ?_
  rw [filter_true]
  have ez : cs.map (fun z => PyData.int (z % 10 ^ 60)) = (cs.map fun z => z % 10 ^ 60).map PyData.int := by rw [List.map_map]; rfl
  rw [ez]
  have hzl : (cs.map fun z => z % 10 ^ 60).length ≤ 63 := by rw [List.length_map]; omega
  generalize (cs.map fun z => z % 10 ^ 60) = zs at hzl
  refine rvs_own (i := 4) sc_law_numbers.nd rfl (Or.inl rfl) (by simp [startG]) fun H0 p => ?_
  refine hrs_cons (Mid := fun G ds => ∃ c r t k n m, GN (some (.list (ns.map PyData.int))) (some (.int a)) many zs G c r t k n ∧ m ≤ many ∧ someInts 0 1000000 ds m) ?_ ?_
  ·
    refine ht_if (PreA := fun G ds => GN (some (.list (ns.map PyData.int))) (some (.int a)) many zs G none none none none none ∧ ds = []) (PreB := fun G ds => GN (some (.list (ns.map PyData.int))) (some (.int a)) many zs G none none none none none ∧ ds = []) ?_ ?_ (hts_nil ?_)
    · rintro G ds ⟨rfl, rfl⟩
      cases zs with
      | nil => exact .inr ⟨tv_eq (tv_w (wv_and (k' := false) (tv_cmp (ev_callB2 "len" (av_cons (ev_var 3 (by rfl) (pv 3)) av_nil) (by walk_at "cd") rfl T.b_len (by decide +kernel)) ev_int (by walk_at "od") (nomark _)) (fun h => by simp at h))) (by simp), rfl, rfl⟩
      | cons z zs =>
        cases hq : (z % 2 == 0) with
        | true => exact .inl ⟨tv_eq (tv_w (wv_and (tv_cmp (ev_callB2 "len" (av_cons (ev_var 3 (by rfl) (pv 3)) av_nil) (by walk_at "cd") rfl T.b_len (by decide +kernel)) ev_int (by walk_at "od") (nomark _)) (fun _ => (wv_and1 (tv_cmp (ev_bin (by first | exact ev_ixL (ev_var 3 (by rfl) (pv 3)) ev_int (by walk_at "at") | exact ev_ixT (ev_var 3 (by rfl) (pv 3)) ev_int (by walk_at "at")) ev_int (by walk_at "od")) ev_int (by walk_at "od") (nomark _)))))) (by rw [show (PyData.int (z % 2)).eqv (.int 0) = (z % 2 == 0) from rfl, hq]; simp), rfl, rfl⟩
        | false => exact .inr ⟨tv_eq (tv_w (wv_and (tv_cmp (ev_callB2 "len" (av_cons (ev_var 3 (by rfl) (pv 3)) av_nil) (by walk_at "cd") rfl T.b_len (by decide +kernel)) ev_int (by walk_at "od") (nomark _)) (fun _ => (wv_and1 (tv_cmp (ev_bin (by first | exact ev_ixL (ev_var 3 (by rfl) (pv 3)) ev_int (by walk_at "at") | exact ev_ixT (ev_var 3 (by rfl) (pv 3)) ev_int (by walk_at "at")) ev_int (by walk_at "od")) ev_int (by walk_at "od") (nomark _)))))) (by rw [show (PyData.int (z % 2)).eqv (.int 0) = (z % 2 == 0) from rfl, hq]; simp), rfl, rfl⟩
    ·
      refine hts_cons (Mid := fun G ds => ∃ c r t k n m, GN (some (.list (ns.map PyData.int))) (some (.int a)) many zs G c r t k n ∧ m ≤ many ∧ someInts 0 1000000 ds m) ?_ (hts_nil fun _ _ h => h)
      refine ht_forL (j := 5) (m := 3) (xs := zs.map PyData.int) (fun _ G ds => ∃ c r t k n m, GN (some (.list (ns.map PyData.int))) (some (.int a)) many zs G c r t k n ∧ m ≤ many ∧ someInts 0 1000000 ds m) PassesOwn.never rfl (by decide) (pg_name (i := 5) sc_law_numbers.nd rfl (Or.inl rfl)) (pv 3) ?_ ?_ fun _ _ h => h
      · rintro G ds ⟨rfl, rfl⟩
        exact ⟨⟨_, _, _, _, _, 0, rfl, Nat.zero_le _, [], rfl, by simp, rfl⟩, rfl⟩
      · intro H1 i d hd
        obtain ⟨z, rfl⟩ : ∃ z, d = PyData.int z := by
          rw [List.getElem?_map] at hd
          cases q : zs[i]? with
          | none => rw [q] at hd; cases hd
          | some z => rw [q] at hd; exact ⟨z, (Option.some.inj hd).symm⟩
        refine hts_cons (Mid := fun G ds => ∃ r t k n m, GN (some (.list (ns.map PyData.int))) (some (.int a)) many zs G (some (.int z)) (some (.int r)) t k n ∧ m ≤ many ∧ someInts 0 1000000 ds m) (ht_set (j := 6) sc_law_numbers.nd rfl (by decide) (Or.inl rfl) ?_) ?_
        · rintro G ds ⟨G', ⟨c, r, t, k, n, m, rfl, hm, hd⟩, rfl⟩
          exact ⟨_, (ev_bin (ev_var 5 (by rfl) (pv 5)) ev_int (by walk_at "od")), rfl, _, _, _, _, m, rfl, hm, hd⟩
        · refine hts_cons (Mid := fun G ds => ∃ c r t k n m, GN (some (.list (ns.map PyData.int))) (some (.int a)) many zs G c r t k n ∧ m ≤ many ∧ someInts 0 1000000 ds m) ?_ (hts_nil fun _ _ h => h)
          refine ht_forR (j := 7) (lo := 0) (n := (10 : Int).toNat) (fun _ G ds => ∃ r t k n m, GN (some (.list (ns.map PyData.int))) (some (.int a)) many zs G (some (.int z)) (some (.int r)) t k n ∧ m ≤ many ∧ someInts 0 1000000 ds m) PassesOwn.never rfl (by decide) (pg_name (i := 7) sc_law_numbers.nd rfl (Or.inl rfl)) ?_ ?_ ?_
          · rintro G ds ⟨r, t, k, n, m, rfl, hm, hd⟩
            exact ⟨⟨r, t, k, n, m, rfl, hm, hd⟩, pi_r1 ev_int (by decide) (by decide) rfl T.b_range⟩
          · intro j hj
            refine hts_cons (Mid := fun G ds => ∃ r t k n m, GN (some (.list (ns.map PyData.int))) (some (.int a)) many zs G (some (.int z)) (some (.int r)) t k n ∧ m ≤ many ∧ someInts 0 1000000 ds m) ?_ (hts_nil fun _ _ h => h)
            refine ht_if (PreA := fun G ds => ∃ r t k n m, GN (some (.list (ns.map PyData.int))) (some (.int a)) many zs G (some (.int z)) (some (.int r)) t k n ∧ m < many ∧ someInts 0 1000000 ds m) (PreB := fun G ds => ∃ r t k n m, GN (some (.list (ns.map PyData.int))) (some (.int a)) many zs G (some (.int z)) (some (.int r)) t k n ∧ m ≤ many ∧ someInts 0 1000000 ds m) ?_ ?_ (hts_nil fun _ _ h => h)
            · rintro G ds ⟨G', ⟨r, t, k, n, m, rfl, hm, hd⟩, rfl⟩
              have hl := hd.len
              by_cases hlt : m < many
              · by_cases hor : (0 : Int) + (j : Nat) = 0 ∨ 0 < r
                · exact .inl ⟨tv_eq (tv_w (wv_and (tv_cmp (ev_callB2 "len" (av_cons (ev_var 4 (by rfl) (pv 4)) av_nil) (by walk_at "cd") rfl T.b_len (by decide +kernel)) (ev_var 2 (by rfl) (pv 2)) (by walk_at "od") (nomark _)) (fun _ => (wv_and1 (tv_w (wv_or (tv_cmp (ev_var 7 (by rfl) (pv 7)) ev_int (by walk_at "od") (nomark _)) (fun _ => (wv_or1 (tv_cmp (ev_var 6 (by rfl) (pv 6)) ev_int (by walk_at "od") (nomark _)))))))))) (by
                    rw [show (PyData.int (0 + (j : Nat))).eqv (.int 0) = ((0 : Int) + (j : Nat) == 0) from rfl]
                    have e1 : decide ((ds.length : Int) < (many : Nat)) = true := by simp; omega
                    rw [e1]
                    rcases hor with z | z
                    · rw [z]; rfl
                    · rw [decide_eq_true z]; simp), _, _, _, _, m, rfl, hlt, hd⟩
                · exact .inr ⟨tv_eq (tv_w (wv_and (tv_cmp (ev_callB2 "len" (av_cons (ev_var 4 (by rfl) (pv 4)) av_nil) (by walk_at "cd") rfl T.b_len (by decide +kernel)) (ev_var 2 (by rfl) (pv 2)) (by walk_at "od") (nomark _)) (fun _ => (wv_and1 (tv_w (wv_or (tv_cmp (ev_var 7 (by rfl) (pv 7)) ev_int (by walk_at "od") (nomark _)) (fun _ => (wv_or1 (tv_cmp (ev_var 6 (by rfl) (pv 6)) ev_int (by walk_at "od") (nomark _)))))))))) (by
                    rw [show (PyData.int (0 + (j : Nat))).eqv (.int 0) = ((0 : Int) + (j : Nat) == 0) from rfl]
                    have e1 : ((0 : Int) + (j : Nat) == 0) = false := by simp; omega
                    have e2 : decide (0 < r) = false := by simp; omega
                    rw [e1, e2]; simp), _, _, _, _, m, rfl, hm, hd⟩
              · exact .inr ⟨tv_eq (tv_w (wv_and (k' := false) (tv_cmp (ev_callB2 "len" (av_cons (ev_var 4 (by rfl) (pv 4)) av_nil) (by walk_at "cd") rfl T.b_len (by decide +kernel)) (ev_var 2 (by rfl) (pv 2)) (by walk_at "od") (nomark _)) (fun h => by simp at h; omega))) (by simp), _, _, _, _, m, rfl, hm, hd⟩
            ·
              refine hts_cons (Mid := fun G ds => ∃ r t k n m, GN (some (.list (ns.map PyData.int))) (some (.int a)) many zs G (some (.int z)) (some (.int r)) t k n ∧ m ≤ many ∧ someInts 0 1000000 ds m) (ht_append ?_ (pv 4)) (hts_cons (ht_set (j := 6) sc_law_numbers.nd rfl (by decide) (Or.inl rfl) ?_) (hts_nil fun _ _ h => h))
              · rintro G ds ⟨r, t, k, n, m, rfl, hlt, hd⟩
                have hl := hd.len
                exact ⟨.int (r % 1000000), ev_eq (ev_bin (ev_var 6 (by rfl) (pv 6)) (ev_bin ev_int ev_int (by walk_at "od")) (by walk_at "od")) rfl, rfl, by rw [hl, sizeLine_eq]; omega, _, _, _, _, m + 1, rfl, hlt, hd.snoc (by omega) (by omega)⟩
              · rintro G ds ⟨r, t, k, n, m, rfl, hm, hd⟩
                exact ⟨_, (ev_bin (ev_var 6 (by rfl) (pv 6)) (ev_bin ev_int ev_int (by walk_at "od")) (by walk_at "od")), rfl, _, _, _, _, m, rfl, hm, hd⟩
          · rintro G ds ⟨r, t, k, n, m, h, hm, hd⟩
            exact ⟨_, _, _, _, _, m, h, hm, hd⟩
    · rintro G ds ⟨rfl, rfl⟩
      exact ⟨_, _, _, _, _, 0, rfl, Nat.zero_le _, [], rfl, by simp, rfl⟩
  ·
    refine hrs_cons (Mid := fun G ds => someInts 0 1000000 ds many) ?_ (hrs_ret (pv 4) fun G ds ⟨rs, h1, h2, h3⟩ => ⟨_, _, many, rfl, rs, h1, h2, congrArg PyData.list h3⟩)
    refine ht_ex (Pr := fun (q : Option PyData × Option PyData × Option PyData × Option PyData × Option PyData × Nat) G ds => GN (some (.list (ns.map PyData.int))) (some (.int a)) many zs G q.1 q.2.1 q.2.2.1 q.2.2.2.1 q.2.2.2.2.1 ∧ q.2.2.2.2.2 ≤ many ∧ someInts 0 1000000 ds q.2.2.2.2.2) ?_ |>.imp fun D σ H ⟨⟨G, ds, ⟨c, r, t, k, n, m, h⟩, o⟩, q⟩ => ⟨⟨G, ds, ⟨(c, r, t, k, n, m), h⟩, o⟩, q⟩
    rintro ⟨c, r, t, k, n, m⟩
    refine ht_forR (j := 8) (lo := m) (n := ((many : Int) - (m : Int)).toNat) (fun i G ds => (∃ c r t k n, GN (some (.list (ns.map PyData.int))) (some (.int a)) many zs G c r t k n) ∧ m ≤ many ∧ someInts 0 1000000 ds (m + i)) PassesOwn.never rfl (by decide) (pg_name (i := 8) sc_law_numbers.nd rfl (Or.inl rfl)) ?_ ?_ ?_
    · rintro G ds ⟨rfl, hm, hd⟩
      have hm : m ≤ many := hm
      have hl : ds.length = m := hd.len
      refine ⟨⟨⟨_, _, _, _, _, rfl⟩, hm, hd⟩, ?_⟩
      exact pi_r2 (m := (m : Int)) (n := (many : Int)) (ev_eq (ev_callB2 "len" (av_cons (ev_var 4 (by rfl) (pv 4)) av_nil) (by walk_at "cd") rfl T.b_len (by decide +kernel)) (by rw [hl])) (ev_var 2 (by rfl) (pv 2)) ⟨by omega, by omega, by omega, by omega⟩ rfl T.b_range
    · intro i hi
      refine hts_cons (Mid := fun G ds => (∃ c r t v, GN (some (.list (ns.map PyData.int))) (some (.int a)) many zs G c r t (some (.int ((m : Int) + (i : Nat)))) (some (.int v)) ∧ 0 ≤ v ∧ v ≤ 1009008000) ∧ m ≤ many ∧ someInts 0 1000000 ds (m + i)) (ht_set (j := 9) sc_law_numbers.nd rfl (by decide) (Or.inl rfl) ?_) ?_
      · rintro G ds ⟨G', ⟨⟨c, r, t, k, n, rfl⟩, hm, hd⟩, rfl⟩
        have hk0 : 0 ≤ (m : Int) + (i : Nat) := by omega
        have hk1 : (m : Int) + (i : Nat) ≤ 1000 := by omega
        obtain ⟨q0, q1⟩ := sqr_bound hk0 hk1
        exact ⟨_, (ev_bin (ev_bin (ev_bin (ev_bin ev_int (ev_var 8 (by rfl) (pv 8)) (by walk_at "od")) (ev_var 8 (by rfl) (pv 8)) (by walk_at "od")) (ev_bin ev_int (ev_var 8 (by rfl) (pv 8)) (by walk_at "od")) (by walk_at "od")) ev_int (by walk_at "od")), rfl, ⟨_, _, _, _, rfl, by omega, by omega⟩, hm, hd⟩
      refine hts_cons (Mid := fun G ds => (∃ c r t v, GN (some (.list (ns.map PyData.int))) (some (.int a)) many zs G c r t (some (.int ((m : Int) + (i : Nat)))) (some (.int v)) ∧ 0 ≤ v ∧ v ≤ 4000000000) ∧ m ≤ many ∧ someInts 0 1000000 ds (m + i)) ?_ ?_
      · refine ht_if (PreA := fun G ds => 0 < zs.length ∧ (∃ c r t v, GN (some (.list (ns.map PyData.int))) (some (.int a)) many zs G c r t (some (.int ((m : Int) + (i : Nat)))) (some (.int v)) ∧ 0 ≤ v ∧ v ≤ 1009008000) ∧ m ≤ many ∧ someInts 0 1000000 ds (m + i)) (PreB := fun G ds => (∃ c r t v, GN (some (.list (ns.map PyData.int))) (some (.int a)) many zs G c r t (some (.int ((m : Int) + (i : Nat)))) (some (.int v)) ∧ 0 ≤ v ∧ v ≤ 1009008000) ∧ m ≤ many ∧ someInts 0 1000000 ds (m + i)) ?_ ?_ (hts_nil ?_)
        · rintro G ds ⟨⟨c, r, t, v, rfl, h1, h2⟩, hm, hd⟩
          by_cases hz : 0 < zs.length
          · exact .inl ⟨tv_eq (tv_cmp (ev_callB2 "len" (av_cons (ev_var 3 (by rfl) (pv 3)) av_nil) (by walk_at "cd") rfl T.b_len (by decide +kernel)) ev_int (by walk_at "od") (nomark _)) (by simp; omega), hz, ⟨_, _, _, _, rfl, h1, h2⟩, hm, hd⟩
          · exact .inr ⟨tv_eq (tv_cmp (ev_callB2 "len" (av_cons (ev_var 3 (by rfl) (pv 3)) av_nil) (by walk_at "cd") rfl T.b_len (by decide +kernel)) ev_int (by walk_at "od") (nomark _)) (by simp; exact List.eq_nil_of_length_eq_zero (by omega)), ⟨_, _, _, _, rfl, h1, h2⟩, hm, hd⟩
        · refine hts_cons (ht_set (j := 9) sc_law_numbers.nd rfl (by decide) (Or.inl rfl) ?_) (hts_nil fun _ _ h => h)
          rintro G ds ⟨hz, ⟨c, r, t, v, rfl, h1, h2⟩, hm, hd⟩
          have hlm : ((List.map PyData.int zs).length : Int) = zs.length := by rw [List.length_map]
          have hp : 0 < ((List.map PyData.int zs).length : Int) := by omega
          have hi0 : 0 ≤ ((m : Int) + (i : Nat)) % ((List.map PyData.int zs).length : Int) := Int.emod_nonneg _ (by omega)
          have hi1 : ((m : Int) + (i : Nat)) % ((List.map PyData.int zs).length : Int) < zs.length := by rw [← hlm]; exact Int.emod_lt_of_pos _ hp
          have hz' : (0 : Int) < zs.length := by omega
          exact ⟨_, (ev_bin (ev_bin (ev_var 9 (by rfl) (pv 9)) (ev_bin (by first | exact ev_ixL (ev_var 3 (by rfl) (pv 3)) (ev_bin (ev_var 8 (by rfl) (pv 8)) (ev_callB2 "len" (av_cons (ev_var 3 (by rfl) (pv 3)) av_nil) (by walk_at "cd") rfl T.b_len (by decide +kernel)) (by walk_at "od")) (by walk_at "at") | exact ev_ixT (ev_var 3 (by rfl) (pv 3)) (ev_bin (ev_var 8 (by rfl) (pv 8)) (ev_callB2 "len" (av_cons (ev_var 3 (by rfl) (pv 3)) av_nil) (by walk_at "cd") rfl T.b_len (by decide +kernel)) (by walk_at "od")) (by walk_at "at")) ev_int (by walk_at "od")) (by walk_at "od")) (ev_bin (by first | exact ev_ixL (ev_var 3 (by rfl) (pv 3)) ev_int (by walk_at "at") | exact ev_ixT (ev_var 3 (by rfl) (pv 3)) ev_int (by walk_at "at")) ev_int (by walk_at "od")) (by walk_at "od")), rfl, ⟨_, _, _, _, rfl, by omega, by omega⟩, hm, hd⟩
        · rintro G ds ⟨⟨c, r, t, v, rfl, h1, h2⟩, hm, hd⟩
          exact ⟨⟨_, _, _, _, rfl, h1, by omega⟩, hm, hd⟩
      refine hts_cons (Mid := fun G ds => (∃ c r t v, GN (some (.list (ns.map PyData.int))) (some (.int a)) many zs G c r t (some (.int ((m : Int) + (i : Nat)))) (some (.int v)) ∧ 0 ≤ v ∧ v ≤ 4000000000) ∧ m ≤ many ∧ someInts 0 1000000 ds (m + i)) (ht_set (j := 9) sc_law_numbers.nd rfl (by decide) (Or.inl rfl) ?_) ?_
      · rintro G ds ⟨⟨c, r, t, v, rfl, h1, h2⟩, hm, hd⟩
        exact ⟨_, (ev_bin (ev_bin (ev_var 9 (by rfl) (pv 9)) (ev_var 9 (by rfl) (pv 9)) (by walk_at "od")) ev_int (by walk_at "od")), rfl, ⟨_, _, _, _, rfl, by omega, by omega⟩, hm, hd⟩
      refine hts_cons (Mid := fun G ds => (∃ c r t v, GN (some (.list (ns.map PyData.int))) (some (.int a)) many zs G c r t (some (.int ((m : Int) + (i : Nat)))) (some (.int v)) ∧ 0 ≤ v ∧ v ≤ 4000000000) ∧ m ≤ many ∧ someInts 0 1000000 ds (m + i)) (ht_set (j := 9) sc_law_numbers.nd rfl (by decide) (Or.inl rfl) ?_) ?_
      · rintro G ds ⟨⟨c, r, t, v, rfl, h1, h2⟩, hm, hd⟩
        exact ⟨_, (ev_bin (ev_bin (ev_bin (ev_var 9 (by rfl) (pv 9)) ev_int (by walk_at "od")) (ev_bin ev_int (ev_var 8 (by rfl) (pv 8)) (by walk_at "od")) (by walk_at "od")) ev_int (by walk_at "od")), rfl, ⟨_, _, _, _, rfl, by omega, by omega⟩, hm, hd⟩
      refine hts_cons (ht_append ?_ (pv 4)) (hts_nil fun _ _ h => h)
      rintro G ds ⟨⟨c, r, t, v, rfl, h1, h2⟩, hm, hd⟩
      have hl := hd.len
      exact ⟨.int (v * v % 998244353 % 1000000), ev_eq (ev_bin (ev_bin (ev_bin (ev_var 9 (by rfl) (pv 9)) (ev_var 9 (by rfl) (pv 9)) (by walk_at "od")) ev_int (by walk_at "od")) (ev_bin ev_int ev_int (by walk_at "od")) (by walk_at "od")) rfl, rfl, by rw [hl, sizeLine_eq]; omega, ⟨_, _, _, _, _, rfl⟩, hm, hd.snoc (by omega) (by omega)⟩
    · rintro G ds ⟨_, hm, hd⟩
      have e : m + ((many : Int) - (m : Int)).toNat = many := by omega
      rw [e] at hd
      exact hd
end
section
variable {P : Program} {w : World} {K : PySem.W.Frag} {mg : Str → Option Value} {base : Heap}
def tpD (cs : List Int) (c : Int) : PyData := .tuple [.int c, .int (cs.getD c.toNat 0)]
def textD (cs sm : List Int) : PyData := .tuple ((srtI sm).map (tpD cs))
def inCs (cs sm : List Int) : Prop := ∀ x ∈ sm, 0 ≤ x ∧ x < (cs.length : Int)
theorem srt_short {sm : List Int} (h : sm.length < 64) : (srtI sm).length < 64 := by
  rw [srt_len]
  exact Nat.lt_of_le_of_lt (PyProof.Rows.firstMet_length_le _ _) h
theorem noLs_tps (cs : List Int) : ∀ l : List Int, noLs (l.map (tpD cs)) = true
  | [] => rfl
  | a :: l => by rw [List.map_cons]; unfold noLs; rw [noLs_tps cs l]; rfl
theorem noL_text (cs sm : List Int) : noL (textD cs sm) = true := by
  show noLs ((srtI sm).map (tpD cs)) = true
  exact noLs_tps cs _
theorem flat_ints : ∀ l : List Int, (l.map PyData.int).all flatD = true
  | [] => rfl
  | a :: l => by rw [List.map_cons, List.all_cons, flat_ints l]; rfl
theorem any_int {s : Int} : ∀ {l : List Int}, s ∈ l → ((l.map PyData.int).any fun e => PyData.eqv e (.int s)) = true
  | a :: l, h => by
    rw [List.map_cons, List.any_cons]
    rcases List.mem_cons.mp h with rfl | h
    · rw [show PyData.eqv (.int s) (.int s) = true by simp [PyData.eqv]]
      rfl
    · rw [any_int h, Bool.or_true]
def F_text_of (ds : List PyData) (d : PyData) : Prop := ∃ cs sm : List Int, inCs cs sm ∧ sm.length < 64 ∧ cs.length ≤ 1000 ∧ ds = [.list (cs.map .int), .list (sm.map .int)] ∧ d = textD cs sm
theorem d_text_of (T : Txt mg) {f : Addr} {fd : FuncData} (D_is_below : DFn P w K mg base 1 "is_below" F_is_below) (F : Fun K "text_of" "text_of" s_text_of f fd) (hm : mg "text_of" = some (.ref f)) : DFn P w K mg base 2 "text_of" F_text_of := by
  refine F.data hm (F.binds fun _ _ _ _ _ _ us hl => match us, hl with | [_, _], _ => rfl) sc_text_of (fun ds d ⟨_, _, _, _, _, e, _⟩ => by rw [e]; rfl) fun cdv A outer s H E ds d hr ⟨cs, sm, hin, h64, hc, e, e2⟩ => ?_
  subst e e2
  have hlm : ((List.map PyData.int cs).length : Int) = cs.length := by rw [List.length_map]
  refine svs_cons (sv_setComp (ix := [0]) (N := ["cell", "cells"]) (B := bind1) (as := sm) (D := PyData.int) (fun _ => true) (fun c => PyData.int c) rfl sc_text_of.nd (i := 2) rfl rfl (of_decide_eq_true (by kernel_rfl)) (own_name (by decide)) (iv_list (ev_var 1 (by rfl) (pv 1))) (by rw [sizeLine_eq]; omega) (fun _ _ => bindD1 _) (fun _ _ _ _ _ => pg_name (i := 0) (show List.Nodup (["cell", "cells"] : List Str) by decide +kernel) rfl (Or.inl rfl)) ?pf (fun a ha hP cl C s H fp => (ev_var 0 (by rfl) (pv 0)))) ?_
  case pf =>
    intro a ha cl C s H fp
    obtain ⟨h0, h1⟩ := hin a ha
    refine pf_D1 (tv_eq (tv_val (ev_call D_is_below (by walk_at "rm") rfl (av_cons (ev_var 0 (by rfl) (pv 0)) (av_cons (ev_callB2 "len" (av_cons (ev_var 1 (by rfl) (pv 1)) av_nil) (by walk_at "cd") rfl T.b_len (by decide +kernel)) av_nil)) ⟨.int a, _, rfl, rfl, rfl⟩)) ?_)
    show (decide (0 ≤ a) && decide (a < ((List.map PyData.int cs).length : Int))) = true
    rw [hlm, decide_eq_true h0, decide_eq_true h1]
    rfl
  rw [filter_true]
  have hs := srt_short h64
  refine svs_ret (sv_ret (ev_eq (ev_callTy2 "tuple" (av_cons (ev_comp (ix := [0]) (N := ["cell", "cells"]) (B := bind1) (as := srtI sm) (D := PyData.int) (fun _ => true) (tpD cs) rfl (of_decide_eq_true (by kernel_rfl)) (own_name (by decide)) (iv_list (evf_ev (evf_sortedSet rfl (ev_var 2 (by rfl) (pv 2)) h64 rfl T.b_sorted rfl T.b_set))) (by rw [sizeLine_eq]; omega) (fun _ _ => bindD1 _) (fun _ _ _ _ _ => pg_name (i := 0) (show List.Nodup (["cell", "cells"] : List Str) by decide +kernel) rfl (Or.inl rfl)) (fun a ha cl C s H fp => pf_D0) ?el) av_nil) cd_tupleL rfl T.b_tuple (by decide +kernel)) (by rw [filter_true]; rfl)))
  intro a ha hP cl C s H fp
  obtain ⟨h0, h1⟩ := hin a ((srtI_mem a sm).mp ha)
  exact ev_tup (av_cons (ev_var 0 (by rfl) (pv 0)) (av_cons (ev_ixL (ev_var 1 (by rfl) (pv 1)) (ev_var 0 (by rfl) (pv 0)) (at_ints h0 h1)) av_nil)) (by walk_at "sz")
def F_wholeI (ds : List PyData) (d : PyData) : Prop := ∃ i : Int, ds = [.int i] ∧ d = .bool true
theorem d_law_whole (T : Txt mg) {f : Addr} {fd : FuncData} (F : Fun K "_law_whole" "_law_whole" s_law_whole f fd) (hm : mg "_law_whole" = some (.ref f)) : DFn P w K mg base 1 "_law_whole" F_wholeI := by
  refine F.data hm (F.binds fun _ _ _ _ _ _ us hl => match us, hl with | [_], _ => rfl) sc_law_whole (fun ds d ⟨_, e, _⟩ => by rw [e]; rfl) fun cdv A outer s H E ds d hr ⟨i, e, e2⟩ => ?_
  subst e e2
  exact svs_ret (sv_ret (ev_eq (d := .bool true) (ev_and (ev_isi (n := "int") (ev_var 0 (by rfl) (pv 0)) rfl T.b_isinstance rfl T.b_int (by decide +kernel) (by rfl)) (fun _ => ev_one (ev_eq (ev_not (ev_isi (n := "bool") (ev_var 0 (by rfl) (pv 0)) rfl T.b_isinstance rfl T.b_bool (by decide +kernel) (by rfl))) rfl)) (fun h => by cases h)) rfl))
def F_is_text (ds : List PyData) (d : PyData) : Prop := ∃ cs sm : List Int, inCs cs sm ∧ sm.length < 64 ∧ cs.length ≤ 1000 ∧ ds = [textD cs sm, .list (cs.map .int), .list (sm.map .int)] ∧ d = .bool true
def lastAt (l : List Int) : Nat → Int
  | 0 => -1
  | i + 1 => l.getD i 0
theorem last_lt {sm cs : List Int} (hin : inCs cs sm) {i : Nat} {c : Int} (h : (srtI sm)[i]? = some c) : lastAt (srtI sm) i < c := by
  have hlt : i < (srtI sm).length := (List.getElem?_eq_some_iff.mp h).1
  have ec : (srtI sm)[i] = c := by rw [List.getElem?_eq_getElem hlt] at h; exact Option.some.inj h
  cases i with
  | zero =>
    have := hin c ((srtI_mem c sm).mp (List.mem_of_getElem? h))
    show -1 < c
    omega
  | succ i =>
    have hp := List.pairwise_iff_getElem.mp (srtI_rise sm) i (i + 1) (by omega) hlt (by omega)
    show (srtI sm).getD i 0 < c
    rw [List.getD_eq_getElem?_getD, List.getElem?_eq_getElem (by omega), ← ec]
    exact hp
theorem d_law_is_text (T : Txt mg) {f : Addr} {fd : FuncData} (D_law_whole : DFn P w K mg base 1 "_law_whole" F_wholeI) (F : Fun K "_law_is_text" "_law_is_text" s_law_is_text f fd) (hm : mg "_law_is_text" = some (.ref f)) : DFn P w K mg base 2 "_law_is_text" F_is_text := by
  refine F.data hm (F.binds fun _ _ _ _ _ _ us hl => match us, hl with | [_, _, _], _ => rfl) sc_law_is_text (fun ds d ⟨_, _, _, _, _, e, _⟩ => by rw [e]; rfl) fun cdv A outer s H E ds d hr ⟨cs, sm, hin, h64, hc, e, e2⟩ => ?_
  subst e e2
  unfold textD
  refine svs_cons (sv_if (k := false) (tv_w (wv_or (k := false) (k' := false) (tv_not (k := true) (tv_val (ev_isi (n := "tuple") (ev_var 0 (by rfl) (pv 0)) rfl T.b_isinstance rfl T.b_tuple (by decide +kernel) (by rfl)))) (fun _ => wv_or1 (tv_cmp (ev_callB2 "len" (av_cons (ev_var 0 (by rfl) (pv 0)) av_nil) (by walk_at "cd") rfl T.b_len (by decide +kernel)) (ev_lenSet rfl (ev_var 2 (by rfl) (pv 2)) h64 rfl T.b_len rfl T.b_set) (od_ne (by walk_at "un") rfl rfl (by walk_at "dp") (by rw [List.length_map, eqv_self _ rfl]; rfl)) (nomark _))))) (fun h => by cases h) (fun _ => svs_nil)) ?_
  refine svs_cons (sv_set (i := 3) sc_law_is_text.nd rfl (by first | exact Or.inl rfl | exact Or.inr rfl) (ev_neg ev_int)) ?_
  refine svs_cons (G1 := [some (.tuple ((srtI sm).map (tpD cs))), some (.list (cs.map PyData.int)), some (.list (sm.map PyData.int)), some (.int (lastAt (srtI sm) (srtI sm).length)), none]) (sv_for (k := 0) (as := srtI sm) (D := tpD cs) (g := gName 4) (B := bindAt 4) (fun i => [some (.tuple ((srtI sm).map (tpD cs))), some (.list (cs.map PyData.int)), some (.list (sm.map PyData.int)), some (.int (lastAt (srtI sm) i)), none]) PassesOwn.never rfl (iv_tup (ev_var 0 (by rfl) (pv 0))) (pg_name (i := 4) sc_law_is_text.nd rfl (Or.inl rfl)) (fun _ _ => bindDAt 4 _) ?b1) (svs_ret (sv_ret ev_bl))
  intro i c hi
  have hlast := last_lt hin hi
  have hmem : c ∈ sm := (srtI_mem c sm).mp (List.mem_of_getElem? hi)
  obtain ⟨h0, h1⟩ := hin c hmem
  have enx : lastAt (srtI sm) (i + 1) = c := by show (srtI sm).getD i 0 = c; rw [List.getD_eq_getElem?_getD, hi]; rfl
  rw [enx]
  generalize lastAt (srtI sm) i = la at hlast
  refine svs_forget (G1 := [some (.tuple ((srtI sm).map (tpD cs))), some (.list (cs.map PyData.int)), some (.list (sm.map PyData.int)), some (.int c), some (.tuple [.int c, .int (cs.getD c.toNat 0)])]) ?_ rfl ?fg
  case fg =>
    intro j d e
    match j, e with
    | 0, e => exact e
    | 1, e => exact e
    | 2, e => exact e
    | 3, e => exact e
    | 4, e => cases e
    | n + 5, e => cases e
  show SVs _ [some (.tuple ((srtI sm).map (tpD cs))), some (.list (cs.map PyData.int)), some (.list (sm.map PyData.int)), some (.int la), some (.tuple [.int c, .int (cs.getD c.toNat 0)])] _ _
  refine svs_cons (sv_if (k := false) (tv_w (wv_or (k := false) (k' := false) (tv_not (k := true) (tv_val (ev_isi (n := "tuple") (ev_var 4 (by rfl) (pv 4)) rfl T.b_isinstance rfl T.b_tuple (by decide +kernel) (by rfl)))) (fun _ => wv_or (k := false) (k' := false) (tv_eq (tv_cmp (ev_callB2 "len" (av_cons (ev_var 4 (by rfl) (pv 4)) av_nil) (by walk_at "cd") rfl T.b_len (by decide +kernel)) ev_int (by walk_at "od") (nomark _)) rfl) (fun _ => wv_or (k := false) (k' := false) (tv_not (k := true) (tv_val (ev_call D_law_whole (by walk_at "rm") rfl (av_cons (by first | exact ev_ixL (ev_var 4 (by rfl) (pv 4)) ev_int (by walk_at "at") | exact ev_ixT (ev_var 4 (by rfl) (pv 4)) ev_int (by walk_at "at")) av_nil) ⟨_, rfl, rfl⟩))) (fun _ => wv_or1 (tv_not (k := true) (tv_val (ev_call D_law_whole (by walk_at "rm") rfl (av_cons (by first | exact ev_ixL (ev_var 4 (by rfl) (pv 4)) ev_int (by walk_at "at") | exact ev_ixT (ev_var 4 (by rfl) (pv 4)) ev_int (by walk_at "at")) av_nil) ⟨_, rfl, rfl⟩)))))))) (fun h => by cases h) (fun _ => svs_nil)) ?_
  refine svs_cons (sv_if (k := false) (tv_w (wv_or (k := false) (k' := false) (tv_eq (tv_cmp (by first | exact ev_ixL (ev_var 4 (by rfl) (pv 4)) ev_int (by walk_at "at") | exact ev_ixT (ev_var 4 (by rfl) (pv 4)) ev_int (by walk_at "at")) (ev_var 3 (by rfl) (pv 3)) (by walk_at "od") (nomark _)) (decide_eq_false (by omega))) (fun _ => wv_or (k := false) (k' := false) (tv_cmp (by first | exact ev_ixL (ev_var 4 (by rfl) (pv 4)) ev_int (by walk_at "at") | exact ev_ixT (ev_var 4 (by rfl) (pv 4)) ev_int (by walk_at "at")) (ev_var 2 (by rfl) (pv 2)) (od_notIn (.inl rfl) rfl (flat_ints _) (by rw [any_int hmem]; rfl)) (by with_unfolding_all rfl)) (fun _ => wv_or1 (tv_cmp (by first | exact ev_ixL (ev_var 4 (by rfl) (pv 4)) ev_int (by walk_at "at") | exact ev_ixT (ev_var 4 (by rfl) (pv 4)) ev_int (by walk_at "at")) (ev_ixL (ev_var 1 (by rfl) (pv 1)) (by first | exact ev_ixL (ev_var 4 (by rfl) (pv 4)) ev_int (by walk_at "at") | exact ev_ixT (ev_var 4 (by rfl) (pv 4)) ev_int (by walk_at "at")) (at_ints h0 h1)) (od_ne (by walk_at "un") rfl rfl (by walk_at "dp") (by rw [eqv_self _ rfl]; rfl)) (nomark _)))))) (fun h => by cases h) (fun _ => svs_nil)) ?_
  exact svs_cons (sv_set (i := 3) sc_law_is_text.nd rfl (by first | exact Or.inl rfl | exact Or.inr rfl) (by first | exact ev_ixL (ev_var 4 (by rfl) (pv 4)) ev_int (by walk_at "at") | exact ev_ixT (ev_var 4 (by rfl) (pv 4)) ev_int (by walk_at "at"))) svs_nil
end
section
variable {P : Program} {w : World} {K : PySem.W.Frag} {mg : Str → Option Value} {base : Heap}
theorem lay_ints (l : List Int) : (PyData.list (l.map PyData.int)).canLay0 = true := canLayAll_map l fun _ _ => rfl
theorem depth_intsL (l : List Int) : (PyData.list (l.map PyData.int)).depth ≤ 2 := by
  have := depthAll_map (f := PyData.int) (n := 1) l fun _ _ => by simp [PyData.depth]
  simp [PyData.depth]
  omega
theorem lay_two (a b : List Int) : (PyData.list [.list (a.map PyData.int), .list (b.map PyData.int)]).canLay0 = true := by
  have h1 := lay_ints a
  have h2 := lay_ints b
  unfold PyData.canLay0 at h1 h2 ⊢
  simp only [PyData.canLayAll0, PyData.canLay0, h1, h2, Bool.and_self]
theorem depth_two (a b : List Int) : (PyData.list [.list (a.map PyData.int), .list (b.map PyData.int)]).depth ≤ 60 := by
  have h1 := depth_intsL a
  have h2 := depth_intsL b
  have : (PyData.list [.list (a.map PyData.int), .list (b.map PyData.int)]).depth = max (max (PyData.list (a.map PyData.int)).depth (max (PyData.list (b.map PyData.int)).depth 0)) 0 + 1 := by
    simp [PyData.depth, PyData.depthAll]
  rw [this]
  omega
def bump (l : List Int) (c : Int) : List Int := l.set c.toNat ((l.getD c.toNat 0 + 1) % 4096)
theorem bump_len (l : List Int) (c : Int) : (bump l c).length = l.length := List.length_set ..
theorem bumps_len : ∀ (sm l : List Int), (sm.foldl bump l).length = l.length
  | [], l => rfl
  | c :: sm, l => by
    show (sm.foldl bump (bump l c)).length = _
    rw [bumps_len sm, bump_len]
theorem noLs_ints : ∀ l : List Int, noLs (l.map PyData.int) = true
  | [] => rfl
  | a :: l => by rw [List.map_cons]; unfold noLs; rw [noLs_ints l]; rfl
abbrev fr9 (ns rs cs : List Int) (m : Nat) (a b c d e : Option PyData) : Gam := [some (.list (ns.map PyData.int)), some (.list (rs.map PyData.int)), some (.int (m : Int)), some (.list (cs.map PyData.int)), a, b, c, none, d, e]
theorem ok_law (T : Txt mg) {f : Addr} {fd : FuncData} (R_law_numbers : RFn P w K mg base 1 "_law_numbers" numF numPre) (D_text_of : DFn P w K mg base 2 "text_of" F_text_of) (D_law_is_text : DFn P w K mg base 2 "_law_is_text" F_is_text)
    (F : Fun K "law" "law" s_law f fd) : FnOk P w K mg base CX0 20 f fd ["script"] (spD K F_law) := by
  refine F.dataOk sc_law (fun ds d ⟨_, e, _⟩ => by rw [e]; rfl) fun cdv A outer s H E ds d hr ⟨ns, e, hns, e2⟩ => ?_
  subst e e2
  refine svs_setR (i := 1) sc_law.nd rfl (by first | exact Or.inl rfl | exact Or.inr rfl) (evr_call R_law_numbers (by walk_at "rm") rfl (av_cons (ev_var 0 (by rfl) (pv 0)) (av_cons ev_int (av_cons ev_int av_nil))) ⟨ns, 0, 60, hns, by decide, rfl⟩) ?_
  rintro d ⟨_, _, many, em, rs, hrs, hb, rfl⟩
  have em : many = 60 := by
    have := List.cons.inj (List.cons.inj (List.cons.inj em).2).2
    have := PyData.int.inj this.1
    omega
  subst em
  have hr0 : (0 : Int) < rs.length := by omega
  have g0 : 0 ≤ rs.getD (0 : Int).toNat 0 % 8 ∧ rs.getD (0 : Int).toNat 0 % 8 < 8 := by omega
  obtain ⟨m, hmm⟩ : ∃ m : Nat, 16 * (1 + rs.getD (0 : Int).toNat 0 % 8) = (m : Int) := ⟨(16 * (1 + rs.getD (0 : Int).toNat 0 % 8)).toNat, by omega⟩
  have hm16 : 16 ≤ m ∧ m ≤ 128 := by omega
  refine svs_cons (sv_set (i := 2) (d := .int (m : Int)) sc_law.nd rfl (by first | exact Or.inl rfl | exact Or.inr rfl) (ev_eq (ev_bin ev_int (ev_bin ev_int (ev_bin (ev_ixL (ev_var 1 (by rfl) (pv 1)) ev_int (at_ints (by decide) hr0)) ev_int (od_mod (by decide))) od_add) (od_mul (.inl ⟨by decide, by decide⟩))) (congrArg PyData.int hmm))) ?_
  refine svs_cons (sv_setComp (ix := [1]) (N := ["k", "numbers"]) (B := bind1) (as := List.range (m : Int).toNat) (D := fun (i : Nat) => PyData.int (0 + (i : Int))) (fun _ => true) (fun (k : Nat) => PyData.int (rs.getD (k % 60) 0 / (1 + (k / 60 : Nat)) % 4096)) rfl sc_law.nd (i := 3) rfl rfl (of_decide_eq_true (by kernel_rfl)) (own_name (by decide))
    (iv_range1 (ev_var 2 (by rfl) (pv 2)) (by omega) (by omega) rfl T.b_range) (by rw [List.length_range, sizeLine_eq]; omega) (fun _ _ => bindD1 _) (fun _ _ _ _ _ => pg_name (i := 0) (show List.Nodup (["k", "numbers"] : List Str) by decide +kernel) rfl (Or.inl rfl)) (fun a ha cl C s H fp => pf_D0) ?el) ?_
  case el =>
    intro k hk hP cl C s H fp
    have hk' : k < m := by have := List.mem_range.mp hk; omega
    have i0 : 0 ≤ (0 + (k : Int)) % 60 := by omega
    have i1 : (0 + (k : Int)) % 60 < (rs.length : Int) := by omega
    refine ev_eq (ev_bin (ev_bin (ev_ixL (ev_var 1 (by rfl) (pv 1)) (ev_bin (ev_var 0 (by rfl) (pv 0)) ev_int (by walk_at "od")) (at_ints i0 i1)) (ev_bin ev_int (ev_bin (ev_var 0 (by rfl) (pv 0)) ev_int (by walk_at "od")) (by walk_at "od")) (od_fdiv ⟨by omega, by omega⟩)) ev_int (od_mod (by decide))) ?_
    have e1 : ((0 + (k : Int)) % 60).toNat = k % 60 := by omega
    have e2 : (1 : Int) + (0 + (k : Int)) / 60 = 1 + ((k / 60 : Nat) : Int) := by omega
    rw [e1, e2]
  rw [filter_true, Int.toNat_natCast, show (List.range m).map (fun (k : Nat) => PyData.int (rs.getD (k % 60) 0 / (1 + (k / 60 : Nat)) % 4096)) = ((List.range m).map fun k => rs.getD (k % 60) 0 / (1 + (k / 60 : Nat)) % 4096).map PyData.int from by rw [List.map_map]; rfl]
  have hcl : ((List.range m).map fun k => rs.getD (k % 60) 0 / (1 + (k / 60 : Nat)) % 4096).length = m := by rw [List.length_map, List.length_range]
  generalize ((List.range m).map fun k => rs.getD (k % 60) 0 / (1 + (k / 60 : Nat)) % 4096) = cs at hcl
  refine svs_cons (G1 := fr9 ns rs cs m none none none none none)
    (sv_for (k := 0) (as := List.range (4 : Int).toNat) (D := fun (i : Nat) => PyData.int (0 + (i : Int))) (g := gName 4) (B := bindAt 4) (fun _ => fr9 ns rs cs m none none none none none) PassesOwn.never rfl
      (iv_range1 ev_int (by walk_at "rg") (by walk_at "rg") rfl T.b_range) (pg_name (i := 4) sc_law.nd rfl (by first | exact Or.inl rfl | exact Or.inr rfl)) (fun _ _ => bindDAt 4 _) ?b1) (svs_ret (sv_ret ev_bl))
  intro i1 t ht
  have ht4 : t < 4 := List.mem_range.mp (List.mem_of_getElem? ht)
  show SVs _ (fr9 ns rs cs m (some (.int (0 + (t : Int)))) none none none none) _ _
  obtain ⟨mm, hmm2⟩ : ∃ mm : Nat, rs.getD (1 + (0 + (t : Int))).toNat 0 % 31 = (mm : Int) := ⟨(rs.getD (1 + (0 + (t : Int))).toNat 0 % 31).toNat, by omega⟩
  have hmm31 : mm < 31 := by omega
  refine svs_cons (sv_set (i := 5) (d := .int (mm : Int)) sc_law.nd rfl (Or.inl rfl) (ev_eq (ev_bin (ev_ixL (ev_var 1 (by rfl) (pv 1)) (ev_bin ev_int (ev_var 4 (by rfl) (pv 4)) (by walk_at "od")) (at_ints (by omega) (by omega))) ev_int (od_mod (by decide))) (congrArg PyData.int hmm2))) ?_
  refine svs_cons (sv_setComp (ix := [1, 4, 2]) (N := ["k", "numbers", "turn", "size"]) (B := bind1) (as := List.range (mm : Int).toNat) (D := fun (i : Nat) => PyData.int (0 + (i : Int))) (fun _ => true) (fun (k : Nat) => PyData.int (rs.getD (5 + (k + 7 * t) % 55) 0 / (1 + (k : Int)) % (m : Int))) rfl sc_law.nd (i := 6) rfl rfl (of_decide_eq_true (by kernel_rfl)) (own_name (by decide))
    (iv_range1 (ev_var 5 (by rfl) (pv 5)) (by omega) (by omega) rfl T.b_range) (by rw [List.length_range, sizeLine_eq]; omega) (fun _ _ => bindD1 _) (fun _ _ _ _ _ => pg_name (i := 0) (show List.Nodup (["k", "numbers", "turn", "size"] : List Str) by decide +kernel) rfl (Or.inl rfl)) (fun a ha cl C s H fp => pf_D0) ?el2) ?_
  case el2 =>
    intro k hk hP cl C s H fp
    have hk' : k < mm := by have := List.mem_range.mp hk; omega
    have i0 : 0 ≤ 5 + ((0 + (k : Int)) + 7 * (0 + (t : Int))) % 55 := by omega
    have i1 : 5 + ((0 + (k : Int)) + 7 * (0 + (t : Int))) % 55 < (rs.length : Int) := by omega
    refine ev_eq (ev_bin (ev_bin (ev_ixL (ev_var 1 (by rfl) (pv 1)) (ev_bin ev_int (ev_bin (ev_bin (ev_var 0 (by rfl) (pv 0)) (ev_bin ev_int (ev_var 2 (by rfl) (pv 2)) (by walk_at "od")) (by walk_at "od")) ev_int (by walk_at "od")) (by walk_at "od")) (at_ints i0 i1)) (ev_bin ev_int (ev_var 0 (by rfl) (pv 0)) (by walk_at "od")) (od_fdiv ⟨by omega, by omega⟩)) (ev_var 3 (by rfl) (pv 3)) (od_mod (by omega))) ?_
    have e1 : (5 + ((0 + (k : Int)) + 7 * (0 + (t : Int))) % 55).toNat = 5 + (k + 7 * t) % 55 := by omega
    rw [e1, Int.zero_add]
  rw [filter_true, Int.toNat_natCast, show (List.range mm).map (fun (k : Nat) => PyData.int (rs.getD (5 + (k + 7 * t) % 55) 0 / (1 + (k : Int)) % (m : Int))) = ((List.range mm).map fun (k : Nat) => rs.getD (5 + (k + 7 * t) % 55) 0 / (1 + (k : Int)) % (m : Int)).map PyData.int from by rw [List.map_map]; rfl]
  have hsl : ((List.range mm).map fun (k : Nat) => rs.getD (5 + (k + 7 * t) % 55) 0 / (1 + (k : Int)) % (m : Int)).length = mm := by rw [List.length_map, List.length_range]
  have hin : inCs cs ((List.range mm).map fun (k : Nat) => rs.getD (5 + (k + 7 * t) % 55) 0 / (1 + (k : Int)) % (m : Int)) := fun x hx => by
    obtain ⟨k, _, rfl⟩ := List.mem_map.mp hx
    rw [hcl]
    exact ⟨Int.emod_nonneg _ (by omega), Int.emod_lt_of_pos _ (by omega)⟩
  generalize ((List.range mm).map fun (k : Nat) => rs.getD (5 + (k + 7 * t) % 55) 0 / (1 + (k : Int)) % (m : Int)) = sm at hsl hin
  show SVs _ (fr9 ns rs cs m (some (.int (0 + (t : Int)))) (some (.int (mm : Int))) (some (.list (sm.map PyData.int))) none none) _ _
  have h64 : sm.length < 64 := by omega
  have hc1 : cs.length ≤ 1000 := by omega
  refine svs_ownN (i := 7) (ws1 := cs.map PyData.int) (ws2 := sm.map PyData.int) sc_law.nd rfl (Or.inl rfl) (by show 7 < 10; decide) (evf_listL (ev_var 3 (by rfl) (pv 3)) rfl T.b_list) (evf_listL (ev_var 6 (by rfl) (pv 6)) rfl T.b_list) (noLs_ints _) (noLs_ints _) fun H0 p q => ?_
  refine hn_cons (Mid := fun G ds es => G = fr9 ns rs cs m (some (.int (0 + (t : Int)))) (some (.int (mm : Int))) (some (.list (sm.map PyData.int))) (some (textD cs sm)) none ∧ ds = cs.map PyData.int ∧ es = sm.map PyData.int) (hn_set (m := 8) sc_law.nd rfl (by decide) (Or.inl rfl) ?s1) ?_
  case s1 =>
    rintro G ds es ⟨rfl, rfl, rfl⟩
    exact ⟨textD cs sm, ev_call D_text_of (by walk_at "rm") rfl (av_cons (ev_ixL (ev_var 7 (by rfl) (pv 7)) ev_int (atI_of (d := .list (cs.map PyData.int)) (by decide) rfl)) (av_cons (ev_ixL (ev_var 7 (by rfl) (pv 7)) ev_int (atI_of (d := .list (sm.map PyData.int)) (by decide) rfl)) av_nil)) ⟨cs, sm, hin, h64, hc1, rfl, rfl⟩, noL_text _ _, rfl, rfl, rfl⟩
  refine hn_cons (hn_ifF ?s2) ?_
  case s2 =>
    rintro G ds es ⟨rfl, rfl, rfl⟩
    exact tv_w (wv_or (k := false) (k' := false) (tv_not (k := true) (tv_val (ev_call D_law_is_text (by walk_at "rm") rfl (av_cons (ev_var 8 (by rfl) (pv 8)) (av_cons (ev_var 3 (by rfl) (pv 3)) (av_cons (ev_var 6 (by rfl) (pv 6)) av_nil))) ⟨cs, sm, hin, h64, hc1, rfl, rfl⟩))) (fun _ => wv_or1 (tv_cmp (ev_var 7 (by rfl) (pv 7)) (ev_lst (av_cons (ev_var 3 (by rfl) (pv 3)) (av_cons (ev_var 6 (by rfl) (pv 6)) av_nil)) (by walk_at "sz")) (od_ne (by walk_at "un") (lay_two _ _) (lay_two _ _) (Nat.le_trans (Nat.min_le_left _ _) (depth_two _ _)) (by rw [eqv_self _ (lay_two _ _)]; rfl)) (nomark _))))
  refine hn_cons (Mid := fun G ds es => (∃ e, G = fr9 ns rs cs m (some (.int (0 + (t : Int)))) (some (.int (mm : Int))) (some (.list (sm.map PyData.int))) (some (textD cs sm)) e) ∧ ds = (sm.foldl bump cs).map PyData.int ∧ es = sm.map PyData.int)
    (hn_for (j := 9) (m := 6) (xs := sm.map PyData.int) (fun k G ds es => (∃ e, G = fr9 ns rs cs m (some (.int (0 + (t : Int)))) (some (.int (mm : Int))) (some (.list (sm.map PyData.int))) (some (textD cs sm)) e) ∧ ds = ((sm.take k).foldl bump cs).map PyData.int ∧ es = sm.map PyData.int) PassesOwn.never rfl (by decide) (pg_name (i := 9) sc_law.nd rfl (Or.inl rfl)) (pv 6) ?p1 ?p2 ?p3) ?_
  case p1 =>
    rintro G ds es ⟨rfl, rfl, rfl⟩
    exact ⟨⟨⟨_, rfl⟩, rfl, rfl⟩, rfl⟩
  case p3 =>
    rintro G ds es ⟨h, rfl, rfl⟩
    exact ⟨h, by rw [List.length_map, List.take_length], rfl⟩
  case p2 =>
    intro H1 k d hd
    rw [List.getElem?_map] at hd
    obtain ⟨c, ec, rfl⟩ := Option.map_eq_some_iff.mp hd
    obtain ⟨c0, c1⟩ := hin c (List.mem_of_getElem? ec)
    have hl := bumps_len (sm.take k) cs
    have et : (sm.take (k + 1)).foldl bump cs = bump ((sm.take k).foldl bump cs) c := by rw [List.take_add_one, ec, List.foldl_append]; rfl
    rw [et]
    generalize (sm.take k).foldl bump cs = l at hl
    refine hn_cons (hn_put (pv 7) ?_) (hn_nil fun _ _ _ h => h)
    rintro G ds es ⟨G', ⟨⟨e, rfl⟩, rfl, rfl⟩, rfl⟩
    refine ⟨.int ((l.getD c.toNat 0 + 1) % 4096), c, c.toNat, ev_bin (ev_bin (ev_ixL (ev_ixL (ev_var 7 (by rfl) (pv 7)) ev_int (atI_of (d := .list (l.map PyData.int)) (by decide) rfl)) (ev_var 9 (by rfl) (pv 9)) (at_ints c0 (by omega))) ev_int od_add) ev_int (od_mod (by decide)), rfl, (ev_var 9 (by rfl) (pv 9)), ?_, ⟨_, rfl⟩, ?_, rfl⟩
    · unfold ixN
      rw [List.length_map, if_pos c0, if_pos (by omega)]
    · unfold bump
      rw [List.map_set]
  refine hn_cons (hn_ifF ?s4) (hn_nil ?fin)
  case s4 =>
    rintro G ds es ⟨⟨e, rfl⟩, rfl, rfl⟩
    have hl := bumps_len sm cs
    generalize sm.foldl bump cs = l at hl
    have hin2 : inCs l sm := fun x hx => by rw [hl]; exact hin x hx
    exact tv_w (wv_or (k := false) (k' := false) (tv_not (k := true) (tv_val (ev_call D_law_is_text (by walk_at "rm") rfl (av_cons (ev_var 8 (by rfl) (pv 8)) (av_cons (ev_var 3 (by rfl) (pv 3)) (av_cons (ev_var 6 (by rfl) (pv 6)) av_nil))) ⟨cs, sm, hin, h64, hc1, rfl, rfl⟩))) (fun _ => wv_or1 (tv_not (k := true) (tv_val (ev_call D_law_is_text (by walk_at "rm") rfl (av_cons (ev_call D_text_of (by walk_at "rm") rfl (av_cons (ev_ixL (ev_var 7 (by rfl) (pv 7)) ev_int (atI_of (d := .list (l.map PyData.int)) (by decide) rfl)) (av_cons (ev_var 6 (by rfl) (pv 6)) av_nil)) ⟨l, sm, hin2, h64, by omega, rfl, rfl⟩) (av_cons (ev_ixL (ev_var 7 (by rfl) (pv 7)) ev_int (atI_of (d := .list (l.map PyData.int)) (by decide) rfl)) (av_cons (ev_var 6 (by rfl) (pv 6)) av_nil))) ⟨l, sm, hin2, h64, by omega, rfl, rfl⟩)))))
  case fin =>
    rintro G ds es ⟨⟨e, rfl⟩, _, _⟩
    refine ⟨rfl, fun j d z => ?_⟩
    match j, z with
    | 0, z => exact z
    | 1, z => exact z
    | 2, z => exact z
    | 3, z => exact z
    | 4, z => cases z
    | 5, z => cases z
    | 6, z => cases z
    | 7, z => cases z
    | 8, z => cases z
    | 9, z => cases z
    | n + 10, z => cases z
end
section
variable {P : Program} {w : World} {K : PySem.W.Frag} {mg : Str → Option Value} {base : Heap}
theorem all_mk {l : PySem.W.OpenLaw} {w : World} {K : PySem.W.Frag} {h : Heap} {mg : Str → Option Value} {fa : Addr} (X : K.In h) (G : h.Ns mainGlobals mg) (hfa : mg "law" = some (.ref fa))
    (f1 : ∃ f fd, FnIn K "is_below" s_is_below f fd) (f2 : ∃ f fd, FnIn K "text_of" s_text_of f fd) (f3 : ∃ f fd, FnIn K "_law_numbers" s_law_numbers f fd) (f4 : ∃ f fd, FnIn K "_law_whole" s_law_whole f fd) (f5 : ∃ f fd, FnIn K "_law_is_text" s_law_is_text f fd) (f6 : ∃ f fd, FnIn K "law" s_law f fd)
    (z1 : PySem.W.nsIn K mainGlobals "len" = some none) (z2 : PySem.W.nsIn K mainGlobals "isinstance" = some none) (z3 : PySem.W.nsIn K mainGlobals "int" = some none) (z4 : PySem.W.nsIn K mainGlobals "bool" = some none) (z5 : PySem.W.nsIn K mainGlobals "list" = some none) (z6 : PySem.W.nsIn K mainGlobals "range" = some none) (z7 : PySem.W.nsIn K mainGlobals "tuple" = some none) (z8 : PySem.W.nsIn K mainGlobals "sorted" = some none) (z9 : PySem.W.nsIn K mainGlobals "set" = some none)
     :
    ∃ fd : FuncData, (∀ (s : Shared) (v : Value), BindsTo s fd ⟨[v], []⟩ [("script", v)]) ∧ ∀ base : Heap, K.In base → base.Ns mainGlobals mg → FnOk l.prog w K mg base CX0 20 fa fd ["script"] (spD K F_law) := by
  have T : Txt mg := ⟨PySem.W.mg_none_of X G z1, PySem.W.mg_none_of X G z2, PySem.W.mg_none_of X G z3, PySem.W.mg_none_of X G z4, PySem.W.mg_none_of X G z5, PySem.W.mg_none_of X G z6, PySem.W.mg_none_of X G z7, PySem.W.mg_none_of X G z8, PySem.W.mg_none_of X G z9⟩
  obtain ⟨a1, b1, F1⟩ := f1
  obtain ⟨a2, b2, F2⟩ := f2
  obtain ⟨a3, b3, F3⟩ := f3
  obtain ⟨a4, b4, F4⟩ := f4
  obtain ⟨a5, b5, F5⟩ := f5
  obtain ⟨a6, b6, F6⟩ := f6
  have e := hfa.symm.trans (PySem.W.mg_of X G F6.ns)
  cases e
  have bs : ∀ (s : Shared) (v : Value), BindsTo s b6 ⟨[v], []⟩ [("script", v)] := by
    obtain ⟨oc, od, kV, doc, pm, an, cdv, ct, osl, rfl, _⟩ := F6.fn.ex
    exact fun s v => .of_eq rfl
  refine ⟨b6, bs, fun base _ _ => ?_⟩
  have D1 : DFn l.prog w K mg base 1 "is_below" F_is_below := d_is_below T F1.fn (PySem.W.mg_of X G F1.ns)
  have D2 : DFn l.prog w K mg base 1 "_law_whole" F_wholeI := d_law_whole T F4.fn (PySem.W.mg_of X G F4.ns)
  exact ok_law T (r_law_numbers T F3.fn (PySem.W.mg_of X G F3.ns)) (d_text_of T D1 F2.fn (PySem.W.mg_of X G F2.ns)) (d_law_is_text T D2 F5.fn (PySem.W.mg_of X G F5.ns)) F6.fn
end
end My
open PySem PySem.W PyProof.Rows
set_option maxRecDepth 100000 in
set_option maxHeartbeats 0 in
theorem PySem.Challenge.cw_likewise_k09_texts_told_holds : PySem.Challenge.rw_likewise_k09_texts_told.Holds := by
  w_on; o_law; k_head; (case hw => w_witness2)
  k_fill
  refine L2.walk_D (l := PySem.Challenge.rw_likewise_k09_texts_told) rfl rfl (fun w h Y => PySem.W.kIn_of Y) ?F
  case F =>
    intro w mg fa h KX G hmg
    refine' My.all_mk KX G hmg ?f1 ?f2 ?f3 ?f4 ?f5 ?f6 ?z1 ?z2 ?z3 ?z4 ?z5 ?z6 ?z7 ?z8 ?z9
    (case f1 => refine' L2.fnIn_mk ?a ?l ?c ?k; (case a => k_is); (case l => k_is); (case c => k_is); (case k => k_is))
    (case f2 => refine' L2.fnIn_mk ?a ?l ?c ?k; (case a => k_is); (case l => k_is); (case c => k_is); (case k => k_is))
    (case f3 => refine' L2.fnIn_mk ?a ?l ?c ?k; (case a => k_is); (case l => k_is); (case c => k_is); (case k => k_is))
    (case f4 => refine' L2.fnIn_mk ?a ?l ?c ?k; (case a => k_is); (case l => k_is); (case c => k_is); (case k => k_is))
    (case f5 => refine' L2.fnIn_mk ?a ?l ?c ?k; (case a => k_is); (case l => k_is); (case c => k_is); (case k => k_is))
    (case f6 => refine' L2.fnIn_mk ?a ?l ?c ?k; (case a => k_is); (case l => k_is); (case c => k_is); (case k => k_is))
    (case z1 => k_is)
    (case z2 => k_is)
    (case z3 => k_is)
    (case z4 => k_is)
    (case z5 => k_is)
    (case z6 => k_is)
    (case z7 => k_is)
    (case z8 => k_is)
    (case z9 => k_is)

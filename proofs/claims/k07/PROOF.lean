import PyProof.Rows.All
import Wide.All
import OpenK.AllK
import Wide.FinOn
import Lean
import PyProof.EqAt
import PyProof.EqKinds
import PyProof.TupleCall
import KE.KSortTup
import KE.KItemsList
import PyProof.Draws
import PyProof.EnumFor
import PyProof.EnumStmt
import PyProof.ExcBaseAll.ValueError
import PyProof.RulesAs
import PyProof.Rows.CatchHere
import PySem.Challenge.RW_likewise_k07_pages_refused
set_option Elab.async false
set_option linter.all false
set_option maxRecDepth 100000
def PySem.W.Fast.tw16617822717785010465 : Unit := ()
def PySem.W.Fast.tw12431043620990943652 : Unit := ()
def PySem.W.Fast.tw12769055997458723909 : Unit := ()
def PySem.W.Fast.tw7087770578612846789 : Unit := ()
def PySem.W.Fast.tw15329046314469553510 : Unit := ()
def PySem.W.Fast.tw5533599806541847014 : Unit := ()
def PySem.W.Fast.tw9641344235954040233 : Unit := ()
def PySem.W.Fast.tw9438616499179823050 : Unit := ()
def PySem.W.Fast.tw8088880381005307980 : Unit := ()
def PySem.W.Fast.tw15869020943131438029 : Unit := ()
def PySem.W.Fast.tw11481281248803544590 : Unit := ()
def PySem.W.Fast.tw4898009041419349553 : Unit := ()
def PySem.W.Fast.tw1281672690663094322 : Unit := ()
def PySem.W.Fast.tw1538657243993759124 : Unit := ()
def PySem.W.Fast.tw16842258150714894165 : Unit := ()
def PySem.W.Fast.tw15016407254703354326 : Unit := ()
def PySem.W.Fast.tw10964466660596704664 : Unit := ()
def PySem.W.Fast.tw2240287779667135292 : Unit := ()
def PySem.W.Fast.tw9930265672753150079 : Unit := ()
namespace L2
open PySem PySem.Spec PyProof.Rows
abbrev Key := Sum Int Str
def keyIs : Key → Value → Bool
  | .inl k, v => Value.isInt k v
  | .inr x, v => Value.isStrOf x v
def keyH (w : World) : Key → Int
  | .inl k => hashInt k
  | .inr x => hashStr w x
theorem keyIs_shape : ∀ {k : Key} {v : Value}, keyIs k v = true → (∃ i t, k = Sum.inl i ∧ v = Value.int i t) ∨ (∃ x t, k = Sum.inr x ∧ v = Value.str x t)
  | .inl i, v, h => by
    obtain ⟨t, e⟩ := Value.isInt_shape (k := i) (v := v) h
    exact .inl ⟨i, t, rfl, e⟩
  | .inr x, v, h => by
    obtain ⟨t, e⟩ := Value.isStrOf_shape (x := x) (v := v) h
    exact .inr ⟨x, t, rfl, e⟩
theorem keyIs_int (i : Int) (t : Tok) : keyIs (.inl i) (.int i t) = true := by simp [keyIs, Value.isInt]
theorem keyIs_str (x : Str) (t : Tok) : keyIs (.inr x) (.str x t) = true := by simp [keyIs, Value.isStrOf]
theorem key_ll (a b : Int) : decide ((Sum.inl a : Key) = Sum.inl b) = (a == b) := by
  by_cases e : a = b
  · subst e; simp
  · have h : ¬ (Sum.inl a : Key) = Sum.inl b := fun q => e (Sum.inl.inj q)
    rw [decide_eq_false h]
    exact (beq_eq_false_iff_ne.mpr e).symm
theorem key_rr (a b : Str) : decide ((Sum.inr a : Key) = Sum.inr b) = decide (a = b) := by
  by_cases e : a = b
  · subst e; simp
  · have h : ¬ (Sum.inr a : Key) = Sum.inr b := fun q => e (Sum.inr.inj q)
    rw [decide_eq_false h, decide_eq_false e]
theorem key_lr (a : Int) (b : Str) : decide ((Sum.inl a : Key) = Sum.inr b) = false := decide_eq_false (fun q => nomatch q)
theorem key_rl (a : Str) (b : Int) : decide ((Sum.inr a : Key) = Sum.inl b) = false := decide_eq_false (fun q => nomatch q)
def mixKind (prog : Program) (w : World) : PySem.KeyKind prog w Key where
  is := keyIs
  hash := keyH w
  inj := fun v a b ha hb => by
    rcases keyIs_shape ha with ⟨i, t, rfl, rfl⟩ | ⟨x, t, rfl, rfl⟩
    · rcases keyIs_shape hb with ⟨j, u, rfl, e⟩ | ⟨y, u, rfl, e⟩
      · injection e with e1 _; rw [e1]
      · exact nomatch e
    · rcases keyIs_shape hb with ⟨j, u, rfl, e⟩ | ⟨y, u, rfl, e⟩
      · exact nomatch e
      · injection e with e1 _; rw [e1]
  byValue := fun k v h => by
    rcases keyIs_shape h with ⟨i, t, rfl, rfl⟩ | ⟨x, t, rfl, rfl⟩ <;> rfl
  pyHash := fun hv h => by
    rcases keyIs_shape hv with ⟨i, t, rfl, rfl⟩ | ⟨x, t, rfl, rfl⟩
    · exact wpAny_pyHash_int h
    · exact wpAny_pyHash_str h
  eqBool := fun hu hv h => by
    rcases keyIs_shape hu with ⟨i, t, rfl, rfl⟩ | ⟨x, t, rfl, rfl⟩
    · rcases keyIs_shape hv with ⟨j, u, rfl, rfl⟩ | ⟨y, u, rfl, rfl⟩
      · rw [key_ll] at h; exact wpAny_eqBool_int h
      · rw [key_lr] at h; exact SeqAt.EqAt.int_str i t y u _ _ _ _ h
    · rcases keyIs_shape hv with ⟨j, u, rfl, rfl⟩ | ⟨y, u, rfl, rfl⟩
      · rw [key_rl] at h; exact SeqAt.EqAt.str_int x t j u _ _ _ _ h
      · rw [key_rr] at h; exact wpAny_eqBool_str h
  «strs» := fun k x t v h => by
    rcases keyIs_shape h with ⟨i, u, rfl, e⟩ | ⟨y, u, rfl, e⟩
    · exact nomatch e
    · injection e with e1 _
      subst e1
      cases v <;> rfl
theorem mixKind_int (prog : Program) (w : World) (i : Int) (t : Tok) : (mixKind prog w).is (.inl i) (.int i t) = true := keyIs_int i t
theorem mixKind_str (prog : Program) (w : World) (x : Str) (t : Tok) : (mixKind prog w).is (.inr x) (.str x t) = true := keyIs_str x t
end L2
namespace L2
open PySem PySem.Spec PyProof.Rows
inductive V where
  | non | bl (b : Bool) | int (i : Int) | str (x : Str) | byt (b : Array UInt8) | flt (b : UInt64) | ref (a : Addr) | ty (n : String)
  deriving DecidableEq
def RelV : V → Value → Prop
  | .non, u => u = Value.none
  | .bl b, u => u = Value.bool b
  | .int i, u => ∃ t, u = Value.int i t
  | .str x, u => ∃ t, u = Value.str x t
  | .byt b, u => ∃ t, u = Value.bytes b t
  | .flt b, u => ∃ t, u = Value.float b t
  | .ref a, u => u = Value.ref a
  | .ty n, u => u = Value.type n
abbrev Vals : List V → List Value → Prop := Paired RelV
theorem Vals.length {xs : List V} {us : List Value} (r : Vals xs us) : xs.length = us.length := Paired.length r
theorem Vals.get : ∀ {xs : List V} {us : List Value} {i : Nat} {x : V}, Vals xs us → xs[i]? = some x → ∃ u, us[i]? = some u ∧ RelV x u
  | _, _, _, _, .nil, e => by simp at e
  | _, _, 0, _, .cons r _, e => by simp at e; subst e; exact ⟨_, rfl, r⟩
  | _, _, i + 1, x, .cons _ t, e => by
    obtain ⟨u, h1, h2⟩ := Vals.get (i := i) (x := x) t (by simpa using e)
    exact ⟨u, by simpa using h1, h2⟩
theorem Vals.set {x : V} {u : Value} (r : RelV x u) : ∀ {xs : List V} {us : List Value} (i : Nat), Vals xs us → Vals (xs.set i x) (us.set i u)
  | _, _, _, .nil => .nil
  | _, _, 0, .cons _ t => .cons r t
  | _, _, i + 1, .cons q t => .cons q (Vals.set r i t)
theorem Vals.append : ∀ {xs ys : List V} {us ws : List Value}, Vals xs us → Vals ys ws → Vals (xs ++ ys) (us ++ ws)
  | _, _, _, _, .nil, s => s
  | _, _, _, _, .cons r t, s => .cons r (Vals.append t s)
theorem Vals.take : ∀ {xs : List V} {us : List Value} (n : Nat), Vals xs us → Vals (xs.take n) (us.take n)
  | _, _, 0, _ => .nil
  | _, _, _ + 1, .nil => .nil
  | _, _, n + 1, .cons r t => .cons r (Vals.take n t)
theorem Vals.drop : ∀ {xs : List V} {us : List Value} (n : Nat), Vals xs us → Vals (xs.drop n) (us.drop n)
  | _, _, 0, r => r
  | _, _, _ + 1, .nil => .nil
  | _, _, n + 1, .cons _ t => Vals.drop n t
theorem Vals.none_of : ∀ {xs : List V} {us : List Value} {i : Nat}, Vals xs us → xs[i]? = none → us[i]? = none := fun {xs us i} r e => by
  have h1 := r.length
  have h2 : xs.length ≤ i := List.getElem?_eq_none_iff.mp e
  exact List.getElem?_eq_none_iff.mpr (by omega)
def RelO : Option V → Option Value → Prop
  | some v, some u => RelV v u
  | none, none => True
  | _, _ => False
def KV {κ : Type} : List (κ × V) → List (κ × Value) → Prop := Paired fun (p : κ × V) (q : κ × Value) => p.1 = q.1 ∧ RelV p.2 q.2
def kV : Key → V
  | .inl i => .int i
  | .inr x => .str x
inductive HO where
  | lst (xs : List V)
  | tup (xs : List V)
  | dK (kvs : List (Key × V)) | dT (kvs : List (List Key × V))
  | set (S : Int → Bool) (n : Nat)
  | ins (C dx : Addr) (fs : List (Str × V))
  | own (x : Addr)
  | xd (fs : List (Str × V))
  | met (f x : Addr)
  | rng (lo hi : Int)
  | frz (o : Obj) (u : HO)
  | tbl (ps : Array Value)
  | ext (φ : Heap → Prop)
abbrev Hp := Addr → Option HO
def upd (H : Hp) (a : Addr) (o : HO) : Hp := fun b => if b = a then some o else H b
theorem upd_same {H : Hp} {a : Addr} {o : HO} : upd H a o a = some o := by unfold upd; rw [if_pos rfl]
theorem upd_ne {H : Hp} {a b : Addr} {o : HO} (h : b ≠ a) : upd H a o b = H b := by unfold upd; rw [if_neg h]
theorem upd_upd {H : Hp} {a : Addr} {o u : HO} : upd (upd H a o) a u = upd H a u := by
  funext b; unfold upd; split <;> rfl
theorem ne_of_none {H : Hp} {a b : Addr} {o : HO} (h : H a = some o) (h' : H b = none) : a ≠ b := by
  intro e; subst e; rw [h] at h'; cases h'
section
variable (P : Program) (w : World)
def ObjOk (H : Hp) (h : Heap) (a : Addr) : HO → Prop
  | .lst xs => xs.length ≤ sizeLine ∧ ∃ (its : List Value) (n : Nat), Vals xs its ∧ h.get? a = some { cls := .type "list", data := .seq its.toArray n }
  | .tup xs => xs.length ≤ sizeLine ∧ ∃ its : List Value, Vals xs its ∧ IsTup h a its.toArray
  | .dK kvs => kvs.length ≤ sizeLine ∧ (a == sysModules) = false ∧ ∃ vs, KV kvs vs ∧ h.DictOf (mixKind P w) a vs
  | .dT kvs => kvs.length ≤ sizeLine ∧ (a == sysModules) = false ∧ ∃ xs : List (List Key × Addr × Value),
      Paired (fun (p : List Key × V) (q : List Key × Addr × Value) => p.1 = q.1 ∧ H q.2.1 = some (.tup (p.1.map kV)) ∧ RelV p.2 q.2.2) kvs xs ∧
      ∃ o es ep, h.get? a = some o ∧ o.ExactDict ∧ o.data = .dict es ep ∧ es.toList = xs.map (entryOfKey (tupleKind (mixKind P w))) ∧ (xs.map (·.1)).Nodup
  | .set S n => h.SetOf (intKind P w) a S n
  | .ins C dx fs => H dx = some (.own a) ∧ fs.length ≤ 1000 ∧ dx ≠ a ∧ h.get? a = some (PySem.W.instObj C dx) ∧
      ∃ mA, h.Ns1 dx mA ∧ (∀ f, RelO (fs.lookup f) (mA f)) ∧ PySem.Within mA (fs.map (·.1))
  | .own _ => ∃ o, h.get? a = some o
  | .xd fs => ∃ mA, h.Ns1 a mA ∧ ∀ f, RelO (fs.lookup f) (mA f)
  | .rng lo hi => ∃ t u v, h.get? a = some { cls := .type "range", data := .fields #[.int lo t, .int hi u, .int 1 v] }
  | .frz o u => h.get? a = some o ∧ ObjOk H h a u
  | .tbl ps => h.get? a = some { cls := .none, data := .fields ps }
  | .met f x => h.get? a = some (PySem.W.methodObj (.ref f) (.ref x))
  | .ext φ => φ h ∧ (∃ o, h.get? a = some o) ∧ ∀ h1 h2 : Heap, φ h1 → (∀ o, h1.get? a = some o → h2.get? a = some o) → φ h2
def HOk (H : Hp) (h : Heap) : Prop := ∀ a o, H a = some o → ObjOk P w H h a o
end
section
variable {P : Program} {w : World} {H H' : Hp} {h h' : Heap} {a : Addr} {o : HO}
theorem ObjOk.lt (x : ObjOk P w H h a o) : a < h.objs.size := by
  cases o with
  | lst xs => obtain ⟨_, _, _, _, e⟩ := x; exact Heap.lt_size e
  | tup xs => obtain ⟨_, _, _, p⟩ := x; exact p.lt
  | dK kvs => obtain ⟨_, _, _, _, o, _, _, e, _⟩ := x; exact Heap.lt_size e
  | dT kvs => obtain ⟨_, _, _, _, o, _, _, e, _⟩ := x; exact Heap.lt_size e
  | set S n => obtain ⟨o, _, _, _, e, _⟩ := x; exact Heap.lt_size e
  | ins C dx fs => obtain ⟨_, _, _, e, _⟩ := x; exact Heap.lt_size e
  | own y => obtain ⟨_, e⟩ := x; exact Heap.lt_size e
  | xd fs => obtain ⟨_, ⟨_, _, _, e, _⟩, _⟩ := x; exact Heap.lt_size e
  | rng lo hi => obtain ⟨_, _, _, e⟩ := x; exact Heap.lt_size e
  | frz ob u => obtain ⟨e, _⟩ := x; exact Heap.lt_size e
  | tbl ps => exact Heap.lt_size (show h.get? a = some _ from x)
  | met f y => exact Heap.lt_size (show h.get? a = some _ from x)
  | ext φ => obtain ⟨_, ⟨_, e⟩, _⟩ := x; exact Heap.lt_size e
theorem Paired.mapP {α β : Type} {F G : α → β → Prop} : ∀ {l₁ : List α} {l₂ : List β}, Paired F l₁ l₂ → (∀ a b, F a b → G a b) → Paired G l₁ l₂
  | _, _, .nil, _ => .nil
  | _, _, .cons r t, f => .cons (f _ _ r) (Paired.mapP t f)
theorem ObjOk.stay (x : ObjOk P w H h a o) (k : ∀ b u, (b = a ∨ H b = some (.own a)) → h.get? b = some u → h'.get? b = some u)
    (ho : ∀ b, H b = some (.own a) → H' b = some (.own a)) (ht : ∀ b xs, H b = some (.tup xs) → H' b = some (.tup xs)) : ObjOk P w H' h' a o := by
  induction o with
  | lst xs => obtain ⟨z, its, n, r, e⟩ := x; exact ⟨z, its, n, r, k _ _ (.inl rfl) e⟩
  | tup xs => obtain ⟨z, its, r, ob, e, c⟩ := x; exact ⟨z, its, r, ob, k _ _ (.inl rfl) e, c⟩
  | dK kvs => obtain ⟨z, y, vs, r, ob, es, ep, e, c⟩ := x; exact ⟨z, y, vs, r, ob, es, ep, k _ _ (.inl rfl) e, c⟩
  | dT kvs =>
    obtain ⟨z, y, xs, r, ob, es, ep, e, c⟩ := x
    exact ⟨z, y, xs, Paired.mapP r fun p q z => ⟨z.1, ht _ _ z.2.1, z.2.2⟩, ob, es, ep, k _ _ (.inl rfl) e, c⟩
  | set S n => obtain ⟨ob, es, ep, t, e, c⟩ := x; exact ⟨ob, es, ep, t, k _ _ (.inl rfl) e, c⟩
  | ins C dx fs =>
    obtain ⟨d, z, ne, e, mA, ⟨od, es, ep, e2, c⟩, r⟩ := x
    exact ⟨ho _ d, z, ne, k _ _ (.inl rfl) e, mA, ⟨od, es, ep, k _ _ (.inr d) e2, c⟩, r⟩
  | own y => obtain ⟨ob, e⟩ := x; exact ⟨ob, k _ _ (.inl rfl) e⟩
  | xd fs => obtain ⟨mA, ⟨od, es, ep, e, c⟩, r⟩ := x; exact ⟨mA, ⟨od, es, ep, k _ _ (.inl rfl) e, c⟩, r⟩
  | rng lo hi => obtain ⟨t, u, v, e⟩ := x; exact ⟨t, u, v, k _ _ (.inl rfl) e⟩
  | frz ob u ih => obtain ⟨e, q⟩ := x; exact ⟨k _ _ (.inl rfl) e, ih q⟩
  | tbl ps =>
    have e : h.get? a = some { cls := .none, data := .fields ps } := x
    show h'.get? a = some { cls := .none, data := .fields ps }
    exact k a _ (.inl rfl) e
  | met f y =>
    have e : h.get? a = some (PySem.W.methodObj (.ref f) (.ref y)) := x
    show h'.get? a = some (PySem.W.methodObj (.ref f) (.ref y))
    exact k a _ (.inl rfl) e
  | ext φ => obtain ⟨p, ⟨o, e⟩, st⟩ := x; exact ⟨st _ _ p fun o q => k _ _ (.inl rfl) q, ⟨o, k _ _ (.inl rfl) e⟩, st⟩
theorem HOk.lt (x : HOk P w H h) (e : H a = some o) : a < h.objs.size := (x a o e).lt
theorem HOk.fresh (x : HOk P w H h) (e : h.objs.size ≤ a) : H a = none := by
  cases q : H a with
  | none => rfl
  | some u => exact absurd (Nat.lt_of_lt_of_le (x.lt q) e) (Nat.lt_irrefl _)
theorem HOk.kept (x : HOk P w H h) (k : ∀ b u, h.get? b = some u → h'.get? b = some u) : HOk P w H h' := fun a o e =>
  (x a o e).stay (fun b u _ q => k b u q) (fun _ q => q) fun _ _ q => q
theorem HOk.laid (x : HOk P w H h) (k : ∀ b u, h.get? b = some u → h'.get? b = some u) (hp : h.objs.size ≤ a) (new : ObjOk P w (upd H a o) h' a o) : HOk P w (upd H a o) h' := fun b u e => by
  have hn := x.fresh hp
  by_cases hb : b = a
  · subst hb; rw [upd_same] at e; cases e; exact new
  · rw [upd_ne hb] at e
    exact (x b u e).stay (fun c v _ q => k c v q) (fun c q => by rw [upd_ne (ne_of_none q hn)]; exact q) fun c xs q => by rw [upd_ne (ne_of_none q hn)]; exact q
end
def Rd (H : Hp) (a : Addr) (u : HO) : Prop := H a = some u ∨ ∃ o, H a = some (.frz o u)
theorem Rd.of {H : Hp} {a : Addr} {u : HO} (h : H a = some u) : Rd H a u := .inl h
theorem Rd.ok {P : Program} {w : World} {H : Hp} {h : Heap} {a : Addr} {u : HO} (r : Rd H a u) (x : HOk P w H h) : ObjOk P w H h a u := by
  rcases r with r | ⟨o, r⟩
  · exact x a u r
  · obtain ⟨_, q⟩ := x a _ r
    exact q
def Mut : Option HO → Prop
  | some (.lst _) => True
  | some (.dK _) => True
  | some (.dT _) => True
  | some (.set _ _) => True
  | some (.ins _ _ _) => True
  | some (.ext _) => True
  | _ => False
section
variable {P : Program} {w : World} {H : Hp} {h h' : Heap} {x e : Addr} {o' : HO}
theorem HOk.write (ok : HOk P w H h) (mu : Mut (H x)) (he : e = x ∨ H e = some (.own x)) (k : ∀ b u, b ≠ e → h.get? b = some u → h'.get? b = some u) (heo : ∃ u, h'.get? e = some u)
    (new : ObjOk P w (upd H x o') h' x o') : HOk P w (upd H x o') h' := fun b u q => by
  have nown : ∀ c y, H c = some (.own y) → c ≠ x := fun c y r z => by subst z; rw [r] at mu; exact mu
  have ntup : ∀ c xs, H c = some (.tup xs) → c ≠ x := fun c xs r z => by subst z; rw [r] at mu; exact mu
  by_cases hb : b = x
  · subst hb; rw [upd_same] at q; cases q; exact new
  · rw [upd_ne hb] at q
    by_cases hbe : b = e
    · have q' : H b = some (.own x) := by
        rcases he with z | z
        · exact absurd (hbe.trans z) hb
        · rw [hbe]; exact z
      rw [q] at q'; cases q'
      obtain ⟨v, hv⟩ := heo
      exact ⟨v, by rw [hbe]; exact hv⟩
    · refine (ok b u q).stay (fun c v hc r => k c v ?_ r) (fun c r => by rw [upd_ne (nown c b r)]; exact r) fun c xs r => by rw [upd_ne (ntup c xs r)]; exact r
      rcases hc with rfl | hc
      · exact hbe
      · rintro rfl
        rcases he with z | z
        · exact nown c b hc z
        · rw [hc] at z; cases z; exact hb rfl
end
structure Un (fs ex : List Addr) (H H' : Hp) (h h' : Heap) : Prop where
  keep : ∀ b o, h.get? b = some o → H b = none → b ∉ fs → b ∉ ex → h'.get? b = some o
  slot : ∀ b o, h.get? b = some o → H b = none → b ∈ fs → b ∉ ex → ∃ sl, h'.get? b = some { o with slots := sl }
  free : ∀ b o, h.get? b = some o → H b = none → b ∉ ex → H' b = none
  there : ∀ b o, h.get? b = some o → b ∉ ex → ∃ o', h'.get? b = some o'
  tups : ∀ b xs, H b = some (.tup xs) → H' b = some (.tup xs)
  frzs : ∀ b o u, H b = some (.frz o u) → H' b = some (.frz o u)
  tbls : ∀ b ps, H b = some (.tbl ps) → ∃ more, H' b = some (.tbl (ps ++ more))
section
variable {fs fs' ex ex' : List Addr} {H H1 H2 : Hp} {h h1 h2 h' : Heap} {a x e : Addr} {o : HO}
theorem Un.any (u : Un fs ex H H1 h h1) {b : Addr} {ob : Obj} (q : h.get? b = some ob) (n : H b = none) (hx : b ∉ ex) : ∃ sl, h1.get? b = some { ob with slots := sl } := by
  by_cases hb : b ∈ fs
  · exact u.slot b ob q n hb hx
  · exact ⟨ob.slots, u.keep b ob q n hb hx⟩
theorem Un.trans (a : Un fs ex H H1 h h1) (b : Un fs ex H1 H2 h1 h2) : Un fs ex H H2 h h2 where
  keep := fun c ob q n hc hx => b.keep c ob (a.keep c ob q n hc hx) (a.free c ob q n hx) hc hx
  slot := fun c ob q n hc hx => by
    obtain ⟨sl, e1⟩ := a.slot c ob q n hc hx
    obtain ⟨sl', e2⟩ := b.slot c _ e1 (a.free c ob q n hx) hc hx
    exact ⟨sl', e2⟩
  free := fun c ob q n hx => by
    obtain ⟨o', e1⟩ := a.there c ob q hx
    exact b.free c o' e1 (a.free c ob q n hx) hx
  there := fun c ob q hx => by
    obtain ⟨o', e1⟩ := a.there c ob q hx
    exact b.there c o' e1 hx
  tups := fun c xs q => b.tups c xs (a.tups c xs q)
  frzs := fun c ob xs q => b.frzs c ob xs (a.frzs c ob xs q)
  tbls := fun c ps q => by
    obtain ⟨m1, e1⟩ := a.tbls c ps q
    obtain ⟨m2, e2⟩ := b.tbls c _ e1
    exact ⟨m1 ++ m2, by rw [e2, Array.append_assoc]⟩
theorem Un.kept (k : ∀ b u, h.get? b = some u → h'.get? b = some u) : Un fs ex H H h h' :=
  ⟨fun b ob q _ _ _ => k b ob q, fun b ob q _ _ _ => ⟨ob.slots, k b ob q⟩, fun _ _ _ n _ => n, fun b ob q _ => ⟨ob, k b ob q⟩, fun _ _ q => q, fun _ _ _ q => q, fun _ ps q => ⟨#[], by rw [q]; simp⟩⟩
theorem Un.refl : Un fs ex H H h h := Un.kept fun _ _ q => q
theorem Un.laid (k : ∀ b u, h.get? b = some u → h'.get? b = some u) (hp : h.objs.size ≤ a) (hn : H a = none) : Un fs ex H (upd H a o) h h' where
  keep := fun b u q _ _ _ => k b u q
  slot := fun b u q _ _ _ => ⟨u.slots, k b u q⟩
  free := fun b u q n _ => by rw [upd_ne (Nat.ne_of_lt (Nat.lt_of_lt_of_le (Heap.lt_size q) hp))]; exact n
  there := fun b u q _ => ⟨u, k b u q⟩
  tups := fun b xs q => by rw [upd_ne (ne_of_none q hn)]; exact q
  frzs := fun b u xs q => by rw [upd_ne (ne_of_none q hn)]; exact q
  tbls := fun b ps q => ⟨#[], by rw [upd_ne (ne_of_none q hn), q]; simp⟩
theorem Un.write (mu : Mut (H x)) (he : e = x ∨ H e = some (.own x)) (k : ∀ b u, b ≠ e → h.get? b = some u → h'.get? b = some u) (heo : ∃ u, h'.get? e = some u) : Un fs ex H (upd H x o) h h' := by
  have hx : ∀ b, H b = none → b ≠ x := fun b n z => by subst z; rw [n] at mu; exact mu
  have hb : ∀ b, H b = none → b ≠ e := fun b n z => by
    subst z
    rcases he with r | r
    · exact hx b n r
    · rw [n] at r; cases r
  have hm : ∀ b u, H b = some u → ¬ Mut (some u) → b ≠ x := fun b u q nm z => by subst z; rw [q] at mu; exact nm mu
  refine ⟨fun b u q n _ _ => k b u (hb b n) q, fun b u q n _ _ => ⟨u.slots, k b u (hb b n) q⟩, fun b u q n _ => by rw [upd_ne (hx b n)]; exact n, fun b u q _ => ?_,
    fun b xs q => by rw [upd_ne (hm b _ q fun z => z)]; exact q, fun b u xs q => by rw [upd_ne (hm b _ q fun z => z)]; exact q, fun b ps q => ⟨#[], by rw [upd_ne (hm b _ q fun z => z), q]; simp⟩⟩
  by_cases hbe : b = e
  · subst hbe; exact heo
  · exact ⟨u, k b u hbe q⟩
theorem Un.mono (u : Un fs ex H H1 h h1) (hs : ∀ b ∈ fs, b ∈ fs') (hx : ∀ b ∈ ex, b ∈ ex') : Un fs' ex' H H1 h h1 :=
  ⟨fun b ob q n hb he => u.keep b ob q n (fun z => hb (hs b z)) fun z => he (hx b z), fun _ _ q n _ he => u.any q n fun z => he (hx _ z), fun b ob q n he => u.free b ob q n fun z => he (hx b z), fun b ob q he => u.there b ob q fun z => he (hx b z), u.tups, u.frzs, u.tbls⟩
end
def trk (h : Heap) (H : Hp) : List Addr := (List.range h.objs.size).filter fun a => (H a).isSome
def hidT (h : Heap) (H : Hp) : Heap := PySem.W.hideAll h (trk h H)
theorem hidT_size (h : Heap) (H : Hp) : (hidT h H).objs.size = h.objs.size := PySem.W.hideAll_size _ _
theorem hidT_get {h : Heap} {H : Hp} {b : Addr} {o : Obj} (e : h.get? b = some o) (n : H b = none) : (hidT h H).get? b = some o :=
  PySem.W.hideAll_get _ e fun hm => by
    have q : (H b).isSome = true := (List.mem_filter.mp hm).2
    rw [n] at q; simp at q
theorem of_hidT {h : Heap} {H : Hp} {b : Addr} {o : Obj} (e : (hidT h H).get? b = some o) : h.get? b = some o ∧ H b = none := by
  have e' : h.get? b = some o := PySem.W.of_hideAll (trk h H) e
  refine ⟨e', ?_⟩
  cases q : H b with
  | none => rfl
  | some x =>
    have hm : b ∈ trk h H := List.mem_filter.mpr ⟨List.mem_range.mpr (Heap.lt_size e'), by simp [q]⟩
    have z : (hidT h H).get? b = none := PySem.W.hideAll_none (trk h H) hm
    rw [z] at e; cases e
def allNews (g h : Heap) (L : Addr) : List (Addr × Obj) := (List.range h.objs.size).filterMap fun a => if a = L ∨ (g.get? a).isSome = true then none else (h.get? a).map fun o => (a, o)
def rest (g h : Heap) (L d : Addr) : List (Addr × Obj) := (allNews g h L).filter fun p => decide (p.1 ≠ d)
end L2
namespace L2
open PySem PySem.Spec PyProof.Rows
structure Mod (K : PySem.W.Frag) (mg : Str → Option Value) (base : Heap) : Prop where
  kin : K.In base
  glob : base.Ns mainGlobals mg
  blt : ∃ mb, base.Ns builtinsNs mb ∧ ∀ x : Str, x ≠ "__name__" → mb x = bootBuiltins x
  nolimit : base.NoLimit
structure Cx where
  prog : Program
  w : World
  K : PySem.W.Frag
  mg : Str → Option Value
  base : Heap
  A : Around
  N : List Str
  s₀ : Shared
  H₀ : Hp
  env : Env
  outer : List Env
  stack : List Env
  ex : List Addr
  fn : Str → Bool
  calm : Bool
  pn : List (Addr × Obj)
  xe : Value → Shared → Prop
def frs (l : List Env) : List Addr := l.filterMap (·.frame)
abbrev Cx.fs (X : Cx) : List Addr := frs X.outer
def Vis (sc : Scope) (x : Str) : Prop := sc.names.lookup x = some .local ∨ sc.names.lookup x = some .cell ∨ sc.names.lookup x = some .free
def Loc (sc : Scope) (x : Str) : Prop := sc.names.lookup x = some .local ∨ sc.names.lookup x = some .cell
def Look (env : Env) (h : Heap) (m : Str → Option Value) (x : Str) (u : Value) : Prop :=
  (env.kindOf x = some .local ∧ m x = some u) ∨ ((env.kindOf x = some .cell ∨ env.kindOf x = some .free) ∧ ∃ c, env.cells.lookup x = some c ∧ h.IsCell c (some u))
structure Cx.Ok (X : Cx) : Prop where
  mod : Mod X.K X.mg X.base
  kind : X.env.scope.kind = .function
  glob : X.env.globals = mainGlobals
  blt : X.env.builtins = builtinsNs
  above : X.s₀.heap.objs.size ≤ X.env.locals
  inj : ∀ x y c, X.env.cells.lookup x = some c → X.env.cells.lookup y = some c → x = y
  has : ∀ x, (X.env.kindOf x = some .cell ∨ X.env.kindOf x = some .free) → ∃ c, X.env.cells.lookup x = some c
  cab : ∀ x c, X.fn x = true → X.env.cells.lookup x = some c → X.s₀.heap.objs.size ≤ c
  hd : X.calm = true → X.A.handled = none
  frames : X.A.frames = some X.stack
  stk : X.stack = X.outer ∨ (X.stack = X.env :: X.outer ∧ X.env.frame = some X.env.locals)
  exf : ∀ b ∈ X.ex, b ≠ X.env.locals ∧ ∀ x c, X.env.cells.lookup x = some c → c ≠ b
  bs : ∀ b o, X.base.get? b = some o → X.s₀.heap.get? b = some o ∧ X.H₀ b = none
  bsz : X.base.objs.size ≤ X.s₀.heap.objs.size
  noex : ∀ b o, X.base.get? b = some o → b ∉ X.ex
  exfs : ∀ b ∈ X.ex, b ∉ X.fs
  funs : X.s₀.heap.FunFrames X.base X.outer
  frf : ∀ b ∈ X.fs, X.H₀ b = none
structure Inv (X : Cx) (pins : List (Addr × Obj)) (σ : List (Option V)) (H : Hp) (s : Shared) : Prop where
  ok : X.Ok
  os : s.os = X.s₀.os
  bare : AllBare s.gens
  base : Un X.fs X.ex X.H₀ H X.s₀.heap s.heap
  loc : ∃ m, s.heap.Ns X.env.locals m ∧ ∀ (i : Nat) (x : Str) (v : V), X.N[i]? = some x → σ[i]? = some (some v) → Vis X.env.scope x → ∃ u, RelV v u ∧ Look X.env s.heap m x u
  cell : ∀ x c, X.env.cells.lookup x = some c → ∃ v, s.heap.IsCell c v
  free : H X.env.locals = none
  freeC : ∀ x c, X.env.cells.lookup x = some c → H c = none
  pin : ∀ p ∈ X.pn ++ pins, s.heap.get? p.1 = some p.2 ∧ H p.1 = none ∧ p.1 ≠ X.env.locals ∧ p.1 ∉ X.fs ∧ ∀ v, p.2.data ≠ .cell v
  hok : HOk X.prog X.w H s.heap
  len : σ.length = X.N.length
section
variable {X : Cx} {pins : List (Addr × Obj)} {σ : List (Option V)} {H H' : Hp} {s : Shared} {h' : Heap}
theorem Cx.Ok.nofr (ok : X.Ok) {b : Addr} {o : Obj} (e : X.base.get? b = some o) : b ∉ X.fs := fun hb => by
  have := (ok.funs.mem hb).1
  rw [e] at this; cases this
theorem Inv.bs (I : Inv X pins σ H s) : ∀ b o, X.base.get? b = some o → s.heap.get? b = some o ∧ H b = none := fun b o e =>
  ⟨I.base.keep b o (I.ok.bs b o e).1 (I.ok.bs b o e).2 (I.ok.nofr e) (I.ok.noex b o e), I.base.free b o (I.ok.bs b o e).1 (I.ok.bs b o e).2 (I.ok.noex b o e)⟩
theorem Inv.bk (I : Inv X pins σ H s) : ∀ b o, X.base.get? b = some o → s.heap.get? b = some o := fun b o e => (I.bs b o e).1
theorem Inv.mod (I : Inv X pins σ H s) : Mod X.K X.mg X.base := I.ok.mod
theorem Inv.kIn (I : Inv X pins σ H s) : X.K.In s.heap := I.ok.mod.kin.keeps I.bk
theorem Inv.nolimit (I : Inv X pins σ H s) : s.heap.NoLimit := I.ok.mod.nolimit.keeps I.bk
theorem Inv.fr (I : Inv X pins σ H s) : ∃ m, Fr X.base X.env.locals s.heap m :=
  let ⟨m, hn, _⟩ := I.loc
  ⟨m, hn, I.bk, Nat.le_trans I.ok.bsz I.ok.above⟩
theorem Inv.lt (I : Inv X pins σ H s) : X.env.locals < s.heap.objs.size := let ⟨_, hn, _⟩ := I.loc; hn.lt
theorem Inv.sz (I : Inv X pins σ H s) : X.s₀.heap.objs.size ≤ s.heap.objs.size := Nat.le_trans I.ok.above (Nat.le_of_lt I.lt)
theorem Inv.nofs (I : Inv X pins σ H s) {a : Addr} (h : s.heap.objs.size ≤ a) : a ∉ X.fs := fun hb => by
  obtain ⟨_, o, ho, _⟩ := I.ok.funs.mem hb
  exact absurd (Nat.lt_of_lt_of_le (Heap.lt_size ho) (Nat.le_trans I.sz h)) (Nat.lt_irrefl _)
theorem Inv.cne (I : Inv X pins σ H s) : ∀ x c, X.env.cells.lookup x = some c → c ≠ X.env.locals := fun x c e z => by
  obtain ⟨v, o, ho, hd⟩ := I.cell x c e
  obtain ⟨m, ⟨o', es, ep, ho', hd', _⟩, _⟩ := I.loc
  rw [z, ho'] at ho; cases ho; rw [hd'] at hd; cases hd
theorem Inv.funs (I : Inv X pins σ H s) : s.heap.FunFrames X.base X.outer := by
  have all : ∀ (l : List Env), (∀ b ∈ frs l, b ∈ X.fs) → X.s₀.heap.FunFrames X.base l → s.heap.FunFrames X.base l := by
    intro l
    induction l with
    | nil => intro _ _; trivial
    | cons env r ih =>
      intro hs hl
      obtain ⟨hk, ⟨L, o, hf, hn, ho, hd⟩, hr⟩ := hl
      have hL : L ∈ X.fs := hs L (by unfold frs; rw [List.filterMap_cons, hf]; exact List.mem_cons_self)
      obtain ⟨sl, e⟩ := I.base.slot L o ho (I.ok.frf L hL) hL fun z => I.ok.exfs L z hL
      exact ⟨hk, ⟨L, _, hf, hn, e, hd⟩, ih (fun b hb => hs b (by unfold frs; rw [List.filterMap_cons, hf]; exact List.mem_cons_of_mem _ hb)) hr⟩
  exact all X.outer (fun _ hb => hb) I.ok.funs
theorem Inv.stack (I : Inv X pins σ H s) : s.heap.FunFrames X.base X.stack := by
  rcases I.ok.stk with e | ⟨e, hf⟩
  · rw [e]; exact I.funs
  · rw [e]
    obtain ⟨m, hn, _⟩ := I.loc
    refine .cons (by rw [I.ok.kind]; decide) hf hn ?_ I.funs
    exact Heap.get?_none_of_le (Nat.le_trans I.ok.bsz I.ok.above)
theorem Inv.stkSub (I : Inv X pins σ H s) : ∀ b ∈ frs X.stack, b ∈ X.env.locals :: X.fs := fun b hb => by
  rcases I.ok.stk with e | ⟨e, hf⟩
  · rw [e] at hb; exact List.mem_cons_of_mem _ hb
  · rw [e] at hb
    unfold frs at hb
    rw [List.filterMap_cons, hf] at hb
    exact hb
theorem Inv.stkFree (I : Inv X pins σ H s) : ∀ b ∈ frs X.stack, H b = none := fun b hb => by
  rcases List.mem_cons.mp (I.stkSub b hb) with e | hb
  · rw [e]; exact I.free
  · obtain ⟨_, o, ho, _⟩ := I.ok.funs.mem hb
    exact I.base.free b o ho (I.ok.frf b hb) fun z => I.ok.exfs b z hb
theorem Inv.step {g' : Array GenState} {t' : Nat} {d' : Drawn} {ch : List Addr} (I : Inv X pins σ H s)
    (hch : ∀ b ∈ ch, (b ∈ X.ex ∨ X.s₀.heap.objs.size ≤ b) ∧ b ≠ X.env.locals ∧ (∀ x c, X.env.cells.lookup x = some c → c ≠ b) ∧ ∀ p ∈ X.pn ++ pins, p.1 ≠ b)
    (keep : ∀ b o, b ≠ X.env.locals → b ∉ X.fs → b ∉ ch → s.heap.get? b = some o → H b = none → h'.get? b = some o)
    (slot : ∀ b o, b ≠ X.env.locals → b ∈ X.fs → b ∉ ch → s.heap.get? b = some o → H b = none → ∃ sl, h'.get? b = some { o with slots := sl }) (free : ∀ b o, b ∉ ch → s.heap.get? b = some o → H b = none → H' b = none)
    (there : ∀ b o, b ∉ ch → s.heap.get? b = some o → ∃ o', h'.get? b = some o')
    (tups : ∀ b xs, H b = some (.tup xs) → H' b = some (.tup xs)) (frzs : ∀ b o u, H b = some (.frz o u) → H' b = some (.frz o u)) (tbls : ∀ b ps, H b = some (.tbl ps) → ∃ more, H' b = some (.tbl (ps ++ more)))
    (ns : ∀ m, s.heap.Ns X.env.locals m → h'.Ns X.env.locals m) (hok : HOk X.prog X.w H' h') (hg : AllBare g') :
    Inv X pins σ H' { s with heap := h', gens := g', drawn := d', toks := t' } := by
  have neL : ∀ b o, X.s₀.heap.get? b = some o → b ≠ X.env.locals := fun b o e => Nat.ne_of_lt (Nat.lt_of_lt_of_le (Heap.lt_size e) I.ok.above)
  have neC : ∀ b o, X.s₀.heap.get? b = some o → b ∉ X.ex → b ∉ ch := fun b o e hx hb => by
    rcases (hch b hb).1 with z | z
    · exact hx z
    · exact absurd (Nat.lt_of_lt_of_le (Heap.lt_size e) z) (Nat.lt_irrefl _)
  have cellK : ∀ x c, X.env.cells.lookup x = some c → ∀ v, s.heap.IsCell c v → h'.IsCell c v := fun x c e v ⟨o, ho, hd⟩ => by
    have nch : c ∉ ch := fun z => (hch c z).2.2.1 x c e rfl
    by_cases hc : c ∈ X.fs
    · obtain ⟨sl, q⟩ := slot c o (I.cne x c e) hc nch ho (I.freeC x c e)
      exact ⟨_, q, hd⟩
    · exact ⟨o, keep c o (I.cne x c e) hc nch ho (I.freeC x c e), hd⟩
  refine ⟨I.ok, I.os, hg, ⟨fun b o e n hb hx => ?_, fun b o e n hb hx => ?_, fun b o e n hx => ?_, fun b o e hx => ?_, fun b xs e => tups b xs (I.base.tups b xs e), fun b o xs e => frzs b o xs (I.base.frzs b o xs e), fun b ps e => ?_⟩, ?_, fun x c e => ?_, ?_, fun x c e => ?_, fun p hp => ?_, hok, I.len⟩
  · exact keep b o (neL b o e) hb (neC b o e hx) (I.base.keep b o e n hb hx) (I.base.free b o e n hx)
  · obtain ⟨sl, e1⟩ := I.base.slot b o e n hb hx
    obtain ⟨sl', e2⟩ := slot b _ (neL b o e) hb (neC b o e hx) e1 (I.base.free b o e n hx)
    exact ⟨sl', e2⟩
  · obtain ⟨o', e1⟩ := I.base.there b o e hx
    exact free b o' (neC b o e hx) e1 (I.base.free b o e n hx)
  · obtain ⟨o', e1⟩ := I.base.there b o e hx
    exact there b o' (neC b o e hx) e1
  · obtain ⟨m1, e1⟩ := I.base.tbls b ps e
    obtain ⟨m2, e2⟩ := tbls b _ e1
    exact ⟨m1 ++ m2, by rw [e2, Array.append_assoc]⟩
  · obtain ⟨m, hn, hl⟩ := I.loc
    refine ⟨m, ns m hn, fun i x v e1 e2 e3 => ?_⟩
    obtain ⟨u, r, l⟩ := hl i x v e1 e2 e3
    refine ⟨u, r, ?_⟩
    rcases l with l | ⟨k, c, e, z⟩
    · exact .inl l
    · exact .inr ⟨k, c, e, cellK x c e _ z⟩
  · obtain ⟨v, z⟩ := I.cell x c e
    exact ⟨v, cellK x c e v z⟩
  · obtain ⟨m, ⟨o, _, _, ho, _⟩, _⟩ := I.loc
    exact free _ o (fun z => (hch _ z).2.1 rfl) ho I.free
  · obtain ⟨v, o, ho, hd⟩ := I.cell x c e
    exact free c o (fun z => (hch c z).2.2.1 x c e rfl) ho (I.freeC x c e)
  · obtain ⟨e, n, ne, nf, d⟩ := I.pin p hp
    have nch : p.1 ∉ ch := fun z => (hch p.1 z).2.2.2 p hp rfl
    exact ⟨keep p.1 p.2 ne nf nch e n, free p.1 p.2 nch e n, ne, nf, d⟩
theorem Inv.un {t' : Nat} (I : Inv X pins σ H s) (u : Un X.fs [] H H' s.heap h') (hok : HOk X.prog X.w H' h') : Inv X pins σ H' { s with heap := h', toks := t' } := by
  obtain ⟨m, ⟨o, es, ep, ho, r⟩, _⟩ := id I.loc
  obtain ⟨sl, hL⟩ := u.any ho I.free (by simp)
  exact I.step (g' := s.gens) (d' := s.drawn) (ch := []) (fun _ z => nomatch z) (fun b o _ hb _ e n => u.keep b o e n hb (by simp)) (fun b o _ hb _ e n => u.slot b o e n hb (by simp)) (fun b o _ e n => u.free b o e n (by simp)) (fun b o _ e => u.there b o e (by simp)) u.tups u.frzs u.tbls (fun m' hm => by
    obtain ⟨o', es', ep', ho', r'⟩ := hm
    rw [ho] at ho'; cases ho'
    exact ⟨_, es', ep', hL, r'⟩) hok I.bare
theorem Inv.call {g' : Array GenState} {t' : Nat} {d' : Drawn} {ch : List Addr} (I : Inv X pins σ H s) (u : Un (frs X.stack) ch H H' s.heap h') (hok : HOk X.prog X.w H' h') (hg : AllBare g')
    (hch : ∀ b ∈ ch, (b ∈ X.ex ∨ X.s₀.heap.objs.size ≤ b) ∧ b ≠ X.env.locals ∧ (∀ x c, X.env.cells.lookup x = some c → c ≠ b) ∧ ∀ p ∈ X.pn ++ pins, p.1 ≠ b) :
    Inv X pins σ H' { s with heap := h', gens := g', drawn := d', toks := t' } := by
  obtain ⟨m, ⟨o, es, ep, ho, r⟩, _⟩ := id I.loc
  obtain ⟨sl, hL⟩ := u.any ho I.free fun z => (hch _ z).2.1 rfl
  exact I.step (ch := ch) hch (fun b o hL hb hc e n => u.keep b o e n (fun z => (List.mem_cons.mp (I.stkSub b z)).elim hL hb) hc) (fun b o _ _ hc e n => u.any e n hc) (fun b o hc e n => u.free b o e n hc) (fun b o hc e => u.there b o e hc) u.tups u.frzs u.tbls (fun m' hm => by
    obtain ⟨o', es', ep', ho', r'⟩ := hm
    rw [ho] at ho'; cases ho'
    exact ⟨_, es', ep', hL, r'⟩) hok hg
theorem Inv.turned {t' : Nat} {it : Addr} (I : Inv X pins σ H s) (k : ∀ b o, b ≠ it → s.heap.get? b = some o → h'.get? b = some o) (hn : H it = none) (hL : it ≠ X.env.locals)
    (h1 : it ∈ X.ex ∨ X.s₀.heap.objs.size ≤ it) (h2 : ∀ x c, X.env.cells.lookup x = some c → c ≠ it) (h3 : ∀ p ∈ X.pn ++ pins, p.1 ≠ it) : Inv X pins σ H { s with heap := h', toks := t' } := by
  have nit : ∀ b u, H b = some u → b ≠ it := fun b u e z => by rw [z, hn] at e; cases e
  refine I.step (g' := s.gens) (d' := s.drawn) (ch := [it]) (fun b hb => ?_) (fun b o _ _ hc e _ => k b o (fun z => hc (by simp [z])) e) (fun b o _ _ hc e _ => ⟨o.slots, k b o (fun z => hc (by simp [z])) e⟩) (fun _ _ _ _ n => n)
    (fun b o hc e => ⟨o, k b o (fun z => hc (by simp [z])) e⟩) (fun _ _ e => e) (fun _ _ _ e => e) (fun b ps e => ⟨#[], by rw [e]; simp⟩) (fun m hm => ?_) (fun b u e => ?_) I.bare
  · have e : b = it := by simpa using hb
    subst e
    exact ⟨h1, hL, h2, h3⟩
  · obtain ⟨o, es, ep, ho, r⟩ := hm
    exact ⟨o, es, ep, k _ o (Ne.symm hL) ho, r⟩
  · refine (I.hok b u e).stay (fun c v hc q => k c v ?_ q) (fun _ q => q) fun _ _ q => q
    rcases hc with z | z
    · rw [z]; exact nit b u e
    · exact nit c _ z
theorem Inv.tok (I : Inv X pins σ H s) (t : Nat) : Inv X pins σ H { s with toks := t } := I.un (h' := s.heap) (t' := t) Un.refl I.hok
theorem Inv.kept {t' : Nat} (I : Inv X pins σ H s) (k : ∀ b u, s.heap.get? b = some u → h'.get? b = some u) : Inv X pins σ H { s with heap := h', toks := t' } := I.un (Un.kept k) (I.hok.kept k)
theorem Inv.laid {a : Addr} {o : HO} {t' : Nat} (I : Inv X pins σ H s) (k : ∀ b u, s.heap.get? b = some u → h'.get? b = some u) (hp : s.heap.objs.size ≤ a) (new : ObjOk X.prog X.w (upd H a o) h' a o) :
    Inv X pins σ (upd H a o) { s with heap := h', toks := t' } := I.un (Un.laid k hp (I.hok.fresh hp)) (I.hok.laid k hp new)
theorem Inv.write {x e : Addr} {o : HO} {t' : Nat} (I : Inv X pins σ H s) (mu : Mut (H x)) (he : e = x ∨ H e = some (.own x)) (k : ∀ b u, b ≠ e → s.heap.get? b = some u → h'.get? b = some u) (heo : ∃ u, h'.get? e = some u)
    (new : ObjOk X.prog X.w (upd H x o) h' x o) : Inv X pins σ (upd H x o) { s with heap := h', toks := t' } := I.un (Un.write mu he k heo) (I.hok.write mu he k heo new)
theorem Inv.weak {σ' : List (Option V)} (I : Inv X pins σ H s) (hl : σ'.length = σ.length) (w : ∀ (i : Nat) v, σ'[i]? = some (some v) → σ[i]? = some (some v)) : Inv X pins σ' H s :=
  ⟨I.ok, I.os, I.bare, I.base, let ⟨m, hn, hl'⟩ := I.loc; ⟨m, hn, fun i x v e1 e2 e3 => hl' i x v e1 (w i v e2) e3⟩, I.cell, I.free, I.freeC, I.pin, I.hok, hl.trans I.len⟩
theorem Inv.pins_of {pins' : List (Addr × Obj)} (I : Inv X pins σ H s) (h : ∀ p ∈ pins', s.heap.get? p.1 = some p.2 ∧ H p.1 = none ∧ p.1 ≠ X.env.locals ∧ p.1 ∉ X.fs ∧ ∀ v, p.2.data ≠ .cell v) : Inv X pins' σ H s :=
  ⟨I.ok, I.os, I.bare, I.base, I.loc, I.cell, I.free, I.freeC, fun p hp => (List.mem_append.mp hp).elim (fun z => I.pin p (List.mem_append_left _ z)) (h p), I.hok, I.len⟩
theorem nodup_ix {N : List Str} (hN : N.Nodup) {i j : Nat} {x : Str} (a : N[i]? = some x) (b : N[j]? = some x) : i = j := by
  obtain ⟨h1, e1⟩ := List.getElem?_eq_some_iff.mp a
  obtain ⟨h2, e2⟩ := List.getElem?_eq_some_iff.mp b
  exact (List.getElem_inj hN).mp (e1.trans e2.symm)
theorem store_ok2 {M : Model} {A : Around} {E : Value → Shared → Prop} {i : Nat} {x : Str} {v : V} {u : Value} {Q : Unit → Shared → Prop} (I : Inv X pins σ H s) (hN : X.N.Nodup) (hi : X.N[i]? = some x) (hx : Loc X.env.scope x) (r : RelV v u)
    (h : ∀ s', Inv X pins (σ.set i (some v)) H s' → (∃ a, Heap.SameBut a s.heap s'.heap ∧ (a = X.env.locals ∨ X.env.cells.lookup x = some a)) → Q () s') (hf : X.fn x = true ∨ X.env.scope.names.lookup x = some .local := by first | exact .inl rfl | exact .inr rfl | assumption) : wpAny M A (storeName X.env x u) Q E s := by
  obtain ⟨m, hn, hl⟩ := id I.loc
  have hcls : (X.env.scope.kind == .class || (X.env.scope.kind == .module && X.env.locals != X.env.globals)) = false := by rw [I.ok.kind]; rfl
  have hiσ : i < σ.length := by rw [I.len]; exact (List.getElem?_eq_some_iff.mp hi).1
  have cne := I.cne
  have tracked : ∀ {a : Addr} {h' : Heap}, (∃ o, s.heap.get? a = some o ∧ H a = none) → Heap.SameBut a s.heap h' → HOk X.prog X.w H h' := fun {a h'} ha hs b ob e => by
    obtain ⟨_, _, hfree⟩ := ha
    refine (I.hok b ob e).stay (fun c w' hc q => (hs.2 c ?_).trans q) (fun _ q => q) fun _ _ q => q
    rintro rfl
    rcases hc with rfl | hc
    · rw [hfree] at e; cases e
    · rw [hfree] at hc; cases hc
  rcases hx with hk | hk
  · refine wpAny_storeName_local hk hn (fun h' hn' hs => ?_) hcls
    obtain ⟨oL, _, _, hoL, _⟩ := id hn
    refine h _ ⟨I.ok, I.os, I.bare, ⟨fun b o e n hb hx => ?_, fun b o e n hb hx => ?_, I.base.free, fun b o e hx => ?_, I.base.tups, I.base.frzs, I.base.tbls⟩, ⟨_, hn', fun j y v' e1 e2 e3 => ?_⟩, fun y c e => ?_, I.free, I.freeC, fun p hp => ?_, tracked ⟨oL, hoL, I.free⟩ hs, by simpa using I.len⟩ ⟨_, hs, .inl rfl⟩
    · exact (hs.2 b (Nat.ne_of_lt (Nat.lt_of_lt_of_le (Heap.lt_size e) I.ok.above))).trans (I.base.keep b o e n hb hx)
    · obtain ⟨sl, e1⟩ := I.base.slot b o e n hb hx
      exact ⟨sl, (hs.2 b (Nat.ne_of_lt (Nat.lt_of_lt_of_le (Heap.lt_size e) I.ok.above))).trans e1⟩
    · obtain ⟨o', e1⟩ := I.base.there b o e hx
      exact ⟨o', (hs.2 b (Nat.ne_of_lt (Nat.lt_of_lt_of_le (Heap.lt_size e) I.ok.above))).trans e1⟩
    · by_cases hj : j = i
      · subst hj
        rw [hi] at e1; cases e1
        rw [List.getElem?_set_self hiσ] at e2
        cases e2
        exact ⟨u, r, .inl ⟨hk, by simp⟩⟩
      · rw [List.getElem?_set_ne (Ne.symm hj)] at e2
        obtain ⟨u', r', q⟩ := hl j y v' e1 e2 e3
        refine ⟨u', r', ?_⟩
        rcases q with ⟨k, e⟩ | ⟨k, c, e, z⟩
        · refine .inl ⟨k, ?_⟩
          have : y ≠ x := fun e => hj (nodup_ix hN e1 (e ▸ hi))
          simp [this, e]
        · exact .inr ⟨k, c, e, z.sameBut hs (cne y c e)⟩
    · obtain ⟨w', z⟩ := I.cell y c e
      exact ⟨w', z.sameBut hs (cne y c e)⟩
    · obtain ⟨e, n, ne, nf, d⟩ := I.pin p hp
      exact ⟨(hs.2 p.1 ne).trans e, n, ne, nf, d⟩
  · have hfn : X.fn x = true := by
      rcases hf with z | z
      · exact z
      · rw [z] at hk; cases hk
    obtain ⟨c, hc⟩ := I.ok.has x (.inl hk)
    obtain ⟨w', z⟩ := I.cell x c hc
    refine wpAny_storeName_cell I.ok.kind hk hc z (fun h' hc' hs => ?_)
    obtain ⟨oc, hoc, hocd⟩ := id z
    refine h { s with heap := h' } ⟨I.ok, I.os, I.bare, ⟨fun b o e n hb hx => ?_, fun b o e n hb hx => ?_, I.base.free, fun b o e hx => ?_, I.base.tups, I.base.frzs, I.base.tbls⟩, ⟨m, hn.sameBut hs (Ne.symm (cne x c hc)), fun j y v' e1 e2 e3 => ?_⟩, fun y c' e => ?_, I.free, I.freeC, fun p hp => ?_, tracked ⟨oc, hoc, I.freeC x c hc⟩ hs, by simpa using I.len⟩ ⟨c, hs, .inr hc⟩
    · exact (hs.2 b (Nat.ne_of_lt (Nat.lt_of_lt_of_le (Heap.lt_size e) (I.ok.cab x c hfn hc)))).trans (I.base.keep b o e n hb hx)
    · obtain ⟨sl, e1⟩ := I.base.slot b o e n hb hx
      exact ⟨sl, (hs.2 b (Nat.ne_of_lt (Nat.lt_of_lt_of_le (Heap.lt_size e) (I.ok.cab x c hfn hc)))).trans e1⟩
    · obtain ⟨o', e1⟩ := I.base.there b o e hx
      exact ⟨o', (hs.2 b (Nat.ne_of_lt (Nat.lt_of_lt_of_le (Heap.lt_size e) (I.ok.cab x c hfn hc)))).trans e1⟩
    · by_cases hj : j = i
      · subst hj
        rw [hi] at e1; cases e1
        rw [List.getElem?_set_self hiσ] at e2
        cases e2
        exact ⟨u, r, .inr ⟨.inl hk, c, hc, hc'⟩⟩
      · rw [List.getElem?_set_ne (Ne.symm hj)] at e2
        obtain ⟨u', r', q⟩ := hl j y v' e1 e2 e3
        refine ⟨u', r', ?_⟩
        rcases q with q | ⟨k, c', e, z'⟩
        · exact .inl q
        · refine .inr ⟨k, c', e, z'.sameBut hs ?_⟩
          rintro rfl
          exact hj (nodup_ix hN e1 (I.ok.inj _ _ _ e hc ▸ hi))
    · by_cases hcc : c' = c
      · subst hcc; exact ⟨_, hc'⟩
      · obtain ⟨w2, z2⟩ := I.cell y c' e
        exact ⟨w2, z2.sameBut hs hcc⟩
    · obtain ⟨e, n, ne, nf, d⟩ := I.pin p hp
      refine ⟨(hs.2 p.1 ?_).trans e, n, ne, nf, d⟩
      intro q
      rw [q, hoc] at e
      have q' : oc = p.2 := Option.some.inj e
      exact d w' (by rw [← q']; exact hocd)
theorem store_ok {M : Model} {A : Around} {E : Value → Shared → Prop} {i : Nat} {x : Str} {v : V} {u : Value} {Q : Unit → Shared → Prop} (I : Inv X pins σ H s) (hN : X.N.Nodup) (hi : X.N[i]? = some x) (hx : Loc X.env.scope x) (r : RelV v u)
    (h : ∀ s', Inv X pins (σ.set i (some v)) H s' → Q () s') (hf : X.fn x = true ∨ X.env.scope.names.lookup x = some .local := by first | exact .inl rfl | exact .inr rfl | assumption) : wpAny M A (storeName X.env x u) Q E s :=
  store_ok2 I hN hi hx r (fun s' I' _ => h s' I') hf
theorem Inv.call' {s' : Shared} {ch : List Addr} (I : Inv X pins σ H s) (ho : s'.os = s.os) (u : Un (frs X.stack) ch H H' s.heap s'.heap) (hok : HOk X.prog X.w H' s'.heap) (hg : AllBare s'.gens)
    (hch : ∀ b ∈ ch, (b ∈ X.ex ∨ X.s₀.heap.objs.size ≤ b) ∧ b ≠ X.env.locals ∧ (∀ x c, X.env.cells.lookup x = some c → c ≠ b) ∧ ∀ p ∈ X.pn ++ pins, p.1 ≠ b) : Inv X pins σ H' s' := by
  obtain ⟨h', g', d', t', o'⟩ := s'
  have e : o' = s.os := ho
  subst e
  exact I.call (g' := g') (t' := t') (d' := d') u hok hg hch
end
abbrev XK := Value → Option Addr → Hp → Prop
abbrev St := List (Option V)
abbrev VK := V → Hp → Prop
abbrev TE := St → Hp → VK → Prop
abbrev TT := St → Hp → (Bool → Hp → Prop) → Prop
abbrev TA := St → Hp → (List V → Hp → Prop) → Prop
structure Ends where
  nx : St → Hp → Prop
  rt : VK
  bk : St → Hp → Prop := fun _ _ => False
  ct : St → Hp → Prop := fun _ _ => False
abbrev TS := Ends → St → Hp → Prop
def EP (X : Cx) (pins : List (Addr × Obj)) (σ : St) (Q : VK) (u : Value) (s' : Shared) : Prop := ∃ v H', Inv X pins σ H' s' ∧ RelV v u ∧ Q v H'
def TP (X : Cx) (pins : List (Addr × Obj)) (σ : St) (Q : Bool → Hp → Prop) (b : Bool) (s' : Shared) : Prop := ∃ H', Inv X pins σ H' s' ∧ Q b H'
def AP (X : Cx) (pins : List (Addr × Obj)) (σ : St) (Q : List V → Hp → Prop) (us : List Value) (s' : Shared) : Prop := ∃ vs H', Inv X pins σ H' s' ∧ Vals vs us ∧ Q vs H'
def SP (X : Cx) (pins : List (Addr × Obj)) (D : Ends) (f : Flow) (s' : Shared) : Prop :=
  match f with
  | .next => ∃ σ' H', Inv X pins σ' H' s' ∧ D.nx σ' H'
  | .brk => ∃ σ' H', Inv X pins σ' H' s' ∧ D.bk σ' H'
  | .cont => ∃ σ' H', Inv X pins σ' H' s' ∧ D.ct σ' H'
  | .ret u => ∃ v σ' H', Inv X pins σ' H' s' ∧ RelV v u ∧ D.rt v H'
def PE (X : Cx) (e : Expr) (t : TE) : Prop :=
  ∀ (pins : List (Addr × Obj)) (s : Shared) (σ : St) (H : Hp) (Q : VK), Inv X pins σ H s → t σ H Q → wpAny (model X.prog X.w) X.A (eval e X.env) (EP X pins σ Q) X.xe s
def PT (X : Cx) (e : Expr) (t : TT) : Prop :=
  ∀ (pins : List (Addr × Obj)) (s : Shared) (σ : St) (H : Hp) (Q : Bool → Hp → Prop), Inv X pins σ H s → t σ H Q → wpAny (model X.prog X.w) X.A (isTrue e X.env (eval e X.env)) (TP X pins σ Q) X.xe s
def PW (X : Cx) (e : Expr) (t : TT) : Prop :=
  ∀ (whole : Sem Value) (pins : List (Addr × Obj)) (s : Shared) (σ : St) (H : Hp) (Q : Bool → Hp → Prop), Inv X pins σ H s → t σ H Q → wpAny (model X.prog X.w) X.A (isTrue e X.env whole) (TP X pins σ Q) X.xe s
theorem PW.pt {X : Cx} {e : Expr} {t : TT} (h : PW X e t) : PT X e t := h _
def PA (X : Cx) (es : List Expr) (t : TA) : Prop :=
  ∀ (pos : Pos) (pins : List (Addr × Obj)) (s : Shared) (σ : St) (H : Hp) (Q : List V → Hp → Prop), Inv X pins σ H s → t σ H Q → wpAny (model X.prog X.w) X.A (spliced (backTo pos (starEach es X.env))) (AP X pins σ Q) X.xe s
def PS (X : Cx) (st : Stmt) (t : TS) : Prop :=
  ∀ (pins : List (Addr × Obj)) (s : Shared) (σ : St) (H : Hp) (D : Ends), Inv X pins σ H s → t D σ H → wpAny (model X.prog X.w) X.A (exec st X.env) (SP X pins D) X.xe s
def PSs (X : Cx) (st : List Stmt) (t : TS) : Prop :=
  ∀ (pins : List (Addr × Obj)) (s : Shared) (σ : St) (H : Hp) (D : Ends), Inv X pins σ H s → t D σ H → wpAny (model X.prog X.w) X.A (execs st X.env) (SP X pins D) X.xe s
theorem thn {α : Type} {t : Sem α} {Q Q' : α → Shared → Prop} {M : Model} {A : Around} {E : Value → Shared → Prop} {s : Shared} (h : wpAny M A t Q E s) (hQ : ∀ a s, Q a s → Q' a s) : wpAny M A t Q' E s := wpAny_mono h hQ fun _ _ x => x
end L2
namespace L2
open PySem PySem.Spec PyProof.Rows
section
variable {X : Cx}
def tVar (i : Nat) : TE := fun σ H Q => ∃ v, σ[i]? = some (some v) ∧ Q v H
def tC (v : V) : TE := fun _ H Q => Q v H
theorem pe_var {i : Nat} {x : Str} {pos : Pos} (hN : X.N[i]? = some x) (hv : Vis X.env.scope x) (hd : (x == ("__debug__" : Str)) = false := by decide) (hcd : (x == ("__classdict__" : Str)) = false := by decide) : PE X (.Name x pos) (tVar i) := by
  intro pins s σ H Q I h
  obtain ⟨v, e, h⟩ := h
  obtain ⟨m, hn, hl⟩ := I.loc
  obtain ⟨u, r, l⟩ := hl i x v hN e hv
  have fin : EP X pins σ Q u s := ⟨v, H, I, r, h⟩
  rcases l with ⟨hk, hm⟩ | ⟨hk, c, hc, hcell⟩
  · exact wpAny_Name (wpAny_loadName_local I.ok.kind hk hn hm fin) hd
  · rcases hk with hk | hk
    · exact wpAny_Name (wpAny_loadName_cell I.ok.kind hk hc hcell fin) hd
    · exact wpAny_Name (wpAny_loadName_free I.ok.kind hk hc hcell fin hcd) hd
theorem pe_int {i j pos} : PE X (.Constant (.int i) j pos) (tC (.int i)) := fun _ _ _ H _ I h => wpAny_Constant_int ⟨.int i, H, I.tok _, ⟨_, rfl⟩, h⟩
theorem pe_bl {b j pos} : PE X (.Constant (.bool b) j pos) (tC (.bl b)) := fun _ _ _ H _ I h => Constant_bool ⟨.bl b, H, I, rfl, h⟩
theorem pe_non {j pos} : PE X (.Constant .none j pos) (tC .non) := fun _ _ _ H _ I h => Constant_none ⟨.non, H, I, rfl, h⟩
theorem pe_str {x j pos} : PE X (.Constant (.str x) j pos) (tC (.str x)) := fun _ _ _ H _ I h => Calls.Constant_str ⟨.str x, H, I.tok _, ⟨_, rfl⟩, h⟩
def Gl (X : Cx) (x : Str) : Prop := X.env.kindOf x = some .globalImplicit
theorem ld_glob {E : Value → Shared → Prop} {pins : List (Addr × Obj)} {s : Shared} {σ : St} {H : Hp} {x : Str} {u : Value} {pos : Pos} {Q : Value → Shared → Prop} (I : Inv X pins σ H s) (hg : Gl X x) (hm : X.mg x = some u) (h : Q u s)
    (hd : (x == ("__debug__" : Str)) = false := by decide) : wpAny (model X.prog X.w) X.A (eval (.Name x pos) X.env) Q E s :=
  Calls.Name_function_global I.ok.kind hg (Calls.loadGlobal_global (by rw [I.ok.glob]; exact I.mod.glob.keeps I.bk) hm h) hd
theorem ld_blt {E : Value → Shared → Prop} {pins : List (Addr × Obj)} {s : Shared} {σ : St} {H : Hp} {x : Str} {u : Value} {pos : Pos} {Q : Value → Shared → Prop} (I : Inv X pins σ H s) (hg : Gl X x) (hm : X.mg x = none) (hv : bootBuiltins x = some u) (h : Q u s)
    (hn : x ≠ "__name__" := by decide) (hd : (x == ("__debug__" : Str)) = false := by decide) : wpAny (model X.prog X.w) X.A (eval (.Name x pos) X.env) Q E s := by
  obtain ⟨mb, h1, h2⟩ := I.mod.blt
  exact Calls.Name_function_global I.ok.kind hg (Calls.loadGlobal_builtin (by rw [I.ok.glob]; exact I.mod.glob.keeps I.bk) hm (by rw [I.ok.blt]; exact h1.keeps I.bk) ((h2 x hn).trans hv) h) hd
theorem pe_glob {x : Str} {v : V} {u : Value} {pos : Pos} (hg : Gl X x) (hm : X.mg x = some u) (r : RelV v u) (hd : (x == ("__debug__" : Str)) = false := by decide) : PE X (.Name x pos) (tC v) :=
  fun _ _ _ H _ I h => ld_glob I hg hm ⟨v, H, I, r, h⟩ hd
theorem pe_bltn {x : Str} {v : V} {u : Value} {pos : Pos} (hg : Gl X x) (hm : X.mg x = none) (hv : bootBuiltins x = some u) (r : RelV v u) (hn : x ≠ "__name__" := by decide) (hd : (x == ("__debug__" : Str)) = false := by decide) : PE X (.Name x pos) (tC v) :=
  fun _ _ _ H _ I h => ld_blt I hg hm hv ⟨v, H, I, r, h⟩ hn hd
variable {a b : Expr} {ta tb : TE} {pos : Pos}
def tB (t : TE) : TT := fun σ H Q => t σ H fun x H1 => ∃ c, x = .bl c ∧ Q c H1
theorem pt_val {e : Expr} {t : TE} (h : PE X e t) (he : ∀ whole, isTrue e X.env whole = (do let v ← whole; standAt e.pos; holding [v] (truthy v)) := by intro _; rfl) : PT X e (tB t) := by
  intro pins s σ H Q I hw
  refine isTrue_plain (thn (h pins s σ H _ I hw) fun v s1 ⟨x, H1, I1, r1, q1⟩ => ?_) (he _)
  obtain ⟨d, rfl, q⟩ := q1
  cases r1
  exact wpAny_truthy_bool ⟨H1, I1, q⟩
variable {tA tB' : TT} {rest : List Expr}
def tAnd (t u : TT) : TT := fun σ H Q => t σ H fun c H1 => if c = true then u σ H1 Q else Q false H1
def tOr (t u : TT) : TT := fun σ H Q => t σ H fun c H1 => if c = true then Q true H1 else u σ H1 Q
def tNot (t : TT) : TT := fun σ H Q => t σ H fun c H1 => Q (!c) H1
theorem pw_and1 (ha : PT X a tA) : PW X (.BoolOp .And [a] pos) tA := by
  intro wh pins s σ H Q I h
  refine isTrue_and (thn (ha pins s σ H Q I h) fun c s1 e => ?_)
  cases c with
  | true => exact isTrue_and_nil e
  | false => exact e
theorem pw_or1 (ha : PT X a tA) : PW X (.BoolOp .Or [a] pos) tA := by
  intro wh pins s σ H Q I h
  refine isTrue_or (thn (ha pins s σ H Q I h) fun c s1 e => ?_)
  cases c with
  | false => exact isTrue_or_nil e
  | true => exact e
theorem pw_and (ha : PT X a tA) (hb : PW X (.BoolOp .And (b :: rest) pos) tB') : PW X (.BoolOp .And (a :: b :: rest) pos) (tAnd tA tB') := by
  intro wh pins s σ H Q I h
  refine isTrue_and (thn (ha pins s σ H _ I h) fun c s1 ⟨H1, I1, q1⟩ => ?_)
  cases c with
  | true => exact hb wh pins s1 σ H1 Q I1 q1
  | false => exact ⟨H1, I1, q1⟩
theorem pw_or (ha : PT X a tA) (hb : PW X (.BoolOp .Or (b :: rest) pos) tB') : PW X (.BoolOp .Or (a :: b :: rest) pos) (tOr tA tB') := by
  intro wh pins s σ H Q I h
  refine isTrue_or (thn (ha pins s σ H _ I h) fun c s1 ⟨H1, I1, q1⟩ => ?_)
  cases c with
  | true => exact ⟨H1, I1, q1⟩
  | false => exact hb wh pins s1 σ H1 Q I1 q1
theorem pt_not (ha : PT X a tA) : PT X (.UnaryOp .Not a pos) (tNot tA) := by
  intro pins s σ H Q I h
  exact isTrue_not (ha pins s σ H (fun c H1 => Q (!c) H1) I h)
def tAndV (ta tb : TE) : TE := fun σ H Q => ta σ H fun x H1 => ∃ c, x = .bl c ∧ if c = true then tb σ H1 Q else Q (.bl false) H1
def tNotV (ta : TE) : TE := fun σ H Q => ta σ H fun x H1 => ∃ c, x = .bl c ∧ Q (.bl (!c)) H1
theorem pe_one {op} {t : TE} (h : PE X a t) : PE X (.BoolOp op [a] pos) t := fun pins s σ H Q I hw => BoolOp_one (h pins s σ H Q I hw)
theorem pe_and (ha : PE X a ta) (hb : PE X (.BoolOp .And (b :: rest) pos) tb) : PE X (.BoolOp .And (a :: b :: rest) pos) (tAndV ta tb) := by
  intro pins s σ H Q I h
  refine BoolOp_and (thn (ha pins s σ H _ I h) fun v s1 ⟨x, H1, I1, r1, q1⟩ => ?_)
  obtain ⟨c, rfl, q1⟩ := q1
  cases r1
  refine wpAny_truthy_bool ?_
  cases c with
  | true => exact hb pins s1 σ H1 Q I1 q1
  | false => exact ⟨.bl false, H1, I1, rfl, q1⟩
theorem pe_not (ha : PE X a ta) : PE X (.UnaryOp .Not a pos) (tNotV ta) := by
  intro pins s σ H Q I h
  refine UnaryOp_ (thn (ha pins s σ H _ I h) fun v s1 ⟨x, H1, I1, r1, q1⟩ => ?_)
  obtain ⟨c, rfl, q1⟩ := q1
  cases r1
  exact not_of (wpAny_truthy_bool ⟨.bl (!c), H1, I1, rfl, q1⟩)
end
end L2
namespace L2
open PySem PySem.Spec PyProof.Rows
def SqL (K : PySem.W.Frag) (H : Hp) (a : Addr) (xs : List V) : Prop :=
  Rd H a (.lst xs) ∨
    ∃ (o : Obj) (its : Array Value) (n : Nat), K.lookup a = some o ∧ o.cls = .type "list" ∧ o.dict = none ∧ o.data = .seq its n ∧ its.size ≤ sizeLine ∧ Vals xs its.toList
def SqT (K : PySem.W.Frag) (H : Hp) (a : Addr) (xs : List V) : Prop :=
  Rd H a (.tup xs) ∨
    ∃ (o : Obj) (its : Array Value) (n : Nat), K.lookup a = some o ∧ o.cls = .type "tuple" ∧ o.data = .seq its n ∧ its.size ≤ sizeLine ∧ Vals xs its.toList
def absV : Value → Option V
  | .none => some .non
  | .bool b => some (.bl b)
  | .int i _ => some (.int i)
  | .str x _ => some (.str x)
  | .bytes b _ => some (.byt b)
  | .float b _ => some (.flt b)
  | .ref a => some (.ref a)
  | .type n => some (.ty n)
  | _ => none
theorem RelV.abs {x : V} {u : Value} (r : RelV x u) : absV u = some x := by
  cases x with
  | non => cases r; rfl
  | bl _ => cases r; rfl
  | int _ => obtain ⟨t, rfl⟩ := r; rfl
  | str _ => obtain ⟨t, rfl⟩ := r; rfl
  | byt _ => obtain ⟨t, rfl⟩ := r; rfl
  | flt _ => obtain ⟨t, rfl⟩ := r; rfl
  | ref _ => cases r; rfl
  | ty _ => cases r; rfl
theorem RelV.inj {x y : V} {u : Value} (r : RelV x u) (q : RelV y u) : x = y := Option.some.inj (r.abs.symm.trans q.abs)
theorem Vals.inj : ∀ {xs ys : List V} {us : List Value}, Vals xs us → Vals ys us → xs = ys
  | _, _, _, .nil, .nil => rfl
  | _, _, _, .cons r t, .cons r' t' => by rw [r.inj r', Vals.inj t t']
section
variable {X : Cx} {pins : List (Addr × Obj)} {σ : St} {H : Hp} {s : Shared} {a : Addr} {xs ys : List V}
theorem SqL.of {K : PySem.W.Frag} (h : H a = some (.lst xs)) : SqL K H a xs := .inl (.inl h)
theorem SqT.of {K : PySem.W.Frag} (h : H a = some (.tup xs)) : SqT K H a xs := .inl (.inl h)
theorem Inv.list (I : Inv X pins σ H s) (h : SqL X.K H a xs) : ∃ its : List Value, Vals xs its ∧ PlainL s.heap a its.toArray ∧ xs.length ≤ sizeLine := by
  rcases h with h | ⟨o, its, n, hk, hc, hd, hs, hz, r⟩
  · obtain ⟨z, its, n, r, e⟩ := h.ok I.hok
    exact ⟨its, r, ⟨_, n, e, rfl, rfl, rfl⟩, z⟩
  · refine ⟨its.toList, r, ⟨o, n, I.kIn a o hk, hc, hd, by simpa using hs⟩, ?_⟩
    have e := r.length
    simp only [Array.length_toList] at e
    omega
theorem Inv.tuple (I : Inv X pins σ H s) (h : SqT X.K H a xs) : ∃ its : List Value, Vals xs its ∧ IsTup s.heap a its.toArray ∧ xs.length ≤ sizeLine := by
  rcases h with h | ⟨o, its, n, hk, hc, hs, hz, r⟩
  · obtain ⟨z, its, r, p⟩ := h.ok I.hok
    exact ⟨its, r, p, z⟩
  · refine ⟨its.toList, r, ⟨o, I.kIn a o hk, hc, n, by simpa using hs⟩, ?_⟩
    have e := r.length
    simp only [Array.length_toList] at e
    omega
theorem Inv.list_inj (I : Inv X pins σ H s) (h : SqL X.K H a xs) (h' : SqL X.K H a ys) : xs = ys := by
  obtain ⟨its, r, ⟨o, n, e, _, _, d⟩, _⟩ := I.list h
  obtain ⟨its', r', ⟨o', n', e', _, _, d'⟩, _⟩ := I.list h'
  rw [e] at e'; cases e'
  rw [d] at d'
  injection d' with d1 _
  have : its = its' := by simpa using congrArg Array.toList d1
  subst this
  exact r.inj r'
end
abbrev Cx.wish (X : Cx) (E : Value → Shared → Prop) : Cx := { X with xe := E }
abbrev Cx.nox (X : Cx) : Cx := X.wish fun _ _ => False
theorem Cx.Ok.wish {X : Cx} (ok : X.Ok) (E : Value → Shared → Prop) : (X.wish E).Ok :=
  ⟨ok.mod, ok.kind, ok.glob, ok.blt, ok.above, ok.inj, ok.has, ok.cab, ok.hd, ok.frames, ok.stk, ok.exf, ok.bs, ok.bsz, ok.noex, ok.exfs, ok.funs, ok.frf⟩
theorem Cx.Ok.unwish {X : Cx} {E : Value → Shared → Prop} (ok : (X.wish E).Ok) : X.Ok :=
  ⟨ok.mod, ok.kind, ok.glob, ok.blt, ok.above, ok.inj, ok.has, ok.cab, ok.hd, ok.frames, ok.stk, ok.exf, ok.bs, ok.bsz, ok.noex, ok.exfs, ok.funs, ok.frf⟩
section
variable {X : Cx} {pins : List (Addr × Obj)} {σ : St} {H : Hp} {s : Shared} {E : Value → Shared → Prop}
theorem Inv.wish (I : Inv X pins σ H s) (E : Value → Shared → Prop) : Inv (X.wish E) pins σ H s := ⟨I.ok.wish E, I.os, I.bare, I.base, I.loc, I.cell, I.free, I.freeC, I.pin, I.hok, I.len⟩
theorem Inv.unwish (I : Inv (X.wish E) pins σ H s) : Inv X pins σ H s := ⟨I.ok.unwish, I.os, I.bare, I.base, I.loc, I.cell, I.free, I.freeC, I.pin, I.hok, I.len⟩
theorem SP.unwish {D : Ends} {f : Flow} {s' : Shared} (h : SP (X.wish E) pins D f s') : SP X pins D f s' := by
  cases f with
  | next => obtain ⟨σ', H', I, q⟩ := h; exact ⟨σ', H', I.unwish, q⟩
  | brk => obtain ⟨σ', H', I, q⟩ := h; exact ⟨σ', H', I.unwish, q⟩
  | cont => obtain ⟨σ', H', I, q⟩ := h; exact ⟨σ', H', I.unwish, q⟩
  | ret u => obtain ⟨v, σ', H', I, r, q⟩ := h; exact ⟨v, σ', H', I.unwish, r, q⟩
theorem PE.nox {e : Expr} {t : TE} (h : PE X.nox e t) : PE X e t := fun pins s σ H Q I hw =>
  wpAny_mono (h pins s σ H Q (I.wish _) hw) (fun _ _ ⟨v, H', I', r, q⟩ => ⟨v, H', I'.unwish, r, q⟩) fun _ _ z => False.elim z
theorem PT.nox {e : Expr} {t : TT} (h : PT X.nox e t) : PT X e t := fun pins s σ H Q I hw =>
  wpAny_mono (h pins s σ H Q (I.wish _) hw) (fun _ _ ⟨H', I', q⟩ => ⟨H', I'.unwish, q⟩) fun _ _ z => False.elim z
theorem PSs.nox {st : List Stmt} {t : TS} (h : PSs X.nox st t) : PSs X st t := fun pins s σ H D I hw =>
  wpAny_mono (h pins s σ H D (I.wish _) hw) (fun _ _ q => q.unwish) fun _ _ z => False.elim z
end
section
variable {X : Cx} {st : Stmt} {rest : List Stmt} {t u : TS} {e : Expr} {te : TE} {pos : Pos}
def tNext : TS := fun D σ H => D.nx σ H
def tSeq (t u : TS) : TS := fun D σ H => t { D with nx := u D } σ H
theorem pss_nil : PSs X [] tNext := fun _ _ σ H _ I h => wpAny_execs_nil ⟨σ, H, I, h⟩
theorem pss_cons (h1 : PS X st t) (h2 : PSs X rest u) : PSs X (st :: rest) (tSeq t u) := by
  intro pins s σ H D I h
  refine wpAny_execs_cons (thn (h1 pins s σ H { D with nx := u D } I h) fun f s1 q => ?_)
  cases f with
  | next =>
    obtain ⟨σ', H', I', q⟩ := q
    exact h2 pins s1 σ' H' D I' q
  | ret v => exact q
  | brk => exact q
  | cont => exact q
theorem pss_one (h1 : PS X st t) : PSs X [st] t := by
  intro pins s σ H D I h
  refine wpAny_execs_cons (thn (h1 pins s σ H D I h) fun f s1 q => ?_)
  cases f with
  | next => exact wpAny_execs_nil q
  | ret v => exact q
  | brk => exact q
  | cont => exact q
theorem Inv.quiet {pins : List (Addr × Obj)} {σ : St} {H : Hp} {s : Shared} (I : Inv X pins σ H s) : interactive X.env = false := by simp [interactive, I.ok.kind]
def tDrop (te : TE) : TS := fun D σ H => te σ H fun _ H1 => D.nx σ H1
theorem ps_expr (he : PE X e te) (hs : swapsWith e none pos.line X.env = pure false := by rfl) : PS X (.Expr e pos) (tDrop te) := by
  intro pins s σ H D I h
  exact wpAny_Expr_any (thn (he pins s σ H _ I h) fun v s1 ⟨x, H1, I1, r1, q1⟩ => ⟨σ, H1, I1, q1⟩) I.quiet hs
def tRet (te : TE) : TS := fun D σ H => te σ H D.rt
theorem ps_ret (he : PE X e te) : PS X (.Return (some e) pos) (tRet te) := by
  intro pins s σ H D I h
  exact wpAny_Return_some (thn (he pins s σ H _ I h) fun v s1 ⟨x, H1, I1, r1, q1⟩ => ⟨x, σ, H1, I1, r1, q1⟩)
def tIfS (c : TT) (t u : TS) : TS := fun D σ H => c σ H fun b H1 => if b = true then t D σ H1 else u D σ H1
theorem ps_if {c : Expr} {a b : List Stmt} {tc : TT} (hc : PT X c tc) (ha : PSs X a t) (hb : PSs X b u) : PS X (.If c a b pos) (tIfS tc t u) := by
  intro pins s σ H D I h
  refine wpAny_If (thn (hc pins s σ H _ I h) fun d s1 ⟨H1, I1, q1⟩ => ?_)
  cases d with
  | true => exact ha pins s1 σ H1 D I1 q1
  | false => exact hb pins s1 σ H1 D I1 q1
def tNever : TS := fun _ _ _ => False
theorem pss_never {sts : List Stmt} : PSs X sts tNever := fun _ _ _ _ _ _ h => h.elim
end
abbrev TG := V → St → Hp → (St → Hp → Prop) → Prop
abbrev TGs := List V → St → Hp → (St → Hp → Prop) → Prop
def PG (X : Cx) (target : Expr) (t : TG) : Prop :=
  ∀ (pins : List (Addr × Obj)) (s : Shared) (σ : St) (H : Hp) (v : V) (u : Value) (Q : St → Hp → Prop), Inv X pins σ H s → RelV v u → t v σ H Q →
    wpAny (model X.prog X.w) X.A (assign target X.env u) (fun _ s' => ∃ σ' H', Inv X pins σ' H' s' ∧ Q σ' H') X.xe s
def PGs (X : Cx) (ts : List Expr) (t : TGs) : Prop :=
  ∀ (pins : List (Addr × Obj)) (s : Shared) (σ : St) (H : Hp) (vs : List V) (us : List Value) (Q : St → Hp → Prop), Inv X pins σ H s → Vals vs us → t vs σ H Q →
    wpAny (model X.prog X.w) X.A (assignInOrder ((assignEach ts X.env).map (·.2)) us) (fun _ s' => ∃ σ' H', Inv X pins σ' H' s' ∧ Q σ' H') X.xe s
section
variable {X : Cx} {pos : Pos}
def gName (i : Nat) : TG := fun v σ H Q => Q (σ.set i (some v)) H
theorem pg_name {i : Nat} {x : Str} (hN : X.N.Nodup) (hi : X.N[i]? = some x) (hx : Loc X.env.scope x) (hf : X.fn x = true ∨ X.env.scope.names.lookup x = some .local := by first | exact .inl rfl | exact .inr rfl | assumption) : PG X (.Name x pos) (gName i) := by
  intro pins s σ H v u Q I r h
  exact wpAny_assign_Name (store_ok I hN hi hx r (fun s' I' => ⟨_, H, I', h⟩) hf)
def gNil : TGs := fun vs σ H Q => vs = [] ∧ Q σ H
def gCons (t : TG) (u : TGs) : TGs := fun vs σ H Q => ∃ v r, vs = v :: r ∧ t v σ H fun σ' H' => u r σ' H' Q
theorem pgs_nil : PGs X [] gNil := by
  intro pins s σ H vs us Q I r h
  obtain ⟨e, h⟩ := h
  subst e
  cases r
  exact assignInOrder_nil ⟨σ, H, I, h⟩
theorem pgs_cons {e : Expr} {es : List Expr} {t : TG} {u : TGs} (h1 : PG X e t) (h2 : PGs X es u)
    (hs : (assignEach (e :: es) X.env).map (·.2) = assign e X.env :: (assignEach es X.env).map (·.2) := by rfl) : PGs X (e :: es) (gCons t u) := by
  intro pins s σ H vs us Q I r h
  obtain ⟨v, vr, e1, h⟩ := h
  subst e1
  cases r with
  | cons r rr =>
    rw [hs]
    refine assignInOrder_cons (thn (h1 pins s σ H _ _ _ I r h) fun _ s1 ⟨σ1, H1, I1, q1⟩ => ?_)
    exact h2 pins s1 σ1 H1 _ _ Q I1 rr q1
def gTup (K : PySem.W.Frag) (n : Nat) (t : TGs) : TG := fun v σ H Q => ∃ a xs, v = .ref a ∧ SqT K H a xs ∧ xs.length = n ∧ t xs σ H Q
theorem pg_tup {es : List Expr} {k : Nat} {t : TGs} {n : Nat} (hc : X.calm = true) (h : PGs X es t)
    (hn : (assignEach es X.env).length = n := by rfl) (hst : (assignEach es X.env).findIdx? (·.1) = none := by rfl) : PG X (.Tuple es k pos) (gTup X.K n t) := by
  intro pins s σ H v u Q I r hw
  obtain ⟨a, xs, e1, hq, hl, hw⟩ := hw
  subst e1
  cases r
  obtain ⟨its, rv, ht, hz⟩ := I.tuple hq
  refine assign_Tuple_tuple (I.ok.hd hc) ht (by simp [hn, ← hl, rv.length]) hst fun h' hx => ?_
  have I1 : Inv X pins σ H { s with heap := h' } := I.kept (t' := s.toks) fun b o e => hx b o (Nat.ne_of_lt (Heap.lt_size e)) e
  exact h pins _ σ H xs _ Q I1 (by simpa using rv) hw
def tAsg (te : TE) (g : TG) : TS := fun D σ H => te σ H fun x H1 => g x σ H1 D.nx
theorem ps_asg {tg e : Expr} {te : TE} {g : TG} (he : PE X e te) (hg : PG X tg g) (hs : swapsWithSole [tg] e pos.line X.env = pure false := by rfl) (hw : swappedStores [tg] e X.env = pure none := by rfl)
    (h1 : (assignEach [tg] X.env).map (·.2) = [assign tg X.env] := by rfl) : PS X (.Assign [tg] e pos) (tAsg te g) := by
  intro pins s σ H D I h
  refine wpAny_Assign_stores (thn (he pins s σ H _ I h) fun v s1 ⟨x, H1, I1, r1, q1⟩ => ?_) hs hw
  rw [h1]
  exact thn (hg pins s1 σ H1 x v _ I1 r1 q1) fun _ s2 q => q
theorem ps_set {i : Nat} {x : Str} {e : Expr} {te : TE} {pos' : Pos} (hN : X.N.Nodup) (hi : X.N[i]? = some x) (hx : Loc X.env.scope x) (he : PE X e te) (hs : swapsWith e (some (.Name x pos')) pos.line X.env = pure false := by rfl) (hf : X.fn x = true ∨ X.env.scope.names.lookup x = some .local := by first | exact .inl rfl | exact .inr rfl | assumption) :
    PS X (.Assign [.Name x pos'] e pos) (tAsg te (gName i)) := by
  intro pins s σ H D I h
  refine wpAny_Assign_Name (thn (he pins s σ H _ I h) fun v s1 ⟨y, H1, I1, r1, q1⟩ => ?_) hs
  exact store_ok I1 hN hi hx r1 (fun s2 I2 => ⟨_, H1, I2, q1⟩) hf
end
section
variable {X : Cx} {pos : Pos}
end
structure It where
  go : Nat → Hp → Prop
  yld : Nat → Hp → V → Hp → Prop
  stop : Nat → Hp → Prop
def FpOk (X : Cx) (pins : List (Addr × Obj)) (H : Hp) (b : Addr) : Prop :=
  H b = none ∧ b ≠ X.env.locals ∧ b ∉ X.fs ∧ (b ∈ X.ex ∨ X.s₀.heap.objs.size ≤ b) ∧ (∀ x c, X.env.cells.lookup x = some c → c ≠ b) ∧ ∀ p ∈ X.pn ++ pins, p.1 ≠ b
theorem Inv.fpOk {X : Cx} {pins : List (Addr × Obj)} {σ : St} {H H' : Hp} {s : Shared} {b : Addr} (I : Inv X pins σ H s) (hb : s.heap.objs.size ≤ b) (hn : H' b = none) : FpOk X pins H' b := by
  refine ⟨hn, Nat.ne_of_gt (Nat.lt_of_lt_of_le I.lt hb), I.nofs hb, .inr (Nat.le_trans I.sz hb), fun x c e z => ?_, fun p hp z => ?_⟩
  · obtain ⟨v, q⟩ := I.cell x c e
    exact absurd (Nat.lt_of_lt_of_le q.lt (by rw [z]; exact hb)) (Nat.lt_irrefl _)
  · exact absurd (Nat.lt_of_lt_of_le (Heap.lt_size (I.pin p hp).1) (by rw [z]; exact hb)) (Nat.lt_irrefl _)
structure Turn (P : Program) (w : World) (K : PySem.W.Frag) (tg : Expr) (J : It) (fp : List Addr) (it : Addr) (tn : Nat → Heap → Prop) : Prop where
  mem : it ∈ fp
  obj : ∀ i h, tn i h → ∀ b ∈ fp, ∃ o, h.get? b = some o ∧ ∀ v, o.data ≠ .cell v
  keep : ∀ i h h', tn i h → (∀ b ∈ fp, ∀ o, h.get? b = some o → h'.get? b = some o) → tn i h'
  item : ∀ (X : Cx), X.prog = P → X.w = w → X.K = K → X.calm = true → ∀ (i : Nat) (pins : List (Addr × Obj)) (s : Shared) (σ : St) (H : Hp) (E : Value → Shared → Prop), Inv X pins σ H s → (∀ b ∈ fp, FpOk X pins H b) → tn i s.heap → J.go i H →
    wpAny (model P w) X.A (pyNext (.ref it)) (fun r s1 => ∃ u, r = some u ∧
      wpAny (model P w) X.A (letOwnedTupleGo tg (.ref it) u) (fun _ s2 => ∃ x H', Inv X pins σ H' s2 ∧ RelV x u ∧ J.yld i H x H' ∧ tn (i + 1) s2.heap ∧ ∀ b ∈ fp, H' b = none) E s1) E s
  done : ∀ (X : Cx), X.prog = P → X.w = w → X.K = K → X.calm = true → ∀ (i : Nat) (pins : List (Addr × Obj)) (s : Shared) (σ : St) (H : Hp) (E : Value → Shared → Prop), Inv X pins σ H s → (∀ b ∈ fp, FpOk X pins H b) → tn i s.heap → J.stop i H →
    wpAny (model P w) X.A (pyNext (.ref it)) (fun r s1 => r = none ∧ Inv X pins σ H s1) E s
  self : ∀ (A : Around) (i : Nat) (s : Shared) (Q : Value → Shared → Prop) (E : Value → Shared → Prop), tn i s.heap → Q (.ref it) s → wpAny (model P w) A (pyIter (.ref it)) Q E s
abbrev TI := St → Hp → (It → Hp → Prop) → Prop
def PIE (X : Cx) (pins : List (Addr × Obj)) (σ : St) (tg : Expr) (R : It → Hp → Prop) (itv : Value) (s2 : Shared) : Prop :=
  ∃ (it : Addr) (fp : List Addr) (tn : Nat → Heap → Prop) (J : It) (H' : Hp), itv = .ref it ∧ Inv X pins σ H' s2 ∧ Turn X.prog X.w X.K tg J fp it tn ∧ tn 0 s2.heap ∧ (∀ b ∈ fp, FpOk X pins H' b) ∧ R J H'
def PI (X : Cx) (tg iter : Expr) (wi : TI) : Prop :=
  ∀ (pins : List (Addr × Obj)) (s : Shared) (σ : St) (H : Hp) (R : It → Hp → Prop), Inv X pins σ H s → wi σ H R →
    wpAny (model X.prog X.w) X.A (eval iter X.env) (fun v s1 => wpAny (model X.prog X.w) X.A (pyIter v) (PIE X pins σ tg R) X.xe s1) X.xe s
theorem go_of {M : Model} {A : Around} {E : Value → Shared → Prop} {s : Shared} {tg : Expr} {it : Addr} {u : Value} {o : Obj} {n : String} {vs : Array Value} {Q : Unit → Shared → Prop} (ho : s.heap.get? it = some o) (hc : o.cls = .type n) (hd : o.data = .fields vs)
    (hn : ["enumerate", "zip", "dict_itemiterator", "dict_reverseitemiterator", "odict_iterator", "itertools.zip_longest", "itertools.pairwise"].contains n = false) (hQ : Q () s) : wpAny M A (letOwnedTupleGo tg (.ref it) u) Q E s := by
  unfold letOwnedTupleGo
  cases tg <;> first
    | exact wpAny_pure hQ
    | (cases u <;> first
        | exact wpAny_pure hQ
        | (refine wpAny_bind (wpAny_load ho ?_)
           rw [hc, hd]
           show wpAny M A (if (["enumerate", "zip", "dict_itemiterator", "dict_reverseitemiterator", "odict_iterator", "itertools.zip_longest", "itertools.pairwise"].contains n && vs[0]? == some (rawInt _)) = true then _ else _) Q E s
           rw [if_neg (by intro h; rw [hn, Bool.false_and] at h; cases h)]
           exact wpAny_pure hQ))
def Itl (K : PySem.W.Frag) (a : Addr) : It :=
  ⟨fun i H => ∃ xs x, SqL K H a xs ∧ xs[i]? = some x, fun i H x H' => H' = H ∧ ∀ xs, SqL K H a xs → xs[i]? = some x, fun i H => ∃ xs, SqL K H a xs ∧ xs.length ≤ i⟩
def Itr (lo : Int) (n : Nat) : It := ⟨fun i _ => i < n, fun i H x H' => H' = H ∧ x = .int (lo + i), fun i _ => n ≤ i⟩
theorem turn_list {P : Program} {w : World} {K : PySem.W.Frag} {tg : Expr} (a it : Addr) : Turn P w K tg (Itl K a) [it] it (fun i h => h.IsListIter it a i) where
  mem := by simp
  obj := fun i h st b hb => by
    have e : b = it := by simpa using hb
    subst e
    obtain ⟨o, e, c, d⟩ := st
    exact ⟨o, e, fun v z => by rw [d] at z; cases z⟩
  keep := fun i h h' st k => st.at fun o e => k it (by simp) o e
  item := by
    intro X hP hw hK hc i pins s σ H E I hf st hg
    subst hP hw hK
    obtain ⟨xs, x, hq, hx⟩ := hg
    obtain ⟨its, rv, p, hz⟩ := I.list hq
    obtain ⟨u, hu, ru⟩ := rv.get hx
    obtain ⟨f0, f1, f2, f3, f4, f5⟩ := hf it (by simp)
    refine wpAny_pyNext_list_item st p.isList (x := u) (by simpa using hu) fun h' st' sb => ?_
    have I1 : Inv X pins σ H { s with heap := h' } := I.turned (t' := s.toks) (fun b o hb e => (sb.2 b hb).trans e) f0 f1 f3 f4 f5
    obtain ⟨o, e, c, d⟩ := id st'
    exact ⟨u, rfl, go_of (s := { s with heap := h' }) e c d (by decide) ⟨x, H, I1, ru, ⟨rfl, fun ys hy => by rw [I.list_inj hy hq]; exact hx⟩, st', fun b hb => (hf b hb).1⟩⟩
  done := by
    intro X hP hw hK hc i pins s σ H E I hf st hg
    subst hP hw hK
    obtain ⟨xs, hq, hx⟩ := hg
    obtain ⟨its, rv, p, hz⟩ := I.list hq
    obtain ⟨f0, f1, f2, f3, f4, f5⟩ := hf it (by simp)
    have hl := rv.length
    exact wpAny_pyNext_list_end (I.ok.hd hc) st p.isList (by simp; omega) fun h' eb => ⟨rfl, I.turned (t' := s.toks) (fun b o hb e => eb b o hb e) f0 f1 f3 f4 f5⟩
  self := fun _ _ _ _ _ st h => wpAny_pyIter_listiter st h
theorem turn_range {P : Program} {w : World} {K : PySem.W.Frag} {tg : Expr} (it : Addr) (lo : Int) (n : Nat) : Turn P w K tg (Itr lo n) [it] it (fun i h => IsRangeIter h it (lo + (i : Nat) * 1) ((n : Int) - (i : Nat)) 1) where
  mem := by simp
  obj := fun i h st b hb => by
    have e : b = it := by simpa using hb
    subst e
    exact ⟨_, st, fun v z => by
      have z' : Data.fields _ = Data.cell v := z
      cases z'⟩
  keep := fun i h h' st k => k it (by simp) _ st
  item := by
    intro X hP hw hK hc i pins s σ H E I hf st hg
    subst hP hw hK
    obtain ⟨f0, f1, f2, f3, f4, f5⟩ := hf it (by simp)
    have W := Walks.range (prog := X.prog) (w := X.w) (I.ok.hd hc) it lo 1 n
    refine W.item i s _ _ hg st fun v h' tk hv st' kk => ?_
    obtain ⟨t, rfl⟩ := hv
    have I1 : Inv X pins σ H { s with heap := h', toks := tk } := I.turned (fun b o hb e => kk b o (by simpa using hb) e) f0 f1 f3 f4 f5
    refine ⟨_, rfl, go_of (s := { s with heap := h', toks := tk }) (n := "range_iterator") st' rfl rfl (by decide) ⟨.int (lo + i), H, I1, ⟨t, ?_⟩, ⟨rfl, rfl⟩, st', fun b hb => (hf b hb).1⟩⟩
    rw [Int.mul_one]
  done := by
    intro X hP hw hK hc i pins s σ H E I hf st hg
    subst hP hw hK
    obtain ⟨f0, f1, f2, f3, f4, f5⟩ := hf it (by simp)
    exact wpAny_pyNext_range_end (I.ok.hd hc) st (by have : n ≤ i := hg; omega) fun h' eb => ⟨rfl, I.turned (t' := s.toks) (fun b o hb e => eb b o hb e) f0 f1 f3 f4 f5⟩
  self := fun _ _ _ _ _ st h => wpAny_pyIter_rangeiter st h
end L2
namespace L2
open PySem PySem.Spec PyProof.Rows
section
variable {X : Cx} {tg : Expr}
def iList (K : PySem.W.Frag) (tl : TE) : TI := fun σ H R => tl σ H fun x H1 => ∃ a, x = .ref a ∧ (∃ xs, SqL K H1 a xs) ∧ R (Itl K a) H1
theorem pi_list {l : Expr} {tl : TE} (hl : PE X l tl) : PI X tg l (iList X.K tl) := by
  intro pins s σ H R I h
  refine thn (hl pins s σ H _ I h) fun v s1 ⟨x, H1, I1, r1, q1⟩ => ?_
  obtain ⟨a, e, ⟨xs, hq⟩, q⟩ := q1
  subst e
  cases r1
  obtain ⟨its, rv, p, hz⟩ := I1.list hq
  refine wpAny_pyIter_list p.isList ?_
  refine ⟨s1.heap.objs.size, [s1.heap.objs.size], _, _, H1, rfl, I1.kept (t' := s1.toks) fun b o e => Heap.get?_push_of_some _ e, turn_list a _, ⟨_, Heap.get?_push_size _ rfl, rfl, rfl⟩, fun b hb => ?_, q⟩
  have e : b = s1.heap.objs.size := by simpa using hb
  subst e
  exact I1.fpOk (Nat.le_refl _) (I1.hok.fresh (Nat.le_refl _))
theorem range_it {pins : List (Addr × Obj)} {σ : St} {H : Hp} {s : Shared} {R : It → Hp → Prop} {E : Value → Shared → Prop} {lo hi : Int} {t u v : Tok} {tk : Nat} (I : Inv X pins σ H s) (h1 : -(2 ^ 62) ≤ lo) (h2 : lo < 2 ^ 62) (h3 : -(2 ^ 62) ≤ hi) (h4 : hi < 2 ^ 62)
    (q : R (Itr lo (hi - lo).toNat) H) : wpAny (model X.prog X.w) X.A (pyIter (.ref s.heap.objs.size)) (PIE X pins σ tg R) E { s with heap := s.heap.push { cls := .type "range", data := .fields #[.int lo t, .int hi u, .int 1 v] }, toks := tk } := by
  refine wpAny_pyIter_range (IsRange.new ..) (small_one h1 h2 h3 h4) ?_
  have I1 : Inv X pins σ H { s with heap := s.heap.push { cls := .type "range", data := .fields #[.int lo t, .int hi u, .int 1 v] }, toks := tk } := I.kept fun b o e => Heap.get?_push_of_some _ e
  refine ⟨(s.heap.push { cls := .type "range", data := .fields #[.int lo t, .int hi u, .int 1 v] }).objs.size, [(s.heap.push { cls := .type "range", data := .fields #[.int lo t, .int hi u, .int 1 v] }).objs.size], _, _, H, rfl,
    I1.kept (t' := tk) fun b o e => Heap.get?_push_of_some _ e, turn_range _ lo (hi - lo).toNat, ?_, fun b hb => ?_, q⟩
  · have e1 : lo + ((0 : Nat) : Int) * 1 = lo := by simp
    have e2 : (((hi - lo).toNat : Nat) : Int) - ((0 : Nat) : Int) = Builtin.Range.rangeSize lo hi 1 := by rw [rangeSize_one]; split <;> omega
    show IsRangeIter _ _ (lo + ((0 : Nat) : Int) * 1) ((((hi - lo).toNat : Nat) : Int) - ((0 : Nat) : Int)) 1
    rw [e1, e2]
    exact Heap.get?_push_size _ rfl
  · have e : b = (s.heap.push { cls := .type "range", data := .fields #[.int lo t, .int hi u, .int 1 v] }).objs.size := by simpa using hb
    subst e
    exact I1.fpOk (Nat.le_refl _) (I1.hok.fresh (Nat.le_refl _))
def iRng1 (ta : TA) : TI := fun σ H R => ta σ H fun vs H1 => ∃ j : Int, vs = [.int j] ∧ -(2 ^ 62) ≤ j ∧ j < 2 ^ 62 ∧ R (Itr 0 j.toNat) H1
def iRng2 (ta : TA) : TI := fun σ H R => ta σ H fun vs H1 => ∃ i j : Int, vs = [.int i, .int j] ∧ (-(2 ^ 62) ≤ i ∧ i < 2 ^ 62 ∧ -(2 ^ 62) ≤ j ∧ j < 2 ^ 62) ∧ R (Itr i (j - i).toNat) H1
theorem pi_range1 {a : Expr} {ta : TA} {p pos : Pos} (hg : Gl X "range") (hm : X.mg "range" = none) (ha : PA X [a] ta) (hs : starEach [a] X.env = [(false, eval a X.env)] := by rfl) : PI X tg (.Call (.Name "range" p) [a] [] pos) (iRng1 ta) := by
  intro pins s σ H R I h
  refine Call_ (ld_blt I hg hm boot_range (PyProof.Rows.callWith_type1 (thn (ha pos pins s σ H _ I h) fun us s1 ⟨vs, H1, I1, r1, q1⟩ => ?_) hs rfl))
  obtain ⟨j, e, q1, q2, q⟩ := q1
  subst e
  cases r1 with
  | cons r rr =>
    cases rr
    obtain ⟨t, rfl⟩ := r
    exact call_range_1 (range_it I1 (by omega) (by omega) q1 q2 (by simpa using q))
theorem pi_range2 {a b : Expr} {ta : TA} {p pos : Pos} (hg : Gl X "range") (hm : X.mg "range" = none) (ha : PA X [a, b] ta) (hs : starEach [a, b] X.env = [(false, eval a X.env), (false, eval b X.env)] := by rfl) (hs2 : starEach [b] X.env = [(false, eval b X.env)] := by rfl) :
    PI X tg (.Call (.Name "range" p) [a, b] [] pos) (iRng2 ta) := by
  intro pins s σ H R I h
  refine Call_ (ld_blt I hg hm boot_range (PyProof.Rows.callWith_type1 (thn (ha pos pins s σ H _ I h) fun us s1 ⟨vs, H1, I1, r1, q1⟩ => ?_) (by rw [hs, hs2]) (by rw [hs2]; rfl)))
  obtain ⟨i, j, e, ⟨q1, q2, q3, q4⟩, q⟩ := q1
  subst e
  cases r1 with
  | cons r rr =>
    cases rr with
    | cons r' rr =>
      cases rr
      obtain ⟨t, rfl⟩ := r
      obtain ⟨t', rfl⟩ := r'
      exact call_range_2 (range_it I1 q1 q2 q3 q4 q)
def tFor (wi : TI) (g : TG) (tb : TS) : TS := fun D σ H => wi σ H fun J H1 => ∃ W : Nat → Nat → St → Hp → Prop, (∃ m, W 0 m σ H1) ∧ ∀ i m σ H, W i m σ H →
  (J.stop i H ∧ D.nx σ H) ∨ (J.go i H ∧ ∃ N : St → Hp → Prop, (∀ σ' H', N σ' H' → ∃ m', m' < m ∧ W (i + 1) m' σ' H') ∧ ∀ x H', J.yld i H x H' → g x σ H' fun σ2 H2 => tb { D with nx := N, ct := N, bk := D.nx } σ2 H2)
def pinsAt (fp : List Addr) (h : Heap) : List (Addr × Obj) := fp.filterMap fun b => (h.get? b).map fun o => (b, o)
theorem mem_pinsAt {fp : List Addr} {h : Heap} {b : Addr} {o : Obj} (hb : b ∈ fp) (e : h.get? b = some o) : (b, o) ∈ pinsAt fp h := List.mem_filterMap.mpr ⟨b, hb, by rw [e]; rfl⟩
theorem of_pinsAt {fp : List Addr} {h : Heap} {p : Addr × Obj} (hp : p ∈ pinsAt fp h) : p.1 ∈ fp ∧ h.get? p.1 = some p.2 := by
  obtain ⟨b, hb, e⟩ := List.mem_filterMap.mp hp
  cases q : h.get? b with
  | none => rw [q] at e; cases e
  | some o =>
    rw [q] at e
    have e' : (b, o) = p := Option.some.inj e
    subst e'
    exact ⟨hb, q⟩
theorem Inv.pinned {pins : List (Addr × Obj)} {σ : St} {H : Hp} {s : Shared} {fp : List Addr} (I : Inv X pins σ H s) (hf : ∀ b ∈ fp, FpOk X pins H b) (ho : ∀ b ∈ fp, ∃ o, s.heap.get? b = some o ∧ ∀ v, o.data ≠ .cell v) : Inv X (pins ++ pinsAt fp s.heap) σ H s :=
  I.pins_of fun p hp => (List.mem_append.mp hp).elim (fun z => I.pin p (List.mem_append_right _ z)) fun z => by
    obtain ⟨hb, e⟩ := of_pinsAt z
    obtain ⟨f0, f1, f2, _⟩ := hf p.1 hb
    obtain ⟨o, e', d⟩ := ho p.1 hb
    rw [e] at e'; cases e'
    exact ⟨e, f0, f1, f2, d⟩
theorem Inv.unpinned {pins pl : List (Addr × Obj)} {σ : St} {H : Hp} {s : Shared} (I : Inv X (pins ++ pl) σ H s) : Inv X pins σ H s := I.pins_of fun p hp => I.pin p (List.mem_append_right _ (List.mem_append_left _ hp))
theorem ps_for {iter : Expr} {body : List Stmt} {wi : TI} {g : TG} {tb : TS} {pos : Pos} (hp : PassesOwn (model X.prog X.w) X.A X.env X.xe) (hc : X.calm = true) (hi : PI X tg iter wi) (hg : PG X tg g) (hb : PSs X body tb)
    (hs : ∀ x, foldedSetIterable iter X.env x = pure x := by intro _; rfl) : PS X (.For tg iter body [] pos) (tFor wi g tb) := by
  intro pins s σ H D I h
  refine wpAny_For (thn (hi pins s σ H _ I h) fun v s1 h1 => thn h1 fun itv s2 h2 => ?_) hs
  obtain ⟨it, fp, tn, J, H2, e, I2, T, st2, f2, W, ⟨m0, w0⟩, turn⟩ := h2
  subst e
  have stat : ∀ {H' : Hp}, (∀ b ∈ fp, H' b = none) → ∀ b ∈ fp, FpOk X pins H' b := fun hn b hb => ⟨hn b hb, (f2 b hb).2⟩
  refine codeAny_forLoop_any (fun n s' => ∃ i σ' H', Inv X pins σ' H' s' ∧ tn i s'.heap ∧ (∀ b ∈ fp, H' b = none) ∧ W i n σ' H') ?_ m0 ⟨0, σ, H2, I2, st2, fun b hb => (f2 b hb).1, w0⟩
  rintro n s3 ⟨i, σ3, H3, I3, st3, fr3, w3⟩
  rcases turn i n σ3 H3 w3 with ⟨stop, qn⟩ | ⟨go, N, hN, step⟩
  · refine wpAny_passesOwn hp (thn (T.done X rfl rfl rfl hc i pins s3 σ3 H3 X.xe I3 (stat fr3) st3 stop) fun r s4 ⟨hr, I4⟩ => ?_)
    subst hr
    exact wpAny_execs_nil ⟨σ3, H3, I4, qn⟩
  · refine wpAny_passesOwn hp (thn (T.item X rfl rfl rfl hc i pins s3 σ3 H3 X.xe I3 (stat fr3) st3 go) fun r s4 ⟨u, hr, h4⟩ => ?_)
    subst hr
    refine wpAny_passesOwn hp (thn h4 fun _ s5 ⟨x, H5, I5, r5, y5, st5, fr5⟩ => ?_)
    have I5' := I5.pinned (stat fr5) (T.obj _ _ st5)
    refine wpAny_passesOwn hp (thn (hg _ s5 σ3 H5 x u _ I5' r5 (step x H5 y5)) fun _ s6 ⟨σ6, H6, I6, q6⟩ => ?_)
    refine wpAny_passesOwn hp (thn (hb _ s6 σ6 H6 _ I6 q6) fun f s7 q7 => ?_)
    have again : ∀ {σ7 : St} {H7 : Hp}, Inv X (pins ++ pinsAt fp s5.heap) σ7 H7 s7 → N σ7 H7 → ∃ m, m < n ∧ ∃ i σ' H', Inv X pins σ' H' s7 ∧ tn i s7.heap ∧ (∀ b ∈ fp, H' b = none) ∧ W i m σ' H' := fun {σ7 H7} I7 n7 => by
      obtain ⟨m', hm, w7⟩ := hN σ7 H7 n7
      refine ⟨m', hm, i + 1, σ7, H7, I7.unpinned, T.keep _ _ _ st5 fun b hb o e => (I7.pin (b, o) (List.mem_append_right _ (List.mem_append_right _ (mem_pinsAt hb e)))).1, fun b hb => ?_, w7⟩
      obtain ⟨o, e, d⟩ := T.obj _ _ st5 b hb
      exact (I7.pin (b, o) (List.mem_append_right _ (List.mem_append_right _ (mem_pinsAt hb e)))).2.1
    cases f with
    | next => obtain ⟨σ7, H7, I7, n7⟩ := q7; exact again I7 n7
    | cont => obtain ⟨σ7, H7, I7, n7⟩ := q7; exact again I7 n7
    | brk => obtain ⟨σ7, H7, I7, q7⟩ := q7; exact ⟨σ7, H7, I7.unpinned, q7⟩
    | ret v => obtain ⟨x7, σ7, H7, I7, r7, q7⟩ := q7; exact ⟨x7, σ7, H7, I7.unpinned, r7, q7⟩
end
theorem for_list {K : PySem.W.Frag} {a : Addr} {xs : List V} {g : TG} {tb : TS} {D : Ends} {σ : St} {H : Hp} (Pv : Nat → St → Hp → Prop) (h0 : Pv 0 σ H) (hl : ∀ i σ H, i ≤ xs.length → Pv i σ H → SqL K H a xs)
    (hs : ∀ i x σ H, xs[i]? = some x → Pv i σ H → g x σ H fun σ2 H2 => tb { D with nx := Pv (i + 1), ct := Pv (i + 1), bk := D.nx } σ2 H2) (hd : ∀ σ H, Pv xs.length σ H → D.nx σ H) :
    ∃ W : Nat → Nat → St → Hp → Prop, (∃ m, W 0 m σ H) ∧ ∀ i m σ H, W i m σ H →
      ((Itl K a).stop i H ∧ D.nx σ H) ∨ ((Itl K a).go i H ∧ ∃ N : St → Hp → Prop, (∀ σ' H', N σ' H' → ∃ m', m' < m ∧ W (i + 1) m' σ' H') ∧ ∀ x H', (Itl K a).yld i H x H' → g x σ H' fun σ2 H2 => tb { D with nx := N, ct := N, bk := D.nx } σ2 H2) := by
  refine ⟨fun i m σ H => m = xs.length - i ∧ i ≤ xs.length ∧ Pv i σ H, ⟨xs.length, by simp, Nat.zero_le _, h0⟩, ?_⟩
  rintro i m σ H ⟨rfl, hi, p⟩
  have q := hl i σ H hi p
  by_cases hlt : i < xs.length
  · refine .inr ⟨⟨xs, xs[i], q, by simp [hlt]⟩, Pv (i + 1), fun σ' H' p' => ⟨xs.length - (i + 1), by omega, rfl, hlt, p'⟩, fun x H' y => ?_⟩
    obtain ⟨e, y⟩ := y
    subst e
    exact hs i x σ _ (y xs q) p
  · have e : i = xs.length := by omega
    subst e
    exact .inl ⟨⟨xs, q, Nat.le_refl _⟩, hd σ H p⟩
theorem for_range {lo : Int} {n : Nat} {g : TG} {tb : TS} {D : Ends} {σ : St} {H : Hp} (Pv : Nat → St → Hp → Prop) (h0 : Pv 0 σ H)
    (hs : ∀ i σ H, i < n → Pv i σ H → g (.int (lo + i)) σ H fun σ2 H2 => tb { D with nx := Pv (i + 1), ct := Pv (i + 1), bk := D.nx } σ2 H2) (hd : ∀ σ H, Pv n σ H → D.nx σ H) :
    ∃ W : Nat → Nat → St → Hp → Prop, (∃ m, W 0 m σ H) ∧ ∀ i m σ H, W i m σ H →
      ((Itr lo n).stop i H ∧ D.nx σ H) ∨ ((Itr lo n).go i H ∧ ∃ N : St → Hp → Prop, (∀ σ' H', N σ' H' → ∃ m', m' < m ∧ W (i + 1) m' σ' H') ∧ ∀ x H', (Itr lo n).yld i H x H' → g x σ H' fun σ2 H2 => tb { D with nx := N, ct := N, bk := D.nx } σ2 H2) := by
  refine ⟨fun i m σ H => m = n - i ∧ i ≤ n ∧ Pv i σ H, ⟨n, by simp, Nat.zero_le _, h0⟩, ?_⟩
  rintro i m σ H ⟨rfl, hi, p⟩
  by_cases hlt : i < n
  · refine .inr ⟨hlt, Pv (i + 1), fun σ' H' p' => ⟨n - (i + 1), by omega, rfl, hlt, p'⟩, fun x H' y => ?_⟩
    obtain ⟨e, y⟩ := y
    subst e y
    exact hs i σ _ hlt p
  · have e : i = n := by omega
    subst e
    exact .inl ⟨Nat.le_refl _, hd σ H p⟩
end L2
namespace L2
open PySem PySem.Spec PyProof.Rows
abbrev R2 := V → V → Hp → VK → Prop
def OpR (X : Cx) (f : Value → Value → Sem Value) (r : R2) : Prop :=
  ∀ (pins : List (Addr × Obj)) (s : Shared) (σ : St) (H : Hp) (x y : V) (v u : Value) (Q : VK), Inv X pins σ H s → RelV x v → RelV y u → r x y H Q →
    wpAny (model X.prog X.w) X.A (f v u) (EP X pins σ Q) X.xe s
def UnR (X : Cx) (f : Value → Sem Value) (r : V → Hp → VK → Prop) : Prop :=
  ∀ (pins : List (Addr × Obj)) (s : Shared) (σ : St) (H : Hp) (x : V) (v : Value) (Q : VK), Inv X pins σ H s → RelV x v → r x H Q →
    wpAny (model X.prog X.w) X.A (f v) (EP X pins σ Q) X.xe s
def CallR (X : Cx) (f : Value) (r : List V → Hp → VK → Prop) : Prop :=
  ∀ (pins : List (Addr × Obj)) (s : Shared) (σ : St) (H : Hp) (xs : List V) (us : List Value) (Q : VK), Inv X pins σ H s → Vals xs us → r xs H Q →
    wpAny (model X.prog X.w) X.A (call f us) (EP X pins σ Q) X.xe s
def tOp (r : R2) (ta tb : TE) : TE := fun σ H Q => ta σ H fun x H1 => tb σ H1 fun y H2 => r x y H2 Q
def tUn (r : V → Hp → VK → Prop) (ta : TE) : TE := fun σ H Q => ta σ H fun x H1 => r x H1 Q
def rI (C : Int → Int → Prop) (g : Int → Int → V) : R2 := fun x y H Q => ∃ i j, x = .int i ∧ y = .int j ∧ C i j ∧ Q (g i j) H
def rI0 (g : Int → Int → V) : R2 := fun x y H Q => ∃ i j, x = .int i ∧ y = .int j ∧ Q (g i j) H
def rU (g : Int → V) : V → Hp → VK → Prop := fun x H Q => ∃ i, x = .int i ∧ Q (g i) H
section
variable {X : Cx} {a b c : Expr} {ta tb tc : TE} {pos : Pos}
theorem binT (ha : PE X a ta) (hb : PE X b tb) {pins : List (Addr × Obj)} {s : Shared} {σ : St} {H : Hp} {R : V → V → Hp → Prop} (I : Inv X pins σ H s)
    (h : ta σ H fun x H1 => tb σ H1 fun y H2 => R x y H2) {Q : Value → Shared → Prop} {f : Value → Value → Sem Value}
    (hf : ∀ v u s2 x y H2, Inv X pins σ H2 s2 → RelV x v → RelV y u → R x y H2 → wpAny (model X.prog X.w) X.A (f v u) Q X.xe s2) :
    wpAny (model X.prog X.w) X.A (eval a X.env) (fun v s₁ => wpAny (model X.prog X.w) X.A (eval b X.env) (fun u s₂ => wpAny (model X.prog X.w) X.A (f v u) Q X.xe s₂) X.xe s₁) X.xe s := by
  refine thn (ha pins s σ H _ I h) fun v s1 ⟨x, H1, I1, r1, q1⟩ => ?_
  refine thn (hb pins s1 σ H1 _ I1 q1) fun u s2 ⟨y, H2, I2, r2, q2⟩ => ?_
  exact hf v u s2 x y H2 I2 r1 r2 q2
theorem pe_op {op : Operator} {r : R2} (ho : OpR X (binaryOp op) r) (ha : PE X a ta) (hb : PE X b tb) : PE X (.BinOp a op b pos) (tOp r ta tb) := by
  intro pins s σ H Q I h
  exact wpAny_BinOp (binT ha hb I h fun v u s2 x y H2 I2 rx ry q => ho pins s2 σ H2 x y v u Q I2 rx ry q)
theorem pe_un {op : UnaryOp} {r : V → Hp → VK → Prop} (ho : UnR X (unaryOp op) r) (ha : PE X a ta) : PE X (.UnaryOp op a pos) (tUn r ta) := by
  intro pins s σ H Q I h
  exact UnaryOp_ (thn (ha pins s σ H _ I h) fun v s1 ⟨x, H1, I1, r1, q1⟩ => ho pins s1 σ H1 x v Q I1 r1 q1)
theorem opI {f : Value → Value → Sem Value} {C : Int → Int → Prop} {g : Int → Int → Int}
    (rule : ∀ (i j : Int) (t u : Tok) (s : Shared) (Q : Value → Shared → Prop) (E : Value → Shared → Prop), C i j → Q (.int (g i j) s.toks) { s with toks := s.toks + 1 } → wpAny (model X.prog X.w) X.A (f (.int i t) (.int j u)) Q E s) :
    OpR X f (rI C fun i j => .int (g i j)) := by
  intro pins s σ H x y v u Q I rx ry h
  obtain ⟨i, j, rfl, rfl, hc, q⟩ := h
  obtain ⟨t, rfl⟩ := rx
  obtain ⟨t', rfl⟩ := ry
  exact rule i j t t' s _ _ hc ⟨.int (g i j), H, I.tok _, ⟨_, rfl⟩, q⟩
theorem opI0 {f : Value → Value → Sem Value} {g : Int → Int → Int}
    (rule : ∀ (i j : Int) (t u : Tok) (s : Shared) (Q : Value → Shared → Prop) (E : Value → Shared → Prop), Q (.int (g i j) s.toks) { s with toks := s.toks + 1 } → wpAny (model X.prog X.w) X.A (f (.int i t) (.int j u)) Q E s) :
    OpR X f (rI0 fun i j => .int (g i j)) := by
  intro pins s σ H x y v u Q I rx ry h
  obtain ⟨i, j, rfl, rfl, q⟩ := h
  obtain ⟨t, rfl⟩ := rx
  obtain ⟨t', rfl⟩ := ry
  exact rule i j t t' s _ _ ⟨.int (g i j), H, I.tok _, ⟨_, rfl⟩, q⟩
theorem opB0 {f : Value → Value → Sem Value} {g : Int → Int → Bool}
    (rule : ∀ (i j : Int) (t u : Tok) (s : Shared) (Q : Value → Shared → Prop) (E : Value → Shared → Prop), Q (.bool (g i j)) s → wpAny (model X.prog X.w) X.A (f (.int i t) (.int j u)) Q E s) :
    OpR X f (rI0 fun i j => .bl (g i j)) := by
  intro pins s σ H x y v u Q I rx ry h
  obtain ⟨i, j, rfl, rfl, q⟩ := h
  obtain ⟨t, rfl⟩ := rx
  obtain ⟨t', rfl⟩ := ry
  exact rule i j t t' s _ _ ⟨.bl (g i j), H, I, rfl, q⟩
def CDiv (i j : Int) : Prop := 0 < j ∧ j < 1073741824
def CPow (i j : Int) : Prop := 0 ≤ j ∧ j ≤ 1000000 ∧ i.natAbs < 2 ^ 64
def CMul (i j : Int) : Prop := (-(2 ^ 64) < i ∧ i < 2 ^ 64) ∨ (-(2 ^ 64) < j ∧ j < 2 ^ 64)
theorem CMul.ok {i j : Int} (h : CMul i j) : IntMulOk i j := by
  rcases h with ⟨h1, h2⟩ | ⟨h1, h2⟩
  · exact .of_left (intBits_le_64 h1 h2)
  · exact .of_right (intBits_le_64 h1 h2)
theorem op_add : OpR X (binaryOp .Add) (rI0 fun i j => .int (i + j)) := opI0 fun _ _ _ _ _ _ _ q => add_int q
theorem op_sub : OpR X (binaryOp .Sub) (rI0 fun i j => .int (i - j)) := opI0 fun _ _ _ _ _ _ _ q => sub_int q
theorem op_mul : OpR X (binaryOp .Mult) (rI CMul fun i j => .int (i * j)) := opI fun _ _ _ _ _ _ _ hc q => mul_int q hc.ok
theorem op_fdiv : OpR X (binaryOp .FloorDiv) (rI CDiv fun i j => .int (i / j)) := opI fun i j _ _ _ _ _ hc q => by
  have h1 : (0 : Int) < j := hc.1
  have h2 : j < 1073741824 := hc.2
  exact floordiv_int (by omega) (by rw [Int.fdiv_eq_ediv_of_nonneg i (by omega)]; exact q) (.inl (PyProof.noPylong_small (by omega)))
theorem op_mod : OpR X (binaryOp .Mod) (rI (fun _ j => 0 < j) fun i j => .int (i % j)) := opI fun i j _ _ _ _ _ hc q => by
  have h1 : (0 : Int) < j := hc
  exact mod_int' (by omega) (by rw [Int.fmod_eq_emod_of_nonneg i (by omega)]; exact q)
theorem op_pow : OpR X (binaryOp .Pow) (rI CPow fun i j => .int (i ^ j.toNat)) := opI fun _ _ _ _ _ _ _ hc q => pow_int_small hc.1 hc.2.1 hc.2.2 q
theorem op_xor : OpR X (binaryOp .BitXor) (rI0 fun i j => .int (Builtin.bitXor i j)) := opI0 fun _ _ _ _ _ _ _ q => xor_int q
theorem unI {f : Value → Sem Value} {g : Int → Int}
    (rule : ∀ (i : Int) (t : Tok) (s : Shared) (Q : Value → Shared → Prop) (E : Value → Shared → Prop), Q (.int (g i) s.toks) { s with toks := s.toks + 1 } → wpAny (model X.prog X.w) X.A (f (.int i t)) Q E s) :
    UnR X f (rU fun i => .int (g i)) := by
  intro pins s σ H x v Q I rx h
  obtain ⟨i, rfl, q⟩ := h
  obtain ⟨t, rfl⟩ := rx
  exact rule i t s _ _ ⟨.int (g i), H, I.tok _, ⟨_, rfl⟩, q⟩
theorem un_neg : UnR X (unaryOp .USub) (rU fun i => .int (-i)) := unI fun _ _ _ _ _ q => neg_int q
end
section
variable {X : Cx} {a b c : Expr} {ta tb tc : TE} {pos : Pos}
theorem op_lt : OpR X (compareOp .Lt) (rI0 fun i j => .bl (decide (i < j))) := opB0 fun _ _ _ _ _ _ _ q => lt_int q
theorem op_le : OpR X (compareOp .LtE) (rI0 fun i j => .bl (decide (i ≤ j))) := opB0 fun _ _ _ _ _ _ _ q => le_int q
theorem op_gt : OpR X (compareOp .Gt) (rI0 fun i j => .bl (decide (j < i))) := opB0 fun _ _ _ _ _ _ _ q => gt_int q
theorem op_ge : OpR X (compareOp .GtE) (rI0 fun i j => .bl (decide (j ≤ i))) := opB0 fun _ _ _ _ _ _ _ q => ge_int q
theorem nomark (b : Expr) {op : CmpOp} (h : op ≠ .In := by decide) (h2 : op ≠ .NotIn := by decide) : behindInMarks op b = false := by
  have e1 : (op == CmpOp.In) = false := by cases op <;> first | rfl | exact absurd rfl h
  have e2 : (op == CmpOp.NotIn) = false := by cases op <;> first | rfl | exact absurd rfl h2
  cases b <;> simp [behindInMarks, e1, e2]
theorem pe_cmpR {op : CmpOp} {r : R2} (ho : OpR X (compareOp op) r) (ha : PE X a ta) (hb : PE X b tb) (hm : behindInMarks op b = false) : PE X (.Compare a [op] [b] pos) (tOp r ta tb) := by
  intro pins s σ H Q I h
  exact wpAny_Compare1 (binT ha hb I h fun v u s2 x y H2 I2 rx ry q => ho pins s2 σ H2 x y v u Q I2 rx ry q) hm
def tTest (t : TE) : TT := fun σ H Q => t σ H fun x H' => ∃ k, x = .bl k ∧ Q k H'
theorem pt_cmpR {op : CmpOp} {r : R2} (ho : OpR X (compareOp op) r) (ha : PE X a ta) (hb : PE X b tb) (hm : behindInMarks op b = false) : PT X (.Compare a [op] [b] pos) (tTest (tOp r ta tb)) := by
  intro pins s σ H Q I h
  refine wpAny_isTrue_Compare1 (thn (ha pins s σ H _ I h) fun v s1 ⟨x, H1, I1, r1, q1⟩ => thn (hb pins s1 σ H1 _ I1 q1) fun u s2 ⟨y, H2, I2, r2, q2⟩ =>
    thn (ho pins s2 σ H2 x y v u _ I2 r1 r2 q2) fun c s3 ⟨z, H3, I3, r3, k, e, q3⟩ => ?_) hm
  subst e
  cases r3
  exact wpAny_truthy_bool ⟨H3, I3, q3⟩
def tChain (r r' : R2) (ta tb tc : TE) : TE := fun σ H Q => ta σ H fun x H1 => tb σ H1 fun y H2 => r x y H2 fun z H3 => ∃ k, z = .bl k ∧
  (if k = true then tc σ H3 fun w' H4 => r' y w' H4 Q else Q (.bl false) H3)
theorem pe_chain {op op' : CmpOp} {r r' : R2} (ho : OpR X (compareOp op) r) (ho' : OpR X (compareOp op') r') (ha : PE X a ta) (hb : PE X b tb) (hc : PE X c tc)
    (hm : lastMarks [op, op'] [b, c] = false := by with_unfolding_all rfl) : PE X (.Compare a [op, op'] [b, c] pos) (tChain r r' ta tb tc) := by
  intro pins s σ H Q I h
  refine Compare_chain (thn (ha pins s σ H _ I h) fun v s1 ⟨x, H1, I1, r1, q1⟩ => chain_link (thn (hb pins s1 σ H1 _ I1 q1) fun u s2 ⟨y, H2, I2, r2, q2⟩ =>
    thn (ho pins s2 σ H2 x y v u _ I2 r1 r2 q2) fun d s3 ⟨z, H3, I3, r3, k, e, q3⟩ => ?_)) hm
  subst e
  cases r3
  refine wpAny_truthy_bool ?_
  cases k with
  | false => exact ite_ff ⟨.bl false, H3, I3, rfl, q3⟩
  | true => exact ite_tt (chain_last (thn (hc pins s3 σ H3 _ I3 q3) fun w' s4 ⟨z', H4, I4, r4, q4⟩ => ho' pins s4 σ H4 y z' u w' Q I4 r2 r4 q4))
theorem pt_chain {op op' : CmpOp} {r r' : R2} (ho : OpR X (compareOp op) r) (ho' : OpR X (compareOp op') r') (ha : PE X a ta) (hb : PE X b tb) (hc : PE X c tc)
    (hm : lastMarks [op, op'] [b, c] = false := by with_unfolding_all rfl) : PT X (.Compare a [op, op'] [b, c] pos) (tTest (tChain r r' ta tb tc)) := by
  intro pins s σ H Q I h
  refine isTrue_chain (thn (ha pins s σ H _ I h) fun v s1 ⟨x, H1, I1, r1, q1⟩ => test_link (thn (hb pins s1 σ H1 _ I1 q1) fun u s2 ⟨y, H2, I2, r2, q2⟩ =>
    thn (ho pins s2 σ H2 x y v u _ I2 r1 r2 q2) fun d s3 ⟨z, H3, I3, r3, k, e, q3⟩ => ?_)) hm
  subst e
  cases r3
  refine wpAny_truthy_bool ?_
  cases k with
  | false =>
    obtain ⟨k', e', q'⟩ := q3
    cases e'
    exact ite_ff ⟨H3, I3, q'⟩
  | true =>
    refine ite_tt (test_last (thn (hc pins s3 σ H3 _ I3 q3) fun w' s4 ⟨z', H4, I4, r4, q4⟩ => thn (ho' pins s4 σ H4 y z' u w' _ I4 r2 r4 q4) fun d' s5 ⟨z2, H5, I5, r5, k2, e2, q5⟩ => ?_))
    subst e2
    cases r5
    exact wpAny_truthy_bool ⟨H5, I5, q5⟩
theorem line63 : (sizeLine : Nat) < 2 ^ 63 := by rw [sizeLine_eq]; decide
theorem vals1 {x : V} {us : List Value} (r : Vals [x] us) : ∃ u, us = [u] ∧ RelV x u := by
  cases r with
  | cons r1 r2 => cases r2; exact ⟨_, rfl, r1⟩
theorem vals2 {x y : V} {us : List Value} (r : Vals [x, y] us) : ∃ u w', us = [u, w'] ∧ RelV x u ∧ RelV y w' := by
  cases r with
  | cons r1 r2 =>
    cases r2 with
    | cons r3 r4 => cases r4; exact ⟨_, _, rfl, r1, r3⟩
theorem call_max2 (hc : X.calm = true) : CallR X (.builtin "max") (fun xs H Q => ∃ i j, xs = [.int i, .int j] ∧ Q (.int (if j > i then j else i)) H) := by
  intro pins s σ H xs us Q I r h
  obtain ⟨i, j, rfl, q⟩ := h
  obtain ⟨u, w', rfl, ⟨t, rfl⟩, ⟨t', rfl⟩⟩ := vals2 r
  refine max_two_ints (I.ok.hd hc) fun h' tk k => ⟨_, H, I.kept k, ?_, q⟩
  by_cases hj : j > i
  · rw [if_pos hj, if_pos hj]; exact ⟨_, rfl⟩
  · rw [if_neg hj, if_neg hj]; exact ⟨_, rfl⟩
theorem call_min2 (hc : X.calm = true) : CallR X (.builtin "min") (fun xs H Q => ∃ i j, xs = [.int i, .int j] ∧ Q (.int (if j < i then j else i)) H) := by
  intro pins s σ H xs us Q I r h
  obtain ⟨i, j, rfl, q⟩ := h
  obtain ⟨u, w', rfl, ⟨t, rfl⟩, ⟨t', rfl⟩⟩ := vals2 r
  refine min_two_ints (I.ok.hd hc) fun h' tk k => ⟨_, H, I.kept k, ?_, q⟩
  by_cases hj : j < i
  · rw [if_pos hj, if_pos hj]; exact ⟨_, rfl⟩
  · rw [if_neg hj, if_neg hj]; exact ⟨_, rfl⟩
theorem call_int1 : CallR X (.type "int") (fun xs H Q => (∃ i, xs = [.int i] ∧ Q (.int i) H) ∨ ∃ k, xs = [.bl k] ∧ Q (.int (if k then 1 else 0)) H) := by
  intro pins s σ H xs us Q I r h
  rcases h with ⟨i, rfl, q⟩ | ⟨k, rfl, q⟩
  · obtain ⟨u, rfl, t, rfl⟩ := vals1 r
    exact call_int_int ⟨.int i, H, I, ⟨_, rfl⟩, q⟩
  · obtain ⟨u, rfl, r1⟩ := vals1 r
    cases r1
    exact call_int_bool ⟨.int (if k then 1 else 0), H, I.tok _, ⟨_, rfl⟩, q⟩
end
end L2
namespace L2
open PySem PySem.Spec PyProof.Rows
structure ObjM (h : Heap) (x dx C : Addr) (mA : Str → Option Value) : Prop where
  obj : h.get? x = some (PySem.W.instObj C dx)
  ns : h.Ns1 dx mA
  ne : dx ≠ x
theorem lookIn_ns {h : Heap} {dx : Addr} {mA : Str → Option Value} (n : h.Ns1 dx mA) : ∃ od, h.get? dx = some od ∧ ∀ name, PySem.W.lookIn name od = some (mA name) := by
  obtain ⟨o, es, ep, ho, hd, hk, _, hm⟩ := n
  refine ⟨o, ho, fun name => ?_⟩
  have e := hm name
  unfold nsFind findBy at e
  rw [← Array.find?_toList] at e
  unfold PySem.W.lookIn
  rw [hd]
  dsimp only
  split
  · rename_i y q
    rw [q] at e
    exact congrArg some e
  · rename_i q
    rw [q] at e
    have a : es.toList.any (·.refKey) = false := by
      rw [List.any_eq_false]
      intro y hy
      obtain ⟨z, t, hkey⟩ := hk y (Array.mem_toList_iff.mp hy)
      simp [DictEntry.refKey, hkey]
    have a' : ¬ es.toList.any (·.refKey) = true := by rw [a]; exact Bool.false_ne_true
    rw [if_neg a']
    exact congrArg some e
theorem ObjM.look {h : Heap} {x dx C : Addr} {mA : Str → Option Value} (I : ObjM h x dx C mA) : ∃ od, PySem.W.InstAt h x (PySem.W.instObj C dx) C (some od) ∧ ∀ name, PySem.W.lookIn name od = some (mA name) :=
  let ⟨od, ho, hl⟩ := lookIn_ns I.ns
  ⟨od, ⟨I.obj, rfl, rfl, ho⟩, hl⟩
section
variable {prog : Program} {w : World} {A : Around} {E : Value → Shared → Prop} {s : Shared} {K : PySem.W.Frag} {x dx C f : Addr} {mA : Str → Option Value} {name : Str} {v : Value}
theorem get_map {expr : Bool} {Q : Value → Shared → Prop} (X : K.In s.heap) (I : ObjM s.heap x dx C mA) (hg : PySem.W.plainGet K C name = true) (hh : PySem.W.hasDictIn K C = true)
    (ha : PySem.W.findIn K (.ref C) name = some none) (hv : mA name = some v) (hv' : PySem.W.handedIn v = true) (h : Q v { s with toks := s.toks + 1 }) :
    wpAny (model prog w) A (getAttr (.ref x) name expr) Q E s := by
  obtain ⟨od, J, hl⟩ := I.look
  exact PySem.W.get_value X J (PySem.W.plainGet_of hg).1 (PySem.W.findObj_own hh ha rfl (by rw [hl, hv])) hv' h
theorem get_meth {pl : Sem Bool} {Q : Value × List Value → Shared → Prop} (X : K.In s.heap) (I : ObjM s.heap x dx C mA) (hg : PySem.W.plainGet K C name = true)
    (hf : PySem.W.findIn K (.ref C) name = some (some (.ref f))) (ht : PySem.W.isFn K (.ref f) = true) (hv : mA name = none) (h : Q (.ref f, [.ref x]) s) :
    wpAny (model prog w) A (getMethod (.ref x) name pl) Q E s := by
  obtain ⟨od, J, hl⟩ := I.look
  exact PySem.W.method_fn X J (PySem.W.plainGet_of hg).1 (PySem.W.plainGet_of hg).2 hf (beq_iff_eq.mp ht) (by show (PySem.W.lookIn name od).map (·.isSome) = some false; rw [hl, hv]; rfl) h
theorem set_map {ns : List Str} {Q : Unit → Shared → Prop} (X : K.In s.heap) (I : ObjM s.heap x dx C mA)
    (hs : PySem.W.findIn K (.ref C) "__setattr__" = some (some (.builtin "object.__setattr__"))) (hp : PySem.W.plainOver K C = true) (ht : PySem.W.takerIn K C name = some none) (hh : PySem.W.hasDictIn K C = true)
    (hw : PySem.Within mA ns) (hsz : ns.length ≤ sizeLine)
    (h : ∀ h', ObjM h' x dx C (fun y => if y = name then some v else mA y) → Heap.SameBut dx s.heap h' → Q () { s with heap := h', toks := s.toks + 2 }) :
    wpAny (model prog w) A (setAttr (.ref x) name v) Q E s := by
  obtain ⟨od, J, hl⟩ := I.look
  refine PySem.W.set_plain X J hs (PySem.W.osa_open (s := { s with toks := s.toks + 1 }) (r := none) X J hp ht fun b => ?_)
  obtain ⟨cd, hc, hd'⟩ := PySem.W.any_some hh
  have hx : s.heap.get? x = some ⟨.ref C, some dx, .plain, #[]⟩ := I.obj
  refine wpAny_bind (wpAny_pure (wpAny_bind (wpAny_bind (wpAny_loadPart hx (wpAny_bind (PySem.W.Looks.here (s := { s with toks := s.toks + 1 }) (PySem.W.looks_clsIn X hc) ?_))))))
  rw [hd']
  refine wpAny_pure (a := some dx) (wpAny_bind (wpAny_pure (wpAny_bind ?_)))
  refine wpAny_nsSet1 (s := { s with toks := s.toks + 1 }) I.ns fun h' hn2 hs2 => ?_
  obtain ⟨oD, esD, epD, hoD, hdD, hcD⟩ := hn2.count (PySem.Within.cons name v hw)
  refine wpAny_bind (wpAny_lookBehind hoD (by rw [hdD]; exact pastItsLine_dict (Nat.le_trans hcD (by rw [List.length_cons]; omega))) ?_)
  exact wpAny_pure (h _ ⟨(hs2.2 _ (Ne.symm I.ne)).trans I.obj, hn2, I.ne⟩ hs2)
theorem make_map {R : Result → Shared → Prop} {vs : List Value} {kw : List (Str × Value)} (X : K.In s.heap) (hm : PySem.W.makesIn K C = true)
    (hi : PySem.W.findIn K (.ref C) "__init__" = some (some (.ref f))) (hf : PySem.W.typeIn K (.ref f) = some (.type "function"))
    (h : codeAny (model prog w) (A.under (.builtin "type.__call__" ⟨.ref C :: vs, kw⟩)) (.call (.ref f) ⟨.ref (s.heap.objs.size + 1) :: vs, kw⟩) (PySem.W.InitBack (s.heap.objs.size + 1) R)
      { s with heap := (s.heap.push PySem.W.emptyDict).push (PySem.W.instObj C s.heap.objs.size) }) :
    codeAny (model prog w) A (.call (.ref C) ⟨vs, kw⟩) R s := by
  obtain ⟨hh, g, d, t, os⟩ := s
  exact PySem.W.make_core (PySem.W.makes_of X hm) (PySem.W.looks_findIn X hi) (fun self => PySem.W.bind_fn X self hf) (.inl rfl) h
end
def putF (f : Str) (v : V) : List (Str × V) → List (Str × V)
  | [] => [(f, v)]
  | (g, x) :: r => if g = f then (g, v) :: r else (g, x) :: putF f v r
theorem lookup_putF (f g : Str) (v : V) : ∀ fs : List (Str × V), (putF f v fs).lookup g = if g = f then some v else fs.lookup g
  | [] => by
    show List.lookup g [(f, v)] = _
    by_cases h : g = f
    · have hb : (g == f) = true := beq_iff_eq.mpr h
      simp only [List.lookup, hb, if_pos h]
    · have hb : (g == f) = false := beq_eq_false_iff_ne.mpr h
      simp only [List.lookup, hb, if_neg h]
  | (k, x) :: r => by
    have ih := lookup_putF f g v r
    rw [show putF f v ((k, x) :: r) = (if k = f then (k, v) :: r else (k, x) :: putF f v r) from rfl]
    by_cases hk : k = f
    · rw [if_pos hk]
      by_cases h : g = k
      · have hb : (g == k) = true := beq_iff_eq.mpr h
        simp only [List.lookup, hb, if_pos (h.trans hk)]
      · have hb : (g == k) = false := beq_eq_false_iff_ne.mpr h
        simp only [List.lookup, hb, if_neg (fun e : g = f => h (e.trans hk.symm))]
    · rw [if_neg hk]
      by_cases h : g = k
      · have hb : (g == k) = true := beq_iff_eq.mpr h
        simp only [List.lookup, hb, if_neg (fun e : g = f => hk (h.symm.trans e))]
      · have hb : (g == k) = false := beq_eq_false_iff_ne.mpr h
        simp only [List.lookup, hb]
        exact ih
theorem keys_putF (f : Str) (v : V) : ∀ fs : List (Str × V), f ∈ (putF f v fs).map (·.1) ∧ ∀ g, g ∈ fs.map (·.1) → g ∈ (putF f v fs).map (·.1)
  | [] => ⟨by simp [putF], fun g h => by simp at h⟩
  | (k, x) :: r => by
    obtain ⟨i1, i2⟩ := keys_putF f v r
    rw [show putF f v ((k, x) :: r) = (if k = f then (k, v) :: r else (k, x) :: putF f v r) from rfl]
    by_cases hk : k = f
    · rw [if_pos hk]
      subst hk
      exact ⟨by simp, fun g h => by simpa using h⟩
    · rw [if_neg hk]
      refine ⟨?_, fun g h => ?_⟩
      · rw [List.map_cons]
        exact List.mem_cons_of_mem _ i1
      · rw [List.map_cons] at h ⊢
        rcases List.mem_cons.mp h with e | e
        · exact List.mem_cons.mpr (.inl e)
        · exact List.mem_cons_of_mem _ (i2 g e)
theorem length_putF (f : Str) (v : V) : ∀ fs : List (Str × V), (putF f v fs).length ≤ fs.length + 1
  | [] => by simp [putF]
  | (k, x) :: r => by
    have ih := length_putF f v r
    rw [show putF f v ((k, x) :: r) = (if k = f then (k, v) :: r else (k, x) :: putF f v r) from rfl]
    by_cases hk : k = f
    · rw [if_pos hk, List.length_cons, List.length_cons]; omega
    · rw [if_neg hk, List.length_cons, List.length_cons]; omega
theorem RelO.some_of {v : V} {o : Option Value} (r : RelO (some v) o) : ∃ u, o = some u ∧ RelV v u := by
  cases o with
  | none => exact (show False from r).elim
  | some u => exact ⟨u, rfl, r⟩
theorem RelO.none_of {o : Option Value} (r : RelO none o) : o = none := by
  cases o with
  | none => rfl
  | some u => exact (show False from r).elim
theorem handed_of {v : V} {u : Value} (r : RelV v u) : PySem.W.handedIn u = true := by
  cases v with
  | non => cases (show u = Value.none from r); rfl
  | bl b => cases (show u = Value.bool b from r); rfl
  | int i => obtain ⟨t, e⟩ := (show ∃ t, u = Value.int i t from r); cases e; rfl
  | str x => obtain ⟨t, e⟩ := (show ∃ t, u = Value.str x t from r); cases e; rfl
  | byt b => obtain ⟨t, e⟩ := (show ∃ t, u = Value.bytes b t from r); cases e; rfl
  | flt b => obtain ⟨t, e⟩ := (show ∃ t, u = Value.float b t from r); cases e; rfl
  | ref a => cases (show u = Value.ref a from r); rfl
  | ty n => cases (show u = Value.type n from r); rfl
section
variable {P : Program} {w : World} {H H' : Hp} {h h' : Heap} {a C dx : Addr} {fs fs' : List (Str × V)}
theorem ins_get (hok : HOk P w H h) (e : H a = some (.ins C dx fs)) : ∃ mA, ObjM h a dx C mA ∧ (∀ f, RelO (fs.lookup f) (mA f)) ∧ PySem.Within mA (fs.map (·.1)) ∧ fs.length ≤ 1000 ∧ H dx = some (.own a) := by
  obtain ⟨d, z, ne, ob, mA, n, r, q⟩ := (show ObjOk P w H h a (.ins C dx fs) from hok a _ e)
  exact ⟨mA, ⟨ob, n, ne⟩, r, q, z, d⟩
end
structure Cls (K : PySem.W.Frag) (C : Addr) : Prop where
  pg : PySem.W.plainGet K C Str.empty = true
  hd : PySem.W.hasDictIn K C = true
  po : PySem.W.plainOver K C = true
  sa : PySem.W.findIn K (.ref C) "__setattr__" = some (some (.builtin "object.__setattr__"))
theorem Cls.get {K : PySem.W.Frag} {C : Addr} (c : Cls K C) (f : Str) : PySem.W.plainGet K C f = true := c.pg
def NoAttr (K : PySem.W.Frag) (C : Addr) (f : Str) : Prop := PySem.W.findIn K (.ref C) f = some none
theorem NoAttr.taker {K : PySem.W.Frag} {C : Addr} {f : Str} (n : NoAttr K C f) : PySem.W.takerIn K C f = some none := by
  unfold PySem.W.takerIn
  rw [show PySem.W.findIn K (.ref C) f = some none from n]
  rfl
structure Con (K : PySem.W.Frag) (C : Addr) (f : Str) (v : V) (u : Value) : Prop where
  at_ : PySem.W.findIn K (.ref C) f = some (some u)
  rel : RelV v u
  get : PySem.W.specialIn K u "__get__" = some none
  cp : PySem.W.copiedNames.contains f = false
structure Meth (K : PySem.W.Frag) (C : Addr) (m : Str) (f : Addr) : Prop where
  at_ : PySem.W.findIn K (.ref C) m = some (some (.ref f))
  fn : PySem.W.isFn K (.ref f) = true
  kp : PySem.W.keepIn K (.ref f) = true
section
variable {X : Cx} {pins : List (Addr × Obj)} {σ : St} {H : Hp} {s : Shared} {a C dx : Addr} {fs : List (Str × V)} {f : Str} {v : V} {A : Around} {E : Value → Shared → Prop}
theorem getattr_ok {b : Bool} {Q : Value → Shared → Prop} (I : Inv X pins σ H s) (e : H a = some (.ins C dx fs)) (c : Cls X.K C) (n : NoAttr X.K C f) (l : fs.lookup f = some v)
    (h : ∀ u s', Inv X pins σ H s' → RelV v u → Q u s') : wpAny (model X.prog X.w) A (getAttr (.ref a) f b) Q E s := by
  obtain ⟨mA, O, r, _, _, _⟩ := ins_get I.hok e
  obtain ⟨u, hu, ru⟩ := RelO.some_of (v := v) (o := mA f) (by rw [← l]; exact r f)
  exact get_map I.kIn O (c.get f) c.hd n hu (handed_of ru) (h u _ (I.tok _) ru)
theorem getmeth_ok {m : Str} {g : Addr} {pl : Sem Bool} {Q : Value × List Value → Shared → Prop} (I : Inv X pins σ H s) (e : H a = some (.ins C dx fs)) (c : Cls X.K C) (k : Meth X.K C m g) (l : fs.lookup m = none)
    (h : Q (.ref g, [.ref a]) s) : wpAny (model X.prog X.w) A (getMethod (.ref a) m pl) Q E s := by
  obtain ⟨mA, O, r, _, _, _⟩ := ins_get I.hok e
  have hn : mA m = none := RelO.none_of (by rw [← l]; exact r m)
  exact get_meth I.kIn O (c.get m) k.at_ k.fn hn h
theorem setattr_ok {y : V} {u : Value} {Q : Unit → Shared → Prop} (I : Inv X pins σ H s) (e : H a = some (.ins C dx fs)) (c : Cls X.K C) (n : NoAttr X.K C f) (hl : fs.length < 1000) (ry : RelV y u)
    (h : ∀ s', Inv X pins σ (upd H a (.ins C dx (putF f y fs))) s' → Q () s') : wpAny (model X.prog X.w) A (setAttr (.ref a) f u) Q E s := by
  obtain ⟨mA, O, r, wi, _, ho⟩ := ins_get I.hok e
  have hz : (fs.map (·.1)).length ≤ sizeLine := by rw [List.length_map, sizeLine_eq]; omega
  refine set_map I.kIn O c.sa c.po n.taker c.hd wi hz fun h' O' sb => h _ ?_
  have hd : ∃ o, h'.get? dx = some o := let ⟨o, _, _, e', _⟩ := O'.ns; ⟨o, e'⟩
  refine I.write (x := a) (e := dx) (by rw [e]; exact True.intro) (.inr ho) (fun b q hb z => (sb.2 b hb).trans z) hd ?_
  refine ⟨by rw [upd_ne O.ne]; exact ho, ?_, O.ne, O'.obj, _, O'.ns, fun g => ?_, fun g hg => ?_⟩
  · have := length_putF f y fs; omega
  · show RelO ((putF f y fs).lookup g) (if g = f then some u else mA g)
    rw [lookup_putF]
    by_cases q : g = f
    · rw [if_pos q, if_pos q]; exact ry
    · rw [if_neg q, if_neg q]; exact r g
  · by_cases q : g = f
    · rw [q]; exact (keys_putF f y fs).1
    · refine (keys_putF f y fs).2 g (wi g fun z => hg ?_)
      show (if g = f then some u else mA g) = none
      rw [if_neg q]; exact z
theorem Inv.made (I : Inv X pins σ H s) : Inv X pins σ (upd (upd H s.heap.objs.size (.own (s.heap.objs.size + 1))) (s.heap.objs.size + 1) (.ins C s.heap.objs.size []))
    { s with heap := (s.heap.push PySem.W.emptyDict).push (PySem.W.instObj C s.heap.objs.size) } := by
  have e1 : (s.heap.push PySem.W.emptyDict).get? s.heap.objs.size = some PySem.W.emptyDict := Heap.get?_push_size s.heap rfl
  have e2 : ((s.heap.push PySem.W.emptyDict).push (PySem.W.instObj C s.heap.objs.size)).get? (s.heap.objs.size + 1) = some (PySem.W.instObj C s.heap.objs.size) := by
    have := Heap.get?_push_size (s.heap.push PySem.W.emptyDict) (o := PySem.W.instObj C s.heap.objs.size) rfl
    rwa [Heap.size_push] at this
  have e3 : (s.heap.push PySem.W.emptyDict).Ns s.heap.objs.size (fun _ => none) := ⟨PySem.W.emptyDict, #[], _, e1, rfl, (fun e he => absurd he (by simp)), fun _ => rfl⟩
  have I1 := I.laid (a := s.heap.objs.size) (o := .own (s.heap.objs.size + 1)) (h' := s.heap.push PySem.W.emptyDict) (t' := s.toks) (fun b u q => Heap.get?_push_of_some _ q) (Nat.le_refl _) ⟨_, e1⟩
  refine I1.laid (a := s.heap.objs.size + 1) (o := .ins C s.heap.objs.size []) (t' := s.toks) (fun b u q => Heap.get?_push_of_some _ q) (Nat.le_of_eq (Heap.size_push _ _)) ?_
  have ne : s.heap.objs.size ≠ s.heap.objs.size + 1 := Nat.ne_of_lt (Nat.lt_succ_self _)
  refine ⟨by rw [upd_ne ne, upd_same], Nat.zero_le _, ne, e2, fun _ => none, (Heap.Ns1.of_empty e3).at fun o q => Heap.get?_push_of_some _ q, fun _ => True.intro, fun y hy => absurd rfl hy⟩
theorem attr_of {prog : Program} {w : World} {env : Env} {e : Expr} {f : Str} {pos : Pos} {s : Shared} {Q : Value → Shared → Prop} (hb : attributeBase e f env (eval e env) = eval e env)
    (h : wpAny (model prog w) A (eval e env) (fun o s₁ => wpAny (model prog w) A (getAttr o f true) Q E s₁) E s) : wpAny (model prog w) A (eval (.Attribute e f pos) env) Q E s :=
  Attribute_any_ h (by rw [arm_eval_Attribute, hb])
end
def tFld (K : PySem.W.Frag) (ta : TE) (f : Str) : TE := fun σ H Q => ta σ H fun x H1 => ∃ a C dx fs v, x = .ref a ∧ H1 a = some (.ins C dx fs) ∧ Cls K C ∧ NoAttr K C f ∧ fs.lookup f = some v ∧ Q v H1
def sFld (K : PySem.W.Frag) (ta tv : TE) (f : Str) : TS := fun D σ H => tv σ H fun y H1 => ta σ H1 fun x H2 => ∃ a C dx fs, x = .ref a ∧ H2 a = some (.ins C dx fs) ∧ Cls K C ∧ NoAttr K C f ∧ fs.length < 1000 ∧
  D.nx σ (upd H2 a (.ins C dx (putF f y fs)))
section
variable {X : Cx} {o e value : Expr} {f : Str} {pos pos' tpos : Pos} {ta tv : TE}
theorem pe_fld (he : PE X e ta) (hb : attributeBase e f X.env (eval e X.env) = eval e X.env) : PE X (.Attribute e f pos) (tFld X.K ta f) := by
  intro pins s σ H Q I h
  refine attr_of hb (thn (he pins s σ H _ I h) fun u s1 ⟨x, H1, I1, rx, a, C, dx, fs, v, ex, ea, c, n, l, q⟩ => ?_)
  subst ex
  obtain rfl : u = Value.ref a := rx
  exact getattr_ok I1 ea c n l fun u' s2 I2 ru => ⟨v, H1, I2, ru, q⟩
theorem ps_fld (ha : PE X o ta) (hv : PE X value tv) (hs : swapsWith value (some (.Attribute o f pos')) pos.line X.env = pure false) : PS X (.Assign [.Attribute o f pos'] value pos) (sFld X.K ta tv f) := by
  intro pins s σ H D I h
  refine plainObj_wpAny_Assign_Attribute (thn (hv pins s σ H _ I h) fun u s1 ⟨y, H1, I1, ry, q⟩ => thn (ha pins s1 σ H1 _ I1 q) fun ov s2 ⟨x, H2, I2, rx, a, C, dx, fs, ex, ea, c, n, l, q2⟩ => ?_) hs
  subst ex
  obtain rfl : ov = Value.ref a := rx
  exact setattr_ok I2 ea c n l ry fun s3 I3 => ⟨σ, _, I3, q2⟩
end
section
variable {X : Cx} {pins : List (Addr × Obj)} {σ : St} {H : Hp} {s : Shared} {A : Around} {E : Value → Shared → Prop} {Q : Value → Shared → Prop} {c : Value} {b : Bool}
inductive TyOf (K : PySem.W.Frag) (H : Hp) : V → Value → Prop where
  | non : TyOf K H .non (.type "NoneType")
  | bl (x : Bool) : TyOf K H (.bl x) (.type "bool")
  | int (i : Int) : TyOf K H (.int i) (.type "int")
  | str (x : Str) : TyOf K H (.str x) (.type "str")
  | flt (x : UInt64) : TyOf K H (.flt x) (.type "float")
  | lst {a : Addr} {xs : List V} (e : H a = some (.lst xs)) : TyOf K H (.ref a) (.type "list")
  | frz {a : Addr} {o : Obj} {xs : List V} (e : H a = some (.frz o (.lst xs))) : TyOf K H (.ref a) (.type "list")
  | tup {a : Addr} {xs : List V} (e : H a = some (.tup xs)) : TyOf K H (.ref a) (.type "tuple")
  | dK {a : Addr} {kvs : List (Key × V)} (e : H a = some (.dK kvs)) : TyOf K H (.ref a) (.type "dict")
  | dT {a : Addr} {kvs : List (List Key × V)} (e : H a = some (.dT kvs)) : TyOf K H (.ref a) (.type "dict")
  | ins {a C dx : Addr} {fs : List (Str × V)} (e : H a = some (.ins C dx fs)) (cl : Cls K C) (ha : PySem.W.findIn K (.ref C) "__class__" = some (some (.builtin "object.__class__")))
      (hn : PySem.W.specialIn K (.builtin "object.__class__") "__get__" = some (some (.builtin "getset_descriptor.__get__"))) (htk : PySem.W.takesIn K (.builtin "object.__class__") = some true)
      (hm : PySem.W.mroIn K C (.type "object") = some true) : TyOf K H (.ref a) (.ref C)
theorem isinst_ok {x : V} {u t : Value} (I : Inv X pins σ H s) (rx : RelV x u) (ty : TyOf X.K H x t) (e : PySem.W.kitOne X.K t c = some b) (h : ∀ tk, Q (.bool b) { s with toks := tk }) :
    wpAny (model X.prog X.w) A (call (.builtin "isinstance") [u, c]) Q E s := by
  cases ty with
  | non => cases (show u = Value.none from rx); exact PySem.W.kia_one PySem.W.kitx_none I.kIn True.intro e (fun z => nomatch z) h
  | bl y => cases (show u = Value.bool y from rx); exact PySem.W.kia_one PySem.W.kitx_bool I.kIn True.intro e (fun z => nomatch z) h
  | int i => obtain ⟨t, q⟩ := (show ∃ t, u = Value.int i t from rx); cases q; exact PySem.W.kia_one PySem.W.kitx_int I.kIn True.intro e (fun z => nomatch z) h
  | str y => obtain ⟨t, q⟩ := (show ∃ t, u = Value.str y t from rx); cases q; exact PySem.W.kia_one PySem.W.kitx_str I.kIn True.intro e (fun z => nomatch z) h
  | flt y => obtain ⟨t, q⟩ := (show ∃ t, u = Value.float y t from rx); cases q; exact PySem.W.kia_one PySem.W.kitx_float I.kIn True.intro e (fun z => nomatch z) h
  | @lst a xs ea =>
    cases (show u = Value.ref a from rx)
    obtain ⟨_, _, n, _, h1⟩ := (show ObjOk X.prog X.w H s.heap a (.lst xs) from I.hok a _ ea)
    exact PySem.W.kia_one PySem.W.kitx_list I.kIn ⟨_, h1, rfl⟩ e (fun z => nomatch z) h
  | @frz a ob xs ea =>
    cases (show u = Value.ref a from rx)
    obtain ⟨_, _, _, n, _, h1⟩ := (show ObjOk X.prog X.w H s.heap a (.frz ob (.lst xs)) from I.hok a _ ea)
    exact PySem.W.kia_one PySem.W.kitx_list I.kIn ⟨_, h1, rfl⟩ e (fun z => nomatch z) h
  | @tup a xs ea =>
    cases (show u = Value.ref a from rx)
    obtain ⟨_, _, _, p⟩ := (show ObjOk X.prog X.w H s.heap a (.tup xs) from I.hok a _ ea)
    obtain ⟨o, h1, h2, _⟩ := p
    exact PySem.W.kia_one PySem.W.kitx_tuple I.kIn ⟨o, h1, h2⟩ e (fun z => nomatch z) h
  | @dK a kvs ea =>
    cases (show u = Value.ref a from rx)
    obtain ⟨_, _, vs, _, p⟩ := (show ObjOk X.prog X.w H s.heap a (.dK kvs) from I.hok a _ ea)
    obtain ⟨o, es, ep, h1, h2, _⟩ := p
    exact PySem.W.kia_one PySem.W.kitx_dict I.kIn ⟨o, h1, h2.1⟩ e (fun z => nomatch z) h
  | @dT a kvs ea =>
    cases (show u = Value.ref a from rx)
    obtain ⟨_, _, xs, _, o, es, ep, h1, h2, _⟩ := (show ObjOk X.prog X.w H s.heap a (.dT kvs) from I.hok a _ ea)
    exact PySem.W.kia_one PySem.W.kitx_dict I.kIn ⟨o, h1, h2.1⟩ e (fun z => nomatch z) h
  | @ins a C dx fs ea cl ha hn htk hm =>
    cases (show u = Value.ref a from rx)
    obtain ⟨mA, O, _⟩ := ins_get I.hok ea
    obtain ⟨od, J, _⟩ := O.look
    exact PySem.W.kia_one (PySem.W.kitx_own (cl.get _) cl.hd ha hn htk hm) I.kIn J e (fun z => nomatch z) h
end
end L2
namespace L2
open PySem PySem.Spec PyProof.Rows
structure Room (k : Nat) (A : Around) : Prop where
  hd : A.handled = none
  dp : A.depth + 3 * k + 5 < recursionLimit
  un : A.units + 16 * k + 200 < cLine
theorem Room.mono {j k : Nat} {A : Around} (r : Room k A) (h : j ≤ k) : Room j A := ⟨r.hd, by have := r.dp; omega, by have := r.un; omega⟩
theorem Room.deeper {k : Nat} {A : Around} (r : Room (k + 1) A) (env : Env) : Room k (A.deeper env) :=
  ⟨r.hd, by have := r.dp; show A.depth + 1 + 3 * k + 5 < _; omega, by have := r.un; show A.units + 3 + 16 * k + 200 < _; omega⟩
theorem Room.in1 {k : Nat} {A : Around} (r : Room (k + 1) A) : Room k A.in1 :=
  ⟨r.hd, by have := r.dp; show A.depth + 3 * k + 5 < _; omega, by have := r.un; show A.units + 1 + 16 * k + 200 < _; omega⟩
theorem make_depth {A : Around} {C : Addr} {us : List Value} {kw : List (Str × Value)} : (A.under (.builtin "type.__call__" ⟨.ref C :: us, kw⟩)).depth = A.depth + 1 := by
  first | rfl | simp [Around.under, Code.weight, Code.isCreation, Code.isGuard, Code.isCaller, Code.frames, Code.isFrame, guardIds]
theorem make_units {A : Around} {C : Addr} {us : List Value} {kw : List (Str × Value)} : (A.under (.builtin "type.__call__" ⟨.ref C :: us, kw⟩)).units = A.units + 1 := by
  first | rfl | simp [Around.under, Code.cUnits, Code.frames, Code.isFrame]
theorem Room.make {k : Nat} {A : Around} (r : Room (k + 1) A) (C : Addr) (us : List Value) (kw : List (Str × Value)) : Room k (A.under (.builtin "type.__call__" ⟨.ref C :: us, kw⟩)) :=
  ⟨r.hd, by have := r.dp; rw [make_depth]; omega, by have := r.un; rw [make_units]; omega⟩
theorem Room.depth {k : Nat} {A : Around} (r : Room k A) : A.depth < recursionLimit := by have := r.dp; omega
theorem Room.units {k : Nat} {A : Around} (r : Room k A) : A.units + 64 < cLine := by have := r.un; omega
def tNil : TA := fun _ H Q => Q [] H
def tCons (ta : TE) (tr : TA) : TA := fun σ H Q => ta σ H fun x H1 => tr σ H1 fun xs H2 => Q (x :: xs) H2
section
variable {X : Cx} {e : Expr} {es : List Expr} {te : TE} {t : TA} {pos : Pos}
theorem pa_nil : PA X [] tNil := fun _ _ _ _ H Q I h => Calls.spliced_nil ⟨[], H, I, .nil, h⟩
theorem pa_cons (ha : PE X e te) (hr : PA X es t) (hs : starEach (e :: es) X.env = (false, eval e X.env) :: starEach es X.env := by rfl) : PA X (e :: es) (tCons te t) := by
  intro pos pins s σ H Q I h
  rw [hs]
  show wpAny _ _ (spliced ((false, eval e X.env) :: backTo pos (starEach es X.env))) _ _ s
  refine Calls.spliced_cons (thn (ha pins s σ H _ I h) fun u s1 ⟨x, H1, I1, r1, q1⟩ => ?_)
  exact thn (hr pos pins s1 σ H1 _ I1 q1) fun us s2 ⟨xs, H2, I2, r2, q2⟩ => ⟨x :: xs, H2, I2, .cons r1 r2, q2⟩
def tTup (t : TA) : TE := fun σ H Q => t σ H fun xs H1 => xs.length ≤ sizeLine ∧ ∀ p, H1 p = none → Q (.ref p) (upd H1 p (.tup xs))
def tLst (t : TA) : TE := fun σ H Q => t σ H fun xs H1 => xs.length ≤ sizeLine ∧ ∀ p, H1 p = none → Q (.ref p) (upd H1 p (.lst xs))
theorem pe_tup {x1} (h : PA X es t) : PE X (.Tuple es x1 pos) (tTup t) := by
  intro pins s σ H Q I hq
  refine wpAny_Tuple_spliced (thn (h pos pins s σ H _ I hq) fun us s1 ⟨xs, H1, I1, r, z, q⟩ => ⟨by rw [← r.length]; exact z, ?_⟩)
  have hf : H1 s1.heap.objs.size = none := I1.hok.fresh (Nat.le_refl _)
  refine ⟨.ref s1.heap.objs.size, upd H1 s1.heap.objs.size (.tup xs), I1.laid (t' := s1.toks) (fun b u e => Heap.get?_push_of_some _ e) (Nat.le_refl _) ?_, rfl, q _ hf⟩
  exact ⟨z, us, r, ⟨_, Heap.get?_push_size _ rfl, rfl, _, rfl⟩⟩
theorem pe_lst (h : PA X es t) : PE X (.List es pos) (tLst t) := by
  intro pins s σ H Q I hq
  refine wpAny_List_spliced (thn (h pos pins s σ H _ I hq) fun us s1 ⟨xs, H1, I1, r, z, q⟩ => ⟨by rw [← r.length]; exact z, ?_⟩)
  have hf : H1 s1.heap.objs.size = none := I1.hok.fresh (Nat.le_refl _)
  refine ⟨.ref s1.heap.objs.size, upd H1 s1.heap.objs.size (.lst xs), I1.laid (t' := s1.toks) (fun b u e => Heap.get?_push_of_some _ e) (Nat.le_refl _) ?_, rfl, q _ hf⟩
  exact ⟨z, us, 0, r, Heap.get?_push_size _ rfl⟩
end
abbrev Sp := List V → Hp → VK → XK → Prop
abbrev CXT := List Env → Hp → Shared → XK → Value → Shared → Prop
structure Env0 (P : Program) (w : World) (K : PySem.W.Frag) (mg : Str → Option Value) (base : Heap) (A : Around) (outer : List Env) (s : Shared) (H : Hp) : Prop where
  frames : A.frames = some outer
  mod : Mod K mg base
  bs : ∀ b o, base.get? b = some o → s.heap.get? b = some o ∧ H b = none
  bsz : base.objs.size ≤ s.heap.objs.size
  funs : s.heap.FunFrames base outer
  frf : ∀ b ∈ frs outer, H b = none
  hok : HOk P w H s.heap
  bare : AllBare s.gens
def CE (outer : List Env) (P : Program) (w : World) (H : Hp) (s : Shared) (Q : VK) (u : Value) (s' : Shared) : Prop :=
  ∃ v H', s'.os = s.os ∧ AllBare s'.gens ∧ Un (frs outer) [] H H' s.heap s'.heap ∧ HOk P w H' s'.heap ∧ RelV v u ∧ Q v H'
def CR (CX : CXT) (outer : List Env) (P : Program) (w : World) (H : Hp) (s : Shared) (Q : VK) (E : XK) (r : Result) (s' : Shared) : Prop :=
  match r with
  | .ok (.ret u) => CE outer P w H s Q u s'
  | .ok _ => False
  | .error e => CX outer H s E e s'
structure FnOk (P : Program) (w : World) (K : PySem.W.Frag) (mg : Str → Option Value) (base : Heap) (CX : CXT) (k : Nat) (f : Addr) (fd : FuncData) (ps : List Str) (sp : Sp) : Prop where
  len : ∀ vs H Q E, sp vs H Q E → vs.length = ps.length
  run : ∀ (A : Around) (outer : List Env) (s : Shared) (H : Hp) (args : Args) (us : List Value) (vs : List V) (Q : VK) (E : XK), Room k A → Env0 P w K mg base A outer s H → BindsTo s fd args (ps.zip us) → Vals vs us → sp vs H Q E →
    codeAny (model P w) A (.call (.ref f) args) (CR CX outer P w H s Q E) s
theorem FnOk.mono {P : Program} {w : World} {K : PySem.W.Frag} {mg : Str → Option Value} {base : Heap} {CX : CXT} {j k : Nat} {f : Addr} {fd : FuncData} {ps : List Str} {sp : Sp} (F : FnOk P w K mg base CX j f fd ps sp) (h : j ≤ k) :
    FnOk P w K mg base CX k f fd ps sp := ⟨F.len, fun A outer s H args us vs Q E hr => F.run A outer s H args us vs Q E (hr.mono h)⟩
theorem FnOk.imp {P : Program} {w : World} {K : PySem.W.Frag} {mg : Str → Option Value} {base : Heap} {CX : CXT} {k : Nat} {f : Addr} {fd : FuncData} {ps : List Str} {sp sp' : Sp} (F : FnOk P w K mg base CX k f fd ps sp)
    (h : ∀ vs H Q E, sp' vs H Q E → sp vs H Q E) : FnOk P w K mg base CX k f fd ps sp' :=
  ⟨fun vs H Q E q => F.len vs H Q E (h _ _ _ _ q), fun A outer s H args us vs Q E hr he hb hv hs => F.run A outer s H args us vs Q E hr he hb hv (h _ _ _ _ hs)⟩
theorem Env0.make {P : Program} {w : World} {K : PySem.W.Frag} {mg : Str → Option Value} {base : Heap} {A : Around} {outer : List Env} {s : Shared} {H : Hp} (e : Env0 P w K mg base A outer s H) (C : Addr) (us : List Value) (kw : List (Str × Value)) :
    Env0 P w K mg base (A.under (.builtin "type.__call__" ⟨.ref C :: us, kw⟩)) outer s H := ⟨by first | exact e.frames | (simpa [Around.under, Code.envs, Code.isFrame, pushEnvs] using e.frames), e.mod, e.bs, e.bsz, e.funs, e.frf, e.hok, e.bare⟩
theorem Env0.in1 {P : Program} {w : World} {K : PySem.W.Frag} {mg : Str → Option Value} {base : Heap} {A : Around} {outer : List Env} {s : Shared} {H : Hp} (e : Env0 P w K mg base A outer s H) :
    Env0 P w K mg base A.in1 outer s H := ⟨e.frames, e.mod, e.bs, e.bsz, e.funs, e.frf, e.hok, e.bare⟩
section
variable {X : Cx} {pins : List (Addr × Obj)} {σ : St} {H : Hp} {s s' : Shared}
theorem Inv.env0 (I : Inv X pins σ H s) : Env0 X.prog X.w X.K X.mg X.base X.A X.stack s H :=
  ⟨I.ok.frames, I.ok.mod, I.bs, Nat.le_trans I.ok.bsz I.sz, I.stack, I.stkFree, I.hok, I.bare⟩
theorem Inv.after {Q : VK} {u : Value} (I : Inv X pins σ H s) (h : CE X.stack X.prog X.w H s Q u s') : EP X pins σ Q u s' := by
  obtain ⟨v, H', os, bare, un, hok, r, q⟩ := h
  obtain ⟨hh, g, d, t, os'⟩ := s'
  obtain rfl : os' = s.os := os
  exact ⟨v, H', I.call (h' := hh) (g' := g) (d' := d) (t' := t) (ch := []) un hok bare (fun b z => absurd z (by simp)), r, q⟩
end
def tCall (sp : Sp) (dvs : List V) (E : XK) (t : TA) : TE := fun σ H Q => t σ H fun vs H1 => sp (vs ++ dvs) H1 Q E
def tMeth (C : Addr) (m : Str) (sp : Sp) (dvs : List V) (E : XK) (ta : TE) (t : TA) : TE := fun σ H Q => ta σ H fun x H1 => ∃ a dx fs, x = .ref a ∧ H1 a = some (.ins C dx fs) ∧ fs.lookup m = none ∧
  t σ H1 fun vs H2 => sp (x :: (vs ++ dvs)) H2 Q E
def tMake (C : Addr) (sp : Sp) (dvs : List V) (E : XK) (t : TA) : TE := fun σ H Q => t σ H fun vs H1 => ∀ x dx, H1 x = none → H1 dx = none → dx ≠ x →
  sp (.ref x :: (vs ++ dvs)) (upd (upd H1 dx (.own x)) x (.ins C dx [])) (fun v H2 => v = .non ∧ Q (.ref x) H2) E
def Binds (K : PySem.W.Frag) (fd : FuncData) (ps : List Str) (ds : List Value) : Prop :=
  ∀ (s : Shared) (us : List Value), K.In s.heap → (us ++ ds).length = ps.length → BindsTo s fd ⟨us, []⟩ (ps.zip (us ++ ds))
theorem Binds.all {K : PySem.W.Frag} {fd : FuncData} {ps : List Str} (h : ∀ us : List Value, us.length = ps.length → bindArgs fd ⟨us, []⟩ = pure (ps.zip us)) : Binds K fd ps [] := fun s us _ hl => by
  rw [List.append_nil] at hl ⊢
  exact .of_eq (h us hl)
def Passes (CX : CXT) (X : Cx) (E : XK) : Prop := ∀ (pins : List (Addr × Obj)) (σ : St) (H : Hp) (s : Shared) (e : Value) (s' : Shared), Inv X pins σ H s → CX X.stack H s E e s' → X.xe e s'
section
variable {X : Cx} {CX : CXT} {k : Nat} {f C : Addr} {fd : FuncData} {ps : List Str} {sp : Sp} {dvs : List V} {ds : List Value} {E : XK} {x m : Str} {p pos apos : Pos} {e o : Expr} {es : List Expr} {ta : TE} {t : TA}
theorem run_fn {pins : List (Addr × Obj)} {σ : St} {H : Hp} {s : Shared} {Q : VK} {us : List Value} {vs : List V} (F : FnOk X.prog X.w X.K X.mg X.base CX k f fd ps sp) (hr : Room k X.A) (hb : Binds X.K fd ps ds) (hd : Vals dvs ds) (hx : Passes CX X E)
    (I : Inv X pins σ H s) (r : Vals vs us) (h : sp (vs ++ dvs) H Q E) : wpAny (model X.prog X.w) X.A (call (.ref f) us) (EP X pins σ Q) X.xe s := by
  have r2 : Vals (vs ++ dvs) (us ++ ds) := r.append hd
  have hl : (us ++ ds).length = ps.length := by rw [← r2.length]; exact F.len _ _ _ _ h
  refine wpAny_call (codeAny_mono (F.run X.A X.stack s H ⟨us, []⟩ (us ++ ds) (vs ++ dvs) Q E hr I.env0 (hb s us I.kIn hl) r2 h) fun r s' hq => ?_)
  cases r with
  | error e => exact hx pins σ H s e s' I hq
  | ok fl =>
    cases fl with
    | ret u => exact I.after hq
    | next => exact False.elim hq
    | brk => exact False.elim hq
    | cont => exact False.elim hq
theorem pe_call (F : FnOk X.prog X.w X.K X.mg X.base CX k f fd ps sp) (hr : Room k X.A) (hg : Gl X x) (hm : X.mg x = some (.ref f)) (hk : PySem.W.keepIn X.K (.ref f) = true) (hb : Binds X.K fd ps ds) (hd : Vals dvs ds) (hx : Passes CX X E)
    (ha : PA X (e :: es) t) (hdb : (x == ("__debug__" : Str)) = false := by decide) (he : starEach (e :: es) X.env = (false, eval e X.env) :: starEach es X.env := by rfl) (hpl : (backTo pos (starEach es X.env)).any (·.1) = false := by rfl) :
    PE X (.Call (.Name x p) (e :: es) [] pos) (tCall sp dvs E t) := by
  intro pins s σ H Q I h
  refine wpAny_Call_Name_kw (ld_glob I hg hm ?_ hdb)
  refine PySem.W.callWith_K (h₀ := X.base) I.ok.mod.kin hk (thn (ha pos pins s σ H _ I h) fun us s1 ⟨vs, H1, I1, r, q⟩ => ⟨I1.kIn, ?_⟩) he hpl
  exact run_fn F hr hb hd hx I1 r q
theorem pe_meth0 {pl : Sem Bool} (he : PE X o ta) (c : Cls X.K C) (hm : Meth X.K C m f) (F : FnOk X.prog X.w X.K X.mg X.base CX k f fd ps sp) (hr : Room k X.A) (hb : Binds X.K fd ps ds) (hd : Vals dvs ds) (hx : Passes CX X E)
    (ht : eval (.Call (.Attribute o m apos) [] [] pos) X.env = (do
      let ov ← eval o X.env
      standAt apos.atName
      let (f, first) ← holding [ov] (getMethod ov m pl)
      callWith pos f first (backTo pos (starEach [] X.env)) (backToKw pos (keywordEach [] X.env))) := by rfl) :
    PE X (.Call (.Attribute o m apos) [] [] pos) (tMeth C m sp dvs E ta tNil) := by
  intro pins s σ H Q I h
  refine PySem.W.methodCall_KW (pl := pl) (thn (he pins s σ H _ I h) fun u s1 ⟨x, H1, I1, rx, a, dx, fs, ex, ea, l, q⟩ => ?_) ht
  subst ex
  obtain rfl : u = Value.ref a := rx
  refine getmeth_ok I1 ea c hm l ?_
  exact PySem.W.callWith_K0 (first := [.ref a]) I1.kIn hm.kp (run_fn (us := [.ref a]) (vs := [.ref a]) F hr hb hd hx I1 (.cons rfl .nil) q)
structure Mk (K : PySem.W.Frag) (C f : Addr) : Prop where
  makes : PySem.W.makesIn K C = true
  init : PySem.W.findIn K (.ref C) "__init__" = some (some (.ref f))
  fn : PySem.W.isFn K (.ref f) = true
  kp : PySem.W.keepIn K (.ref C) = true
theorem run_make {pins : List (Addr × Obj)} {σ : St} {H : Hp} {s : Shared} {Q : VK} {us : List Value} {vs : List V} (M : Mk X.K C f) (F : FnOk X.prog X.w X.K X.mg X.base CX k f fd ps sp) (hr : Room (k + 1) X.A) (hb : Binds X.K fd ps ds) (hd : Vals dvs ds)
    (hx : Passes CX X E) (I : Inv X pins σ H s) (r : Vals vs us)
    (h : ∀ x dx, H x = none → H dx = none → dx ≠ x → sp (.ref x :: (vs ++ dvs)) (upd (upd H dx (.own x)) x (.ins C dx [])) (fun v H2 => v = .non ∧ Q (.ref x) H2) E) :
    wpAny (model X.prog X.w) X.A (call (.ref C) us) (EP X pins σ Q) X.xe s := by
  have hq := h (s.heap.objs.size + 1) s.heap.objs.size (I.hok.fresh (Nat.le_succ _)) (I.hok.fresh (Nat.le_refl _)) (Nat.ne_of_lt (Nat.lt_succ_self _))
  have I2 := Inv.made (C := C) I
  have r2 : Vals (V.ref (s.heap.objs.size + 1) :: (vs ++ dvs)) (Value.ref (s.heap.objs.size + 1) :: (us ++ ds)) := .cons rfl (r.append hd)
  have hl : (Value.ref (s.heap.objs.size + 1) :: us ++ ds).length = ps.length := by
    have e := r2.length
    rw [F.len _ _ _ _ hq] at e
    exact e.symm
  refine wpAny_call (make_map (f := f) I.kIn M.makes M.init (beq_iff_eq.mp M.fn) (codeAny_mono (F.run _ X.stack _ _ ⟨Value.ref (s.heap.objs.size + 1) :: us, []⟩ (Value.ref (s.heap.objs.size + 1) :: (us ++ ds)) _ _ E (hr.make C us [])
    (I2.env0.make C us []) (hb _ (Value.ref (s.heap.objs.size + 1) :: us) I2.kIn hl) r2 hq) fun r s' hq' => ?_))
  cases r with
  | error e => exact hx pins σ _ _ e s' I2 hq'
  | ok fl =>
    cases fl with
    | ret u =>
      obtain ⟨v, H', I3, rv, ev, q3⟩ := I2.after hq'
      subst ev
      exact ⟨rv, ⟨V.ref (s.heap.objs.size + 1), H', I3, rfl, q3⟩⟩
    | next => exact False.elim hq'
    | brk => exact False.elim hq'
    | cont => exact False.elim hq'
theorem pe_make (M : Mk X.K C f) (F : FnOk X.prog X.w X.K X.mg X.base CX k f fd ps sp) (hr : Room (k + 1) X.A) (hg : Gl X x) (hm : X.mg x = some (.ref C)) (hb : Binds X.K fd ps ds) (hd : Vals dvs ds) (hx : Passes CX X E)
    (ha : PA X (e :: es) t) (hdb : (x == ("__debug__" : Str)) = false := by decide) (he : starEach (e :: es) X.env = (false, eval e X.env) :: starEach es X.env := by rfl) (hpl : (backTo pos (starEach es X.env)).any (·.1) = false := by rfl) :
    PE X (.Call (.Name x p) (e :: es) [] pos) (tMake C sp dvs E t) := by
  intro pins s σ H Q I h
  refine wpAny_Call_Name_kw (ld_glob I hg hm ?_ hdb)
  refine PySem.W.callWith_K (h₀ := X.base) I.ok.mod.kin M.kp (thn (ha pos pins s σ H _ I h) fun us s1 ⟨vs, H1, I1, r, q⟩ => ⟨I1.kIn, ?_⟩) he hpl
  exact run_make M F hr hb hd hx I1 r q
end
section
variable {X : Cx} {CX : CXT} {k : Nat} {f C : Addr} {fd : FuncData} {ps ks : List Str} {sp : Sp} {E : XK} {x m : Str} {p pos apos kpos : Pos} {e o : Expr} {es : List Expr} {kws : List Keyword} {te ta : TE} {t tk : TA} {nm : Option Str}
structure KBinds (K : PySem.W.Frag) (fd : FuncData) (ps ks : List Str) (g : List Value → List Value → List Value) (gV : List V → List V → List V) : Prop where
  to : ∀ (s : Shared) (us ws : List Value), K.In s.heap → (g us ws).length = ps.length → BindsTo s fd ⟨us, ks.zip ws⟩ (ps.zip (g us ws))
  rel : ∀ {vs : List V} {us : List Value} {zs : List V} {ws : List Value}, Vals vs us → Vals zs ws → Vals (gV vs zs) (g us ws)
variable {g : List Value → List Value → List Value} {gV : List V → List V → List V}
end
structure FnScope (N P : List Str) (sc : Scope) : Prop where
  kind : sc.kind = .function
  co : sc.isCoroutine = false
  gen : sc.isGenerator = false
  nd : N.Nodup
  pre : N.take P.length = P
  par : ∀ x ∈ P, sc.names.lookup x = some .local ∨ sc.names.lookup x = some .cell
  nofree : ∀ y ∈ sc.names, y.2 ≠ .free
theorem bindL_out {kindOf : Str → Option NameKind} {x : Str} : ∀ {binds : List (Str × Value)} {m : Str → Option Value}, (∀ v, (x, v) ∉ binds) → bindL kindOf binds m x = m x
  | [], _, _ => rfl
  | (n, v) :: r, m, h => by
    unfold bindL
    rw [bindL_out fun w hw => h w (List.mem_cons_of_mem _ hw)]
    split
    · have : x ≠ n := by rintro rfl; exact h v List.mem_cons_self
      simp [this]
    · rfl
theorem bindC_out {kindOf : Str → Option NameKind} {x : Str} : ∀ {binds : List (Str × Value)} {m : Str → Option Value}, (∀ v, (x, v) ∉ binds) → bindC kindOf binds m x = m x
  | [], _, _ => rfl
  | (n, v) :: r, m, h => by
    unfold bindC
    rw [bindC_out fun w hw => h w (List.mem_cons_of_mem _ hw)]
    split
    · rfl
    · have : x ≠ n := by rintro rfl; exact h v List.mem_cons_self
      simp [this]
theorem bindL_get {kindOf : Str → Option NameKind} {x : Str} {v : Value} : ∀ {P : List Str} {vs : List Value} {i : Nat} {m : Str → Option Value}, P.Nodup → P[i]? = some x → vs[i]? = some v → kindOf x = some .local →
    bindL kindOf (P.zip vs) m x = some v
  | [], _, _, _, _, h, _, _ => by simp at h
  | _ :: _, [], _, _, _, _, h, _ => by simp at h
  | p :: P, w :: vs, 0, m, nd, h1, h2, hk => by
    simp at h1 h2; subst h1; subst h2
    show bindL kindOf ((p, w) :: P.zip vs) m p = _
    unfold bindL
    rw [bindL_out fun v hv => (List.nodup_cons.mp nd).1 (List.of_mem_zip hv).1, if_pos hk]
    simp
  | p :: P, w :: vs, i + 1, m, nd, h1, h2, hk => by
    show bindL kindOf ((p, w) :: P.zip vs) m x = _
    unfold bindL
    exact bindL_get (i := i) (List.nodup_cons.mp nd).2 (by simpa using h1) (by simpa using h2) hk
theorem bindC_get {kindOf : Str → Option NameKind} {x : Str} {v : Value} : ∀ {P : List Str} {vs : List Value} {i : Nat} {m : Str → Option Value}, P.Nodup → P[i]? = some x → vs[i]? = some v → kindOf x ≠ some .local →
    bindC kindOf (P.zip vs) m x = some v
  | [], _, _, _, _, h, _, _ => by simp at h
  | _ :: _, [], _, _, _, _, h, _ => by simp at h
  | p :: P, w :: vs, 0, m, nd, h1, h2, hk => by
    simp at h1 h2; subst h1; subst h2
    show bindC kindOf ((p, w) :: P.zip vs) m p = _
    unfold bindC
    rw [bindC_out fun v hv => (List.nodup_cons.mp nd).1 (List.of_mem_zip hv).1, if_neg hk]
    simp
  | p :: P, w :: vs, i + 1, m, nd, h1, h2, hk => by
    show bindC kindOf ((p, w) :: P.zip vs) m x = _
    unfold bindC
    exact bindC_get (i := i) (List.nodup_cons.mp nd).2 (by simpa using h1) (by simpa using h2) hk
def start (N : List Str) (vs : List V) : St := vs.map some ++ List.replicate (N.length - vs.length) none
def cxOf (CX : CXT) (P : Program) (w : World) (K : PySem.W.Frag) (mg : Str → Option Value) (base : Heap) (N : List Str) (qual : Str) (scope : Scope) (f : Addr) (cd : Value) (A : Around) (outer : List Env) (s : Shared) (H : Hp) (E : XK) : Cx where
  prog := P
  w := w
  K := K
  mg := mg
  base := base
  A := A.deeper (envOfC qual scope s.heap.objs.size f cd)
  N := N
  s₀ := s
  H₀ := H
  env := envOfC qual scope s.heap.objs.size f cd
  outer := outer
  stack := envOfC qual scope s.heap.objs.size f cd :: outer
  ex := []
  calm := true
  fn := fun _ => true
  pn := []
  xe := fun e s' => wpAny (model P w) (A.deeper (envOfC qual scope s.heap.objs.size f cd)) (leaving (envOfC qual scope s.heap.objs.size f cd) e) (fun _ s'' => CX outer H s E e s'') (fun e' s'' => CX outer H s E e' s'') s'
theorem cell_has {sc : Scope} {n : Nat} {x : Str} (h : sc.names.lookup x = some .cell) : ∃ c, (cellsFrom n sc.names []).lookup x = some c := by
  have q := PySem.W.cellsFrom_some sc.names n [] (.inl h)
  exact Option.isSome_iff_exists.mp q
theorem inv_start {CX : CXT} {P : Program} {w : World} {K : PySem.W.Frag} {mg : Str → Option Value} {base : Heap} {N ps : List Str} {qual : Str} {scope : Scope} {f : Addr} {cd : Value} {A : Around} {outer : List Env} {s s1 : Shared} {H : Hp} {E : XK} {us : List Value} {vs : List V}
    (S : FnScope N ps scope) (hd : A.handled = none) (e0 : Env0 P w K mg base A outer s H) (hl : vs.length = ps.length) (r : Vals vs us)
    (x : InCallC s s.heap.objs.size (bindL (envOfC qual scope s.heap.objs.size f cd).kindOf (ps.zip us) fun _ => none) (cellsFrom (s.heap.objs.size + 1) scope.names []) (bindC (envOfC qual scope s.heap.objs.size f cd).kindOf (ps.zip us) fun _ => none) s1) :
    Inv (cxOf CX P w K mg base N qual scope f cd A outer s H E) [] (start N vs) H s1 := by
  have hpl : ps.length ≤ N.length := by have := congrArg List.length S.pre; rw [List.length_take] at this; omega
  obtain ⟨h1, tk, rfl, hk⟩ := x.done
  have noA : ∀ b : Addr, b ∉ (cxOf CX P w K mg base N qual scope f cd A outer s H E).ex := fun b z => absurd (show b ∈ ([] : List Addr) from z) (by simp)
  refine ⟨⟨e0.mod, S.kind, rfl, rfl, Nat.le_refl _, fun y z c h1 h2 => ?_, fun y hy => ?_, fun y c _ h => ?_, fun _ => hd, Around.frames_deeper e0.frames, .inr ⟨rfl, rfl⟩, fun b z => absurd z (noA b), e0.bs, e0.bsz, fun b _ _ => noA b, fun b z => absurd z (noA b), e0.funs, e0.frf⟩,
    rfl, e0.bare, Un.kept hk, ⟨_, x.toInCall.ns, fun i y v h1 h2 h3 => ?_⟩, fun y c h => ⟨_, x.cell y c h⟩, e0.hok.fresh (Nat.le_refl _), fun y c h => ?_, fun p hp => absurd (show p ∈ ([] : List (Addr × Obj)) from hp) (by simp), e0.hok.kept hk, ?_⟩
  · exact name_of_addr x.apart (PySem.mem_of_lookup h1) (PySem.mem_of_lookup h2)
  · have hy : scope.names.lookup y = some .cell ∨ scope.names.lookup y = some .free := hy
    rcases hy with hy | hy
    · exact cell_has hy
    · exact absurd rfl (S.nofree _ (PySem.mem_of_lookup hy))
  · exact Nat.le_of_lt (x.above y c (PySem.mem_of_lookup h))
  · have hi : i < vs.length := by
      unfold start at h2
      by_cases hi : i < vs.length
      · exact hi
      · rw [List.getElem?_append_right (by simpa using hi)] at h2
        rw [List.getElem?_replicate] at h2
        split at h2 <;> cases h2
    have ha : vs[i]? = some v := by
      unfold start at h2
      rw [List.getElem?_append_left (by simpa using hi), List.getElem?_map] at h2
      cases e : vs[i]? with
      | none => rw [e] at h2; cases h2
      | some a => rw [e] at h2; cases h2; rfl
    obtain ⟨u, hu, rv⟩ := r.get ha
    have hp : ps[i]? = some y := by
      rw [← S.pre, List.getElem?_take_of_lt (by omega)]; exact h1
    have ndP : ps.Nodup := by rw [← S.pre]; exact S.nd.sublist (List.take_sublist _ _)
    refine ⟨u, rv, ?_⟩
    rcases S.par y (List.mem_of_getElem? hp) with k | k
    · exact .inl ⟨k, bindL_get ndP hp hu k⟩
    · obtain ⟨c, e⟩ := cell_has (n := s.heap.objs.size + 1) k
      refine .inr ⟨.inl k, c, e, ?_⟩
      have q := x.cell y c e
      rw [bindC_get ndP hp hu (by show scope.names.lookup y ≠ _; rw [k]; decide)] at q
      exact q
  · exact e0.hok.fresh (Nat.le_of_lt (x.above y c (PySem.mem_of_lookup h)))
  · unfold start
    show _ = N.length
    rw [List.length_append, List.length_map, List.length_replicate]
    omega
theorem fn_of {CX : CXT} {P : Program} {w : World} {K : PySem.W.Frag} {mg : Str → Option Value} {base : Heap} {k : Nat} {f : Addr} {name qual : Str} {params : Arguments} {body : List Stmt} {scope : Scope} {dV kV doc pm cdv ct oc : Value} {an od : Option Addr}
    {osl : Array (Option Value)} {N ps : List Str} {sp : Sp} (lk : K.lookup f = some ⟨oc, od, .func (PySem.W.fnOf name qual params body scope dV kV doc pm an cdv ct), osl⟩) (hcd : PySem.W.codeIn K cdv qual = true) (S : FnScope N ps scope)
    (len : ∀ vs H Q E, sp vs H Q E → vs.length = ps.length)
    (hbody : ∀ (A : Around) (outer : List Env) (s : Shared) (H : Hp) (vs : List V) (Q : VK) (E : XK), Room k (A.deeper (envOfC qual scope s.heap.objs.size f cdv)) → sp vs H Q E →
      ∃ t, PSs (cxOf CX P w K mg base N qual scope f cdv A outer s H E) body t ∧ t { nx := fun _ H' => Q .non H', rt := Q } (start N vs) H) :
    FnOk P w K mg base CX (k + 1) f (PySem.W.fnOf name qual params body scope dV kV doc pm an cdv ct) ps sp := by
  refine ⟨len, fun A outer s H args us vs Q E hr e0 hb r hsp => ?_⟩
  have hl := len _ _ _ _ hsp
  have KX : K.In s.heap := e0.mod.kin.keeps fun b o e => (e0.bs b o e).1
  have lim : s.heap.NoLimit := e0.mod.nolimit.keeps fun b o e => (e0.bs b o e).1
  have hkind : ∀ y ∈ ps.zip us, scope.names.lookup y.1 = some .local ∨ (scope.names.lookup y.1 = some .cell ∧ ((cellsFrom (s.heap.objs.size + 1) scope.names []).lookup y.1).isSome = true) := fun ⟨n, v⟩ hy => by
    rcases S.par n (List.of_mem_zip hy).1 with q | q
    · exact .inl q
    · exact .inr ⟨q, PySem.W.cellsFrom_some _ _ _ (.inl q)⟩
  refine codeAny_call_function hr.depth (KX _ _ lk) rfl S.co S.gen rfl (PySem.W.codeRec_of KX hcd) (hb _ _ _ _ ?_)
  refine wpAny_newFunctionEnv_cells S.kind hkind fun env he s1 x => ?_
  subst he
  refine ⟨lim.keeps x.toInCall.keep, codeAny_func ?_⟩
  obtain ⟨t, ht, hq⟩ := hbody A outer s H vs Q E (hr.deeper _) hsp
  have I : Inv (cxOf CX P w K mg base N qual scope f cdv A outer s H E) [] (start N vs) H s1 := inv_start S hr.hd e0 hl r x
  refine wpAny_mono (ht [] s1 (start N vs) H _ I hq) (fun fl s' hs => ?_) fun e s' hs => hs
  have fin : ∀ {σ' : St} {H' : Hp} {v : V} {u : Value}, Inv (cxOf CX P w K mg base N qual scope f cdv A outer s H E) [] σ' H' s' → RelV v u → Q v H' → CE outer P w H s Q u s' :=
    fun {σ' H' v u} J rv q => ⟨v, H', J.os, J.bare, J.base, J.hok, rv, q⟩
  cases fl with
  | ret u =>
    obtain ⟨v, σ', H', J, rv, q⟩ := hs
    exact fin J rv q
  | next =>
    obtain ⟨σ', H', J, q⟩ := hs
    exact fin (v := V.non) (u := Value.none) J rfl q
  | brk =>
    obtain ⟨_, _, _, q⟩ := hs
    exact False.elim q
  | cont =>
    obtain ⟨_, _, _, q⟩ := hs
    exact False.elim q
end L2
namespace L2
open PySem PySem.Spec PyProof.Rows
section
variable {X : Cx} {x : Str} {p pos : Pos} {e : Expr} {es : List Expr} {t : TA} {id T : String} {r : List V → Hp → VK → Prop}
def tCB (r : List V → Hp → VK → Prop) (t : TA) : TE := fun σ H Q => t σ H fun vs H1 => r vs H1 Q
theorem pe_callB (hc : CallR X (.builtin id) r) (hg : Gl X x) (hm : X.mg x = none) (hv : bootBuiltins x = some (.builtin id)) (ha : PA X (e :: es) t) (hn : x ≠ "__name__" := by decide) (hdb : (x == ("__debug__" : Str)) = false := by decide)
    (he : starEach (e :: es) X.env = (false, eval e X.env) :: starEach es X.env := by rfl) (hpl : (backTo pos (starEach es X.env)).any (·.1) = false := by rfl) : PE X (.Call (.Name x p) (e :: es) [] pos) (tCB r t) := by
  intro pins s σ H Q I h
  refine wpAny_Call_Name_kw (ld_blt I hg hm hv ?_ hn hdb)
  exact PyProof.Rows.callWith_builtin1 (thn (ha pos pins s σ H _ I h) fun us s1 ⟨vs, H1, I1, r1, q1⟩ => hc pins s1 σ H1 vs us Q I1 r1 q1) he hpl
theorem pe_callTy (hc : CallR X (.type T) r) (hg : Gl X x) (hm : X.mg x = none) (hv : bootBuiltins x = some (.type T)) (ha : PA X (e :: es) t) (hn : x ≠ "__name__" := by decide) (hdb : (x == ("__debug__" : Str)) = false := by decide)
    (he : starEach (e :: es) X.env = (false, eval e X.env) :: starEach es X.env := by rfl) (hpl : (backTo pos (starEach es X.env)).any (·.1) = false := by rfl) : PE X (.Call (.Name x p) (e :: es) [] pos) (tCB r t) := by
  intro pins s σ H Q I h
  refine wpAny_Call_Name_kw (ld_blt I hg hm hv ?_ hn hdb)
  exact PyProof.Rows.callWith_type1 (thn (ha pos pins s σ H _ I h) fun us s1 ⟨vs, H1, I1, r1, q1⟩ => hc pins s1 σ H1 vs us Q I1 r1 q1) he hpl
end
end L2
namespace HT
open PySem PyProof.Rows
section
open PySem.SeqAt
open PySem.AutoSeq1 (wpAny_loadPart')
open PySem.MeetsSeq PySem.MeetsSeq2 PySem.MeetsSeq3
end
section
variable {prog : Program} {w : World} {A : Around} {E : Value → Shared → Prop} {s : Shared}
theorem cat_tup {t b : Addr} {vs ws : List Value} {Q : Value → Shared → Prop} (ht : IsTup s.heap t vs.toArray) (hb : IsTup s.heap b ws.toArray) (hv : vs ≠ [])
    (h1 : ws = [] → Q (.ref t) s) (h2 : ws ≠ [] → Q (.ref s.heap.objs.size) { s with heap := s.heap.push { cls := .type "tuple", data := .seq (vs ++ ws).toArray } })
    (hsz : vs.length + ws.length ≤ sizeLine) : wpAny (model prog w) A (binaryOp .Add (.ref t) (.ref b)) Q E s := by
  obtain ⟨⟨cls, dd, data, sl⟩, ho, hc, n, hd⟩ := id ht
  obtain ⟨⟨cls2, dd2, data2, sl2⟩, ho2, hc2, n2, hd2⟩ := id hb
  simp only at hc hd hc2 hd2
  subst hc hd hc2 hd2
  have e : vs.toArray ++ ws.toArray = (vs ++ ws).toArray := by simp
  by_cases hw : ws = []
  · exact concat_meets ⟨_, ho, rfl⟩ ⟨_, ho2, rfl⟩ noFill_tuple_add seq_tuple_add PySem.F.slot_tuple_add PySem.F.entry_tuple_add (PySem.F.args_tuple_add_2 _ _)
      (tuple_addW1 t b vs.toArray ws.toArray n n2 dd dd2 sl sl2 (by simpa using hv) (by simp [hw])) ⟨ho, ho2, h1 hw⟩
  · refine concat_meets ⟨_, ho, rfl⟩ ⟨_, ho2, rfl⟩ noFill_tuple_add seq_tuple_add PySem.F.slot_tuple_add PySem.F.entry_tuple_add (PySem.F.args_tuple_add_2 _ _)
      (tuple_addW2 t b vs.toArray ws.toArray n n2 dd dd2 sl sl2 (by simpa using hv) (by simpa using hw) (by rw [List.size_toArray, List.size_toArray]; exact hsz)) ⟨ho, ho2, ?_⟩
    rw [e]
    exact h2 hw
def sIx (n d : Nat) : Option Int → Nat
  | none => d
  | some v => if v < 0 then (v + (n : Int)).toNat else min v.toNat n
theorem sIx_none (n d : Nat) : sIx n d none = d := rfl
theorem sIx_le (n d : Nat) (hd : d ≤ n) (o : Option Int) : sIx n d o ≤ n := by
  cases o with
  | none => exact hd
  | some v =>
    show (if v < 0 then (v + (n : Int)).toNat else min v.toNat n) ≤ n
    by_cases hv : v < 0
    · rw [if_pos hv]; omega
    · rw [if_neg hv]; exact Nat.min_le_right _ _
theorem clip_eq (v : Int) (n d : Nat) : (if v < 0 then max (v + (n : Int)) 0 else min v (n : Int)) = ((sIx n d (some v) : Nat) : Int) := by
  show (if v < 0 then max (v + (n : Int)) 0 else min v (n : Int)) = (((if v < 0 then (v + (n : Int)).toNat else min v.toNat n) : Nat) : Int)
  by_cases hv : v < 0
  · simp only [if_pos hv]; omega
  · simp only [if_neg hv]; omega
theorem adjust_gen (lo hi : Option Int) (n : Nat) : Builtin.Slice.sliceAdjust lo hi 1 (n : Int) = (((sIx n 0 lo : Nat) : Int), ((sIx n n hi : Nat) : Int)) := by
  have h1 : ¬ ((1 : Int) < 0) := by omega
  unfold Builtin.Slice.sliceAdjust
  simp only [h1, if_false]
  refine Prod.ext ?_ ?_
  · cases lo with
    | none => rfl
    | some v => exact clip_eq v n 0
  · cases hi with
    | none => rfl
    | some v => exact clip_eq v n n
theorem places_gen (i j : Nat) : Builtin.Slice.slicePlaces (i : Int) (j : Int) 1 = j - i := by
  unfold Builtin.Slice.slicePlaces
  have h1 : (1 : Int) > 0 := by omega
  simp only [h1, if_true, Int.ediv_one]
  split <;> omega
theorem slicePart_ {v : Value} {o : Option Int} {Q : Option Int → Shared → Prop} (p : IsPart v o) (h : Q o s) : wpAny (model prog w) A (Builtin.Slice.slicePartIndex v) Q E s := by
  cases p with
  | none => exact slicePart_none h
  | int i t => exact slicePart_int h
theorem sliceApplied_gen {sl : Addr} {vl vu : Value} {lo hi : Option Int} {n : Nat} {Q : Int × Int × Nat → Shared → Prop} (hs : s.heap.IsSliceOf sl vl vu .none) (pl : IsPart vl lo) (pu : IsPart vu hi)
    (h : Q (((sIx n 0 lo : Nat) : Int), 1, sIx n n hi - sIx n 0 lo) s) : wpAny (model prog w) A (Builtin.Slice.sliceApplied (.ref sl) (pure (n : Int))) Q E s := by
  obtain ⟨os, hos, hcs, hds⟩ := id hs
  unfold Builtin.Slice.sliceApplied Builtin.Slice.sliceFields
  refine wpAny_bind (wpAny_bind (wpAny_field hos hds (x := vl) rfl (wpAny_bind (wpAny_field hos hds (x := vu) rfl (wpAny_bind (wpAny_field hos hds (x := .none) rfl (wpAny_pure ?_)))))))
  refine wpAny_bind (slicePart_none ?_)
  show wpAny _ _ (if ((1 : Int) == 0) = true then _ else _) _ _ s
  rw [if_neg (by decide)]
  refine wpAny_bind (slicePart_ pl (wpAny_bind (slicePart_ pu (wpAny_bind (wpAny_pure ?_)))))
  show wpAny _ _ (match Builtin.Slice.sliceAdjust lo hi 1 (n : Int) with | (lo, hi) => pure (lo, (1 : Int), Builtin.Slice.slicePlaces lo hi 1)) _ _ s
  rw [adjust_gen lo hi n]
  show wpAny _ _ (pure (((sIx n 0 lo : Nat) : Int), (1 : Int), Builtin.Slice.slicePlaces ((sIx n 0 lo : Nat) : Int) ((sIx n n hi : Nat) : Int) 1)) _ _ s
  rw [places_gen]
  exact wpAny_pure h
theorem pick_gen (xs : Array Value) (i k : Nat) : ((List.range k).filterMap fun (m : Nat) => xs[((i : Int) + (m : Int) * 1).toNat]?).toArray = ((xs.toList.drop i).take k).toArray := by
  have e : (fun (m : Nat) => xs[((i : Int) + (m : Int) * 1).toNat]?) = fun m => xs[i + m]? := by
    funext m
    have : ((i : Int) + (m : Int) * 1).toNat = i + m := by omega
    rw [this]
  rw [e]
  have := pick_run xs i k
  rw [List.filterMap_map] at this
  have e2 : ((fun x => xs[x]?) ∘ fun x => i + x) = fun m => xs[i + m]? := rfl
  rw [e2] at this
  rw [this]
theorem getItem_tuple_cut {t sl : Addr} {items : Array Value} {vl vu : Value} {lo hi : Option Int} {Q : Value → Shared → Prop} (ht : IsTup s.heap t items) (hs : s.heap.IsSliceOf sl vl vu .none) (pl : IsPart vl lo) (pu : IsPart vu hi)
    (hw : ¬ (sIx items.size 0 lo = 0 ∧ sIx items.size items.size hi = items.size))
    (h : Q (.ref s.heap.objs.size) { s with heap := s.heap.push { cls := .type "tuple", data := .seq ((items.toList.drop (sIx items.size 0 lo)).take (sIx items.size items.size hi - sIx items.size 0 lo)).toArray } })
    (hsz : items.size ≤ sizeLine) : wpAny (model prog w) A (getItem (.ref t) (.ref sl)) Q E s := by
  have htake : sizeOk (.seq ((items.toList.drop (sIx items.size 0 lo)).take (sIx items.size items.size hi - sIx items.size 0 lo)).toArray) := by
    show ((items.toList.drop (sIx items.size 0 lo)).take (sIx items.size items.size hi - sIx items.size 0 lo)).toArray.size ≤ sizeLine
    rw [List.size_toArray, List.length_take, List.length_drop, Array.length_toList]
    omega
  have hj : sIx items.size items.size hi ≤ items.size := sIx_le _ _ (Nat.le_refl _) hi
  obtain ⟨os, hos, hcs, hds⟩ := id hs
  have hTs : s.TypeIs (.ref sl) "slice" := ⟨os, hos, hcs⟩
  unfold getItem
  try with_reducible refine wpAny_holding ?_
  first | refine wpAny_bind (wpAny_pure ?_) | skip
  refine wpAny_bind (wpAny_sequenceKey ht.typeIs (by decide) ?_)
  refine wpAny_bind (wpAny_callSpecial?_slot (name := Str.ofString "__getitem__") ht.typeIs PyProof.Rows.slot_tuple_getitem
    (wpAny_call_entry PyProof.Rows.slot_tuple_getitem ht.typeIs entry_tuple_getitem ?_ (args_tuple_getitem _ _)))
  show wpAny _ _ (Builtin.Tuple.tupleItemsOf (.ref t) >>= _) _ _ s
  refine wpAny_bind (tupleItemsOf_ ht ?_)
  refine wpAny_bind (wpAny_typeOf hTs ?_)
  rw [if_pos (by decide)]
  refine wpAny_bind (sliceApplied_gen hs pl pu ?_)
  have hno : ¬ ((((sIx items.size 0 lo : Nat) : Int) == 0 && (1 : Int) == 1 && (sIx items.size items.size hi - sIx items.size 0 lo) == items.size) = true) := by
    intro q
    rw [Bool.and_eq_true, Bool.and_eq_true] at q
    have q1 : ((sIx items.size 0 lo : Nat) : Int) = 0 := eq_of_beq q.1.1
    have q2 : sIx items.size items.size hi - sIx items.size 0 lo = items.size := eq_of_beq q.2
    exact hw ⟨by omega, by omega⟩
  show wpAny _ _ (if (((sIx items.size 0 lo : Nat) : Int) == 0 && (1 : Int) == 1 && (sIx items.size items.size hi - sIx items.size 0 lo) == items.size) = true then _ else _) _ _ s
  rw [if_neg hno, pick_gen]
  first
    | exact wpAny_bind (m := Builtin.Tuple.tupleExact _) (wpAny_newObj_type (wpAny_pure ⟨_, rfl, wpAny_pure h⟩) htake)
    | exact wpAny_bind (m := Builtin.Tuple.tupleExact _) (wpAny_newObj_type (wpAny_bind (wpAny_pure (wpAny_pure ⟨_, rfl, wpAny_pure h⟩))) htake)
    | exact wpAny_bind (wpAny_bind (m := Builtin.Tuple.tupleExact _) (wpAny_newObj_type (wpAny_pure (wpAny_pure ⟨_, rfl, wpAny_pure h⟩)) htake))
    | exact wpAny_bind (wpAny_bind (m := Builtin.Tuple.tupleExact _) (wpAny_newObj_type (wpAny_pure ⟨_, rfl, wpAny_pure h⟩) htake))
end
end HT
namespace L2
open PySem PySem.Spec PyProof.Rows
abbrev TO := St → Hp → (Option Int → Hp → Prop) → Prop
def PO (X : Cx) (e : Option Expr) (t : TO) : Prop :=
  ∀ (pins : List (Addr × Obj)) (s : Shared) (σ : St) (H : Hp) (Q : Option Int → Hp → Prop), Inv X pins σ H s → t σ H Q →
    wpAny (model X.prog X.w) X.A (evalPart e X.env) (fun u s' => ∃ o H', Inv X pins σ H' s' ∧ IsPart u o ∧ Q o H') X.xe s
def tNoPart : TO := fun _ H Q => Q none H
def tPart (t : TE) : TO := fun σ H Q => t σ H fun x H1 => ∃ i, x = .int i ∧ Q (some i) H1
theorem intsAre_of {ns : List Int} : ∀ {us : List Value}, Vals (ns.map V.int) us → IntsAre us ns := by
  induction ns with
  | nil => intro us r; rw [List.map_nil] at r; cases r; exact .nil
  | cons n ns ih =>
    intro us r
    rw [List.map_cons] at r
    cases r with
    | cons r1 r2 =>
      obtain ⟨t, e⟩ := r1
      subst e
      exact .cons n t (ih r2)
section
variable {X : Cx} {e : Expr} {te : TE} {lo hi : Option Expr} {tl th : TO} {pos p2 : Pos}
theorem po_none : PO X none tNoPart := by
  intro pins s σ H Q I h
  rw [evalPart_none]
  exact wpAny_pure ⟨none, H, I, .none, h⟩
theorem po_some (h : PE X e te) : PO X (some e) (tPart te) := by
  intro pins s σ H Q I hw
  rw [evalPart_some]
  refine thn (h pins s σ H _ I hw) fun u s1 ⟨x, H1, I1, r1, q1⟩ => ?_
  obtain ⟨i, rfl, q⟩ := q1
  obtain ⟨t, rfl⟩ := r1
  exact ⟨some i, H1, I1, .int i t, q⟩
def SlR (X : Cx) (r : V → Option Int → Option Int → Hp → VK → Prop) : Prop :=
  ∀ (pins : List (Addr × Obj)) (s : Shared) (σ : St) (H : Hp) (x : V) (v vl vu : Value) (lo hi : Option Int) (sl : Addr) (Q : VK), Inv X pins σ H s → RelV x v → s.heap.IsSliceOf sl vl vu .none → IsPart vl lo → IsPart vu hi → r x lo hi H Q →
    ∃ T id, typeLookup (.type T) "__getitem__" = pure (some (.builtin id)) ∧ s.TypeIs v T ∧ wpAny (model X.prog X.w) X.A (getItem v (.ref sl)) (EP X pins σ Q) X.xe s
def tSl (r : V → Option Int → Option Int → Hp → VK → Prop) (te : TE) (tl th : TO) : TE := fun σ H Q => te σ H fun x H1 => tl σ H1 fun l H2 => th σ H2 fun u H3 => r x l u H3 Q
theorem pe_slice {r : V → Option Int → Option Int → Hp → VK → Prop} (hr : SlR X r) (he : PE X e te) (hl : PO X lo tl) (hu : PO X hi th) : PE X (.Subscript e (.Slice lo hi none p2) pos) (tSl r te tl th) := by
  intro pins s σ H Q I h
  refine Subscript_ (thn (he pins s σ H _ I h) fun v s1 ⟨x, H1, I1, r1, q1⟩ => ?_)
  refine wpAny_Slice (thn (hl pins s1 σ H1 _ I1 q1) fun vl s2 ⟨l, H2, I2, pl, q2⟩ => thn (hu pins s2 σ H2 _ I2 q2) fun vu s3 ⟨u, H3, I3, pu, q3⟩ => ?_)
  rw [evalPart_none]
  refine wpAny_pure ?_
  have I4 : Inv X pins σ H3 { s3 with heap := s3.heap.push { cls := .type "slice", data := .fields #[vl, vu, .none] } } := I3.kept (t' := s3.toks) fun b ob q => Heap.get?_push_of_some _ q
  obtain ⟨T, id, hT, ht, hg⟩ := hr pins { s3 with heap := s3.heap.push { cls := .type "slice", data := .fields #[vl, vu, .none] } } σ H3 x v vl vu l u s3.heap.objs.size Q I4 r1 (Heap.IsSliceOf.new ..) pl pu q3
  show wpAny (model X.prog X.w) X.A (subscriptTail e (.Slice lo hi none p2) v (.ref s3.heap.objs.size)) (EP X pins σ Q) X.xe { s3 with heap := s3.heap.push { cls := .type "slice", data := .fields #[vl, vu, .none] } }
  exact tail_any (ops := [.ref s3.heap.objs.size, v]) ht hT hg (by with_unfolding_all rfl)
def cutV (xs : List V) (lo hi : Option Int) : List V := (xs.drop (HT.sIx xs.length 0 lo)).take (HT.sIx xs.length xs.length hi - HT.sIx xs.length 0 lo)
theorem cutV_length (xs : List V) (lo hi : Option Int) : (cutV xs lo hi).length ≤ xs.length := by
  unfold cutV
  rw [List.length_take, List.length_drop]
  omega
def rSlT (K : PySem.W.Frag) : V → Option Int → Option Int → Hp → VK → Prop := fun x lo hi H Q => ∃ a xs, x = .ref a ∧ SqT K H a xs ∧
  ¬ (HT.sIx xs.length 0 lo = 0 ∧ HT.sIx xs.length xs.length hi = xs.length) ∧ ∀ p, H p = none → Q (.ref p) (upd H p (.tup (cutV xs lo hi)))
theorem sl_tup : SlR X (rSlT X.K) := by
  intro pins s σ H x v vl vu lo hi sl Q I rx hs pl pu h
  obtain ⟨a, xs, rfl, hx, hw, q⟩ := h
  cases rx
  obtain ⟨its, r, ht, hz⟩ := I.tuple hx
  have hlen : its.toArray.size = xs.length := by rw [List.size_toArray]; exact r.length.symm
  refine ⟨"tuple", _, PyProof.Rows.slot_tuple_getitem.lookup, ht.typeIs, ?_⟩
  refine HT.getItem_tuple_cut ht hs pl pu (by rw [hlen]; exact hw) ?_ (by rw [hlen]; exact hz)
  rw [hlen]
  refine ⟨.ref s.heap.objs.size, _, I.laid (t' := s.toks) (o := .tup (cutV xs lo hi)) (fun b ob q => Heap.get?_push_of_some _ q) (Nat.le_refl _) ?_, rfl, q _ (I.hok.fresh (Nat.le_refl _))⟩
  exact ⟨Nat.le_trans (cutV_length xs lo hi) hz, _, (r.drop (HT.sIx xs.length 0 lo)).take (HT.sIx xs.length xs.length hi - HT.sIx xs.length 0 lo), IsTup.new _ _⟩
def rCatT (K : PySem.W.Frag) : R2 := fun x y H Q => ∃ a b xs ys, x = .ref a ∧ y = .ref b ∧ SqT K H a xs ∧ SqT K H b ys ∧ xs ≠ [] ∧ xs.length + ys.length ≤ sizeLine ∧
  (ys = [] → Q (.ref a) H) ∧ (ys ≠ [] → ∀ p, H p = none → Q (.ref p) (upd H p (.tup (xs ++ ys))))
theorem Vals.nil_iff {xs : List V} {us : List Value} (r : Vals xs us) : us = [] ↔ xs = [] := by
  cases r with
  | nil => simp
  | cons _ _ => simp
theorem op_catT : OpR X (binaryOp .Add) (rCatT X.K) := by
  intro pins s σ H x y v u Q I rx ry h
  obtain ⟨a, b, xs, ys, rfl, rfl, ha, hb, hx, hz, q1, q2⟩ := h
  cases rx
  cases ry
  obtain ⟨its, r1, p1, _⟩ := I.tuple ha
  obtain ⟨its2, r2, p2, _⟩ := I.tuple hb
  refine HT.cat_tup p1 p2 (fun z => hx (r1.nil_iff.mp z)) (fun z => ⟨.ref a, H, I, rfl, q1 (r2.nil_iff.mp z)⟩) (fun z => ?_) (by rw [← r1.length, ← r2.length]; exact hz)
  refine ⟨.ref s.heap.objs.size, _, I.laid (t' := s.toks) (o := .tup (xs ++ ys)) (fun b ob q => Heap.get?_push_of_some _ q) (Nat.le_refl _) ?_, rfl, q2 (fun w => z (r2.nil_iff.mpr w)) _ (I.hok.fresh (Nat.le_refl _))⟩
  exact ⟨by rw [List.length_append]; exact hz, _, r1.append r2, IsTup.new _ _⟩
end
end L2
namespace L2
open PySem PySem.Spec PyProof.Rows
def ixN (n : Nat) (i : Int) : Option Nat := if 0 ≤ i then (if i < n then some i.toNat else none) else if -(n : Int) ≤ i then some (i + n).toNat else none
def atI {α : Type} (xs : List α) (i : Int) : Option α := (ixN xs.length i).bind fun j => xs[j]?
theorem ixN_seq {n : Nat} {i : Int} {j : Nat} (h : ixN n i = some j) : seqIndex? i n = some j ∧ j < n ∧ -(n : Int) ≤ i ∧ i < n := by
  unfold ixN at h
  by_cases h0 : 0 ≤ i
  · rw [if_pos h0] at h
    by_cases h1 : i < n
    · rw [if_pos h1] at h
      have e : i.toNat = j := Option.some.inj h
      exact ⟨by rw [seqIndex_of h0 h1, e], by omega, by omega, h1⟩
    · rw [if_neg h1] at h; cases h
  · rw [if_neg h0] at h
    by_cases h1 : -(n : Int) ≤ i
    · rw [if_pos h1] at h
      have e : (i + n).toNat = j := Option.some.inj h
      exact ⟨by rw [seqIndex_neg (by omega) h1, e], by omega, h1, by omega⟩
    · rw [if_neg h1] at h; cases h
theorem atI_get {α : Type} {xs : List α} {i : Int} {v : α} (h : atI xs i = some v) : ∃ j, seqIndex? i xs.length = some j ∧ xs[j]? = some v ∧ j < xs.length ∧ -(xs.length : Int) ≤ i ∧ i < xs.length := by
  unfold atI at h
  cases e : ixN xs.length i with
  | none => rw [e] at h; cases h
  | some j =>
    rw [e] at h
    obtain ⟨h1, h2, h3, h4⟩ := ixN_seq e
    exact ⟨j, h1, h, h2, h3, h4⟩
theorem atI_nat {α : Type} {xs : List α} {j : Nat} {v : α} (h : xs[j]? = some v) : atI xs (j : Int) = some v := by
  have hj : j < xs.length := (List.getElem?_eq_some_iff.mp h).1
  have e : ixN xs.length (j : Int) = some j := by
    unfold ixN
    rw [if_pos (by omega), if_pos (by omega)]; simp
  unfold atI; rw [e]; exact h
def PlainIx (b : Expr) : Prop := ∀ o i, subscripted b false o i = operate [o, i] (getItem o i)
def IxR (X : Cx) (r : R2) : Prop :=
  ∀ (value slice : Expr) (pins : List (Addr × Obj)) (s : Shared) (σ : St) (H : Hp) (x y : V) (v u : Value) (Q : VK), Inv X pins σ H s → RelV x v → RelV y u → r x y H Q →
    subscripted slice false v u = operate [v, u] (getItem v u) → wpAny (model X.prog X.w) X.A (subscriptTail value slice v u) (EP X pins σ Q) X.xe s
def MtR (X : Cx) (id : String) (r : V → List V → Hp → VK → Prop) : Prop :=
  ∀ (pins : List (Addr × Obj)) (s : Shared) (σ : St) (H : Hp) (x : V) (xs : List V) (v : Value) (us : List Value) (Q : VK), Inv X pins σ H s → RelV x v → Vals xs us → r x xs H Q →
    wpAny (model X.prog X.w) X.A (call (.builtin id) (v :: us)) (EP X pins σ Q) X.xe s
section
variable {X : Cx} {a b : Expr} {ta tb : TE} {pos : Pos}
theorem pe_ix {r : R2} (hr : IxR X r) (ha : PE X a ta) (hb : PE X b tb) (hs : PlainIx b) : PE X (.Subscript a b pos) (tOp r ta tb) := by
  intro pins s σ H Q I h
  exact Subscript_ (binT ha hb I h fun v u s2 x y H2 I2 rx ry q => hr a b pins s2 σ H2 x y v u Q I2 rx ry q (hs _ _))
def rIxL (K : PySem.W.Frag) : R2 := fun x y H Q => ∃ p xs i v, x = .ref p ∧ y = .int i ∧ SqL K H p xs ∧ atI xs i = some v ∧ Q v H
def rIxT (K : PySem.W.Frag) : R2 := fun x y H Q => ∃ p xs i v, x = .ref p ∧ y = .int i ∧ SqT K H p xs ∧ atI xs i = some v ∧ Q v H
theorem ix_list : IxR X (rIxL X.K) := by
  intro value slice pins s σ H x y v u Q I rx ry h hs
  obtain ⟨p, xs, i, z, rfl, rfl, hq, he, q⟩ := h
  cases rx
  obtain ⟨t, rfl⟩ := ry
  obtain ⟨its, r, pl, hz⟩ := I.list hq
  obtain ⟨j, h1, h2, h3, h4, h5⟩ := atI_get he
  obtain ⟨w, ew, rw'⟩ := r.get h2
  have hl := r.length
  have hn := line63
  have fin : EP X pins σ Q w s := ⟨z, H, I, rw', q⟩
  by_cases h0 : 0 ≤ i
  · have hj : i.toNat = j := by
      rw [seqIndex_of h0 h5] at h1
      exact Option.some.inj h1
    exact item_listR pl.isList h0 (by omega) (by rw [hj]; simpa using ew) fin hs
  · have hj : (i + (its.toArray.size : Int)).toNat = j := by
      rw [seqIndex_neg (by omega) h4] at h1
      rw [List.size_toArray, ← hl]
      exact Option.some.inj h1
    exact subscriptTail_builtinR (x := w) pl.isList.typeIs slot_list_getitem.lookup
      (wpAny_getItem_list_neg (Q := fun r s' => r = w ∧ EP X pins σ Q r s') pl.isList (by omega) (by rw [List.size_toArray] <;> omega) (by omega) (by rw [hj]; simpa using ew) ⟨rfl, fin⟩) hs
theorem ix_tup : IxR X (rIxT X.K) := by
  intro value slice pins s σ H x y v u Q I rx ry h hs
  obtain ⟨p, xs, i, z, rfl, rfl, hq, he, q⟩ := h
  cases rx
  obtain ⟨t, rfl⟩ := ry
  obtain ⟨its, r, pl, hz⟩ := I.tuple hq
  obtain ⟨j, h1, h2, h3, h4, h5⟩ := atI_get he
  obtain ⟨w, ew, rw'⟩ := r.get h2
  have hl := r.length
  have hn := line63
  have fin : EP X pins σ Q w s := ⟨z, H, I, rw', q⟩
  exact subscriptTail_builtinR (x := w) pl.typeIs slot_tuple_getitem.lookup
    (getItem_tuple (j := j) (Q := fun r s' => r = w ∧ EP X pins σ Q r s') pl (by omega) (by omega) (by rw [List.size_toArray, ← hl]; exact h1) (by simpa using ew) ⟨rfl, fin⟩) hs
theorem Inv.lst {pins : List (Addr × Obj)} {σ : St} {H : Hp} {s : Shared} {p : Addr} {xs : List V} (I : Inv X pins σ H s) (h : H p = some (.lst xs)) :
    ∃ (its : List Value) (n : Nat), Vals xs its ∧ s.heap.get? p = some { cls := .type "list", data := .seq its.toArray n } ∧ xs.length ≤ sizeLine := by
  obtain ⟨z, its, n, r, e⟩ := I.hok p _ h
  exact ⟨its, n, r, e, z⟩
theorem slice_bounds (lo hi : Option Int) (n : Nat) : (sliceBounds lo hi none n).1 = ((HT.sIx n 0 lo : Nat) : Int) ∧ (sliceBounds lo hi none n).2.1 = ((HT.sIx n n hi : Nat) : Int) ∧ (sliceBounds lo hi none n).2.2 = 1 := by
  refine ⟨?_, ?_, rfl⟩
  · cases lo with
    | none => simp [sliceBounds, HT.sIx]
    | some i =>
      simp only [sliceBounds, HT.sIx, Option.getD_none, show (1 : Int) > 0 by decide, if_true]
      by_cases h : i < 0
      · simp only [h, if_true] <;> omega
      · simp only [h, if_false] <;> omega
  · cases hi with
    | none => simp [sliceBounds, HT.sIx]
    | some i =>
      simp only [sliceBounds, HT.sIx, Option.getD_none, show (1 : Int) > 0 by decide, if_true]
      by_cases h : i < 0
      · simp only [h, if_true] <;> omega
      · simp only [h, if_false] <;> omega
theorem slicePick_cut (its : List Value) (lo hi : Option Int) : slicePick its.toArray lo hi none = ((its.drop (HT.sIx its.length 0 lo)).take (HT.sIx its.length its.length hi - HT.sIx its.length 0 lo)).toArray := by
  obtain ⟨h1, h2, h3⟩ := slice_bounds lo hi its.toArray.size
  unfold slicePick
  rw [h1, h2, h3]
  simp only [sliceRange_one, pick_run, List.size_toArray] <;> rfl
def rSlL (K : PySem.W.Frag) : V → Option Int → Option Int → Hp → VK → Prop := fun x lo hi H Q => ∃ a xs, x = .ref a ∧ SqL K H a xs ∧ ∀ p, H p = none → Q (.ref p) (upd H p (.lst (cutV xs lo hi)))
theorem sl_list : SlR X (rSlL X.K) := by
  intro pins s σ H x v vl vu lo hi sl Q I rx hs pl pu h
  obtain ⟨a, xs, rfl, hx, q⟩ := h
  cases rx
  obtain ⟨its, r, ht, hz⟩ := I.list hx
  have hlen := r.length
  refine ⟨"list", _, slot_list_getitem.lookup, ht.isList.typeIs, ?_⟩
  refine wpAny_getItem_list_slice ht.isList hs pl pu .none (by simp) ?_ (by rw [List.size_toArray] <;> omega)
  rw [slicePick_cut, ← hlen]
  refine ⟨.ref s.heap.objs.size, _, I.laid (t' := s.toks) (o := .lst (cutV xs lo hi)) (fun b ob q => Heap.get?_push_of_some _ q) (Nat.le_refl _) ?_, rfl, q _ (I.hok.fresh (Nat.le_refl _))⟩
  exact ⟨Nat.le_trans (cutV_length xs lo hi) hz, _, 0, (r.drop (HT.sIx xs.length 0 lo)).take (HT.sIx xs.length xs.length hi - HT.sIx xs.length 0 lo), Heap.get?_push_size _ rfl⟩
def flatV : V → Bool
  | .non => true
  | .bl _ => true
  | .int _ => true
  | .str _ => true
  | _ => false
def eqV : V → V → Bool
  | .non, .non => true
  | .bl a, .bl b => a == b
  | .bl a, .int b => (if a then 1 else 0) == b
  | .int a, .bl b => a == (if b then 1 else 0)
  | .int a, .int b => a == b
  | .str a, .str b => a == b
  | _, _ => false
theorem eqAt_V {A : Around} {s : Shared} {y x : V} {u v : Value} (ry : RelV y u) (rx : RelV x v) (fy : flatV y = true) (fx : flatV x = true) : SeqAt.EqAt A s u v (eqV y x) := by
  cases y with
  | non =>
    cases ry
    cases x with
    | non => cases rx; exact SeqAt.EqAt.same _
    | bl b => cases rx; exact SeqAt.EqAt.none_bool b
    | int b => obtain ⟨t, rfl⟩ := rx; exact SeqAt.EqAt.none_int b t
    | str b => obtain ⟨t, rfl⟩ := rx; exact SeqAt.EqAt.none_str b t
    | _ => exact absurd (show false = true from fx) Bool.false_ne_true
  | bl a =>
    cases ry
    cases x with
    | non => cases rx; exact SeqAt.EqAt.bool_none a
    | bl b => cases rx; exact SeqAt.EqAt.bool_bool a b
    | int b => obtain ⟨t, rfl⟩ := rx; exact SeqAt.EqAt.bool_int a b t
    | str b => obtain ⟨t, rfl⟩ := rx; exact SeqAt.EqAt.bool_str a b t
    | _ => exact absurd (show false = true from fx) Bool.false_ne_true
  | int a =>
    obtain ⟨t', rfl⟩ := ry
    cases x with
    | non => cases rx; exact SeqAt.EqAt.int_none a t'
    | bl b => cases rx; exact SeqAt.EqAt.int_bool a t' b
    | int b => obtain ⟨t, rfl⟩ := rx; exact SeqAt.EqAt.int_int a t' b t
    | str b => obtain ⟨t, rfl⟩ := rx; exact SeqAt.EqAt.int_str a t' b t
    | _ => exact absurd (show false = true from fx) Bool.false_ne_true
  | str a =>
    obtain ⟨t', rfl⟩ := ry
    cases x with
    | non => cases rx; exact SeqAt.EqAt.str_none a t'
    | bl b => cases rx; exact SeqAt.EqAt.str_bool a t' b
    | int b => obtain ⟨t, rfl⟩ := rx; exact SeqAt.EqAt.str_int a t' b t
    | str b => obtain ⟨t, rfl⟩ := rx; exact SeqAt.EqAt.str_str a t' b t
    | _ => exact absurd (show false = true from fx) Bool.false_ne_true
  | _ => exact absurd (show false = true from fy) Bool.false_ne_true
def eqU (x : V) (u : Value) : Bool := match u with
  | .none => eqV .non x
  | .bool b => eqV (.bl b) x
  | .int i _ => eqV (.int i) x
  | .str z _ => eqV (.str z) x
  | _ => false
theorem eqU_of {x y : V} {u : Value} (r : RelV y u) (f : flatV y = true) : eqU x u = eqV y x := by
  cases y with
  | non => cases r; rfl
  | bl b => cases r; rfl
  | int i => obtain ⟨t, rfl⟩ := r; rfl
  | str z => obtain ⟨t, rfl⟩ := r; rfl
  | _ => exact absurd (show false = true from f) Bool.false_ne_true
theorem any_eqU {x : V} : ∀ {xs : List V} {us : List Value}, Vals xs us → xs.all flatV = true → us.any (eqU x) = xs.any fun y => eqV y x
  | _, _, .nil, _ => rfl
  | y :: xs, u :: us, .cons r t, f => by
    rw [List.all_cons, Bool.and_eq_true] at f
    rw [List.any_cons, List.any_cons, eqU_of r f.1, any_eqU t f.2]
theorem mem_eqAt {A : Around} {s : Shared} {x : V} {v : Value} (rx : RelV x v) (fx : flatV x = true) : ∀ {xs : List V} {us : List Value}, Vals xs us → xs.all flatV = true → ∀ u ∈ us, SeqAt.EqAt A s u v (eqU x u)
  | _, _, .nil, _ => fun u hu => by cases hu
  | y :: xs, u :: us, .cons r t, f => fun u' hu => by
    rw [List.all_cons, Bool.and_eq_true] at f
    rcases List.mem_cons.mp hu with rfl | hu
    · rw [eqU_of r f.1]; exact eqAt_V r rx f.1 fx
    · exact mem_eqAt rx fx t f.2 u' hu
def inV (x : V) (xs : List V) : Bool := xs.any fun y => eqV y x
def rIn (K : PySem.W.Frag) (neg : Bool) : R2 := fun x y H Q => ∃ p xs, y = .ref p ∧ (SqL K H p xs ∨ SqT K H p xs) ∧ flatV x = true ∧ xs.all flatV = true ∧ Q (.bl (if neg then !inV x xs else inV x xs)) H
theorem op_in_seq : OpR X (compareOp .In) (rIn X.K false) := by
  intro pins s σ H x y v u Q I rx ry h
  obtain ⟨p, xs, rfl, hq, fx, fs, q⟩ := h
  cases ry
  rcases hq with hq | hq
  · obtain ⟨its, r, pl, hz⟩ := I.list hq
    refine SeqAt.in_listAt (eqU x) pl.isList (fun w hw => mem_eqAt rx fx r fs w (by simpa using hw)) ⟨.bl _, H, I, rfl, ?_⟩
    rw [show its.toArray.any (eqU x) = its.any (eqU x) by simp, any_eqU r fs]
    exact q
  · obtain ⟨its, r, pl, hz⟩ := I.tuple hq
    refine SeqAt.in_tupleAt (eqU x) pl (fun w hw => mem_eqAt rx fx r fs w (by simpa using hw)) ⟨.bl _, H, I, rfl, ?_⟩
    rw [show its.toArray.any (eqU x) = its.any (eqU x) by simp, any_eqU r fs]
    exact q
theorem op_notIn_seq : OpR X (compareOp .NotIn) (rIn X.K true) := by
  intro pins s σ H x y v u Q I rx ry h
  obtain ⟨p, xs, rfl, hq, fx, fs, q⟩ := h
  cases ry
  rcases hq with hq | hq
  · obtain ⟨its, r, pl, hz⟩ := I.list hq
    refine SeqAt.notIn_listAt (eqU x) pl.isList (fun w hw => mem_eqAt rx fx r fs w (by simpa using hw)) ⟨.bl _, H, I, rfl, ?_⟩
    rw [show its.toArray.any (eqU x) = its.any (eqU x) by simp, any_eqU r fs]
    exact q
  · obtain ⟨its, r, pl, hz⟩ := I.tuple hq
    refine SeqAt.notIn_tupleAt (eqU x) pl (fun w hw => mem_eqAt rx fx r fs w (by simpa using hw)) ⟨.bl _, H, I, rfl, ?_⟩
    rw [show its.toArray.any (eqU x) = its.any (eqU x) by simp, any_eqU r fs]
    exact q
theorem call_len_seq : CallR X (.builtin "len") (fun xs H Q => ∃ p ys, xs = [.ref p] ∧ (SqL X.K H p ys ∨ SqT X.K H p ys) ∧ Q (.int ys.length) H) := by
  intro pins s σ H xs us Q I r h
  obtain ⟨p, ys, rfl, hq, q⟩ := h
  obtain ⟨u, rfl, rx⟩ := vals1 r
  cases rx
  have hn := line63
  rcases hq with hq | hq
  · obtain ⟨its, r', pl, hz⟩ := I.list hq
    have hlen := r'.length
    exact Calls.call_len_list pl.isList (by simp only [List.size_toArray] <;> omega) ⟨.int ys.length, H, I.tok _, ⟨s.toks + 1, by rw [List.size_toArray, hlen]⟩, q⟩
  · obtain ⟨its, r', pl, hz⟩ := I.tuple hq
    have hlen := r'.length
    exact len_tuple pl (by simp only [List.size_toArray] <;> omega) ⟨.int ys.length, H, I.tok _, ⟨s.toks + 1, by rw [List.size_toArray, hlen]⟩, q⟩
theorem call_len_str : CallR X (.builtin "len") (fun xs H Q => ∃ z, xs = [.str z] ∧ z.length ≤ sizeLine ∧ Q (.int z.length) H) := by
  intro pins s σ H xs us Q I r h
  obtain ⟨z, rfl, hz, q⟩ := h
  obtain ⟨u, rfl, t, rfl⟩ := vals1 r
  have hn := line63
  exact len_str (by omega) ⟨.int z.length, H, I.tok _, ⟨_, rfl⟩, q⟩
theorem call_list_of : CallR X (.type "list") (fun xs H Q => ∃ p ys, xs = [.ref p] ∧ (SqL X.K H p ys ∨ SqT X.K H p ys) ∧ ∀ l, H l = none → Q (.ref l) (upd H l (.lst ys))) := by
  intro pins s σ H xs us Q I r h
  obtain ⟨p, ys, rfl, hq, q⟩ := h
  obtain ⟨u, rfl, rx⟩ := vals1 r
  cases rx
  have fin : ∀ (its : List Value), Vals ys its → ys.length ≤ sizeLine → ∀ (h' : Heap) (c' : Nat), (∀ b o', s.heap.get? b = some o' → h'.get? b = some o') →
      h'.get? s.heap.objs.size = some { cls := .type "list", dict := none, data := .seq its.toArray c', slots := #[] } → EP X pins σ Q (.ref s.heap.objs.size) { s with heap := h' } := fun its r' hz h' c' kp e =>
    ⟨.ref s.heap.objs.size, _, I.laid (t' := s.toks) kp (Nat.le_refl _) (show ObjOk X.prog X.w _ h' _ (.lst ys) from ⟨hz, its, c', r', e⟩), rfl, q _ (I.hok.fresh (Nat.le_refl _))⟩
  rcases hq with hq | hq
  · obtain ⟨its, r', pl, hz⟩ := I.list hq
    have hlen := r'.length
    obtain ⟨o, ho, hc, n, hd⟩ := pl.isList
    exact call_list_seq p (.inl rfl) ho hc hd (fun h' c' kp e => fin its r' hz h' c' kp e) (by simp only [List.size_toArray] <;> omega)
  · obtain ⟨its, r', pl, hz⟩ := I.tuple hq
    have hlen := r'.length
    obtain ⟨o, ho, hc, n, hd⟩ := pl
    exact call_list_seq p (.inr rfl) ho hc hd (fun h' c' kp e => fin its r' hz h' c' kp e) (by simp only [List.size_toArray] <;> omega)
theorem call_tuple_of : CallR X (.type "tuple") (fun xs H Q => ∃ p ys, xs = [.ref p] ∧ ((SqL X.K H p ys ∧ ∀ l, H l = none → Q (.ref l) (upd H l (.tup ys))) ∨ (SqT X.K H p ys ∧ Q (.ref p) H))) := by
  intro pins s σ H xs us Q I r h
  obtain ⟨p, ys, rfl, h⟩ := h
  obtain ⟨u, rfl, rx⟩ := vals1 r
  cases rx
  rcases h with ⟨hq, q⟩ | ⟨hq, q⟩
  · obtain ⟨its, r', pl, hz⟩ := I.list hq
    have hlen := r'.length
    refine call_tuple_list pl.isList (fun h' kp => ?_) (by simp only [List.size_toArray] <;> omega)
    have I1 : Inv X pins σ H { s with heap := h' } := I.kept (t' := s.toks) kp
    have I2 : Inv X pins σ (upd H h'.objs.size (.tup ys)) { s with heap := h'.push { cls := .type "tuple", data := .seq its.toArray } } :=
      I1.laid (t' := s.toks) (fun b o e => Heap.get?_push_of_some _ e) (Nat.le_refl _) (show ObjOk X.prog X.w _ _ _ (.tup ys) from ⟨hz, its, r', IsTup.new _ _⟩)
    exact ⟨.ref h'.objs.size, _, I2, rfl, q _ (I1.hok.fresh (Nat.le_refl _))⟩
  · obtain ⟨its, r', pl, hz⟩ := I.tuple hq
    exact call_tuple_same pl ⟨.ref p, H, I, rfl, q⟩
def tyV (K : PySem.W.Frag) (T : String) (x : V) (H : Hp) : Prop := match x with
  | .str _ => T = "str"
  | .int _ => T = "int"
  | .ref p => (T = "list" ∧ ∃ xs, SqL K H p xs) ∨ (T = "tuple" ∧ ∃ o, K.lookup p = some o ∧ o.cls = .type "tuple" ∧ o.dict = none) ∨
      (T = "dict" ∧ ((∃ kvs, H p = some (.dK kvs)) ∨ ∃ kvs, H p = some (.dT kvs))) ∨ (T = "set" ∧ ∃ S n, H p = some (.set S n))
  | _ => False
theorem tyV_is {pins : List (Addr × Obj)} {σ : St} {H : Hp} {s : Shared} {T : String} {x : V} {v : Value} (I : Inv X pins σ H s) (r : RelV x v) (ty : tyV X.K T x H) :
    s.TypeIs v T ∧ ∀ a, v = .ref a → ∃ ob, s.heap.get? a = some ob ∧ ob.dict = none := by
  cases x with
  | str z =>
    obtain ⟨t, rfl⟩ := r
    cases (show T = "str" from ty)
    exact ⟨typeIs_str s z t, fun _ e => nomatch e⟩
  | int i =>
    obtain ⟨t, rfl⟩ := r
    cases (show T = "int" from ty)
    exact ⟨typeIs_int s i t, fun _ e => nomatch e⟩
  | ref p =>
    cases r
    rcases ty with ⟨rfl, xs, hq⟩ | ⟨rfl, o, hk, hc, hd⟩ | ⟨rfl, hk⟩ | ⟨rfl, S, n, hk⟩
    · obtain ⟨its, _, pl, _⟩ := I.list hq
      refine ⟨pl.isList.typeIs, fun a e => ?_⟩
      cases e
      obtain ⟨o, n, e, c, hd, _⟩ := pl
      exact ⟨o, e, hd⟩
    · refine ⟨⟨o, I.kIn p o hk, hc⟩, fun a e => ?_⟩
      cases e
      exact ⟨o, I.kIn _ o hk, hd⟩
    · have z : ∃ o, s.heap.get? p = some o ∧ o.ExactDict := by
        rcases hk with ⟨kvs, hk⟩ | ⟨kvs, hk⟩
        · obtain ⟨_, _, _, _, o, _, _, e, ex, _⟩ := I.hok p _ hk
          exact ⟨o, e, ex⟩
        · obtain ⟨_, _, _, _, o, _, _, e, ex, _⟩ := I.hok p _ hk
          exact ⟨o, e, ex⟩
      obtain ⟨o, e, ex⟩ := z
      refine ⟨⟨o, e, ex.1⟩, fun a e2 => ?_⟩
      cases e2
      exact ⟨o, e, ex.2.1⟩
    · obtain ⟨o, _, _, _, e, ex, _⟩ := I.hok p _ hk
      refine ⟨⟨o, e, ex.1⟩, fun a e2 => ?_⟩
      cases e2
      exact ⟨o, e, ex.2.1⟩
  | _ => exact False.elim ty
def tBM (K : PySem.W.Frag) (T : String) (r : V → List V → Hp → VK → Prop) (to : TE) (t : TA) : TE := fun σ H Q => to σ H fun x H1 => tyV K T x H1 ∧ t σ H1 fun xs H2 => r x xs H2 Q
variable {o e : Expr} {es : List Expr} {to : TE} {t : TA} {name : Str} {apos cpos : Pos} {T id : String} {r : V → List V → Hp → VK → Prop}
theorem pe_bm (pa : PlainAttrs T) (slot : Slot T name id) (hty : typeOf (.builtin id) = pure (.type "method_descriptor")) (hm : MtR X id r) (ho : PE X o to) (ha : PA X (e :: es) t)
    (hbase : attributeBase o name X.env (eval o X.env) = eval o X.env := by rfl)
    (hfew : ((backTo cpos (starEach (e :: es) X.env)).all (fun x => !x.1) && (backToKw cpos (keywordEach [] X.env)).all (fun x => x.1.isSome)
      && decide ((e :: es).length + ([] : List Keyword).length + (if ([] : List Keyword).isEmpty then 0 else 1) < 30)) = true := by rfl)
    (hline : (apos.endLine == cpos.line) = true := by rfl) (hs : starEach (e :: es) X.env = (false, eval e X.env) :: starEach es X.env := by rfl) (hplain : (backTo cpos (starEach es X.env)).any (·.1) = false := by rfl) :
    PE X (.Call (.Attribute o name apos) (e :: es) [] cpos) (tBM X.K T r to t) := by
  intro pins s σ H Q I h
  refine wpAny_Call_method_late hbase hfew hline rfl (thn (ho pins s σ H _ I h) fun v s1 ⟨x, H1, I1, r1, ty, q1⟩ => ?_)
  obtain ⟨h1, h2⟩ := tyV_is I1 r1 ty
  refine ⟨T, id, pa, slot, hty, h1, h2, ?_⟩
  have hA := ha cpos pins s1 σ H1 _ I1 q1
  rw [hs] at hA ⊢
  refine Calls.callWith_builtin (by show (false || (backTo cpos (starEach es X.env)).any (·.1)) = false; rw [hplain] <;> rfl) (Calls.evalArgs_plain ?_)
  exact thn hA fun us s2 ⟨vs, H2, I2, r2, q2⟩ => hm pins s2 σ H2 x vs v us Q I2 r1 r2 q2
end
end L2
namespace L2
open PySem PySem.Spec PyProof.Rows
def MtM (X : Cx) (id : String) (r : V → List V → Hp → VK → Prop) : Prop :=
  ∀ (pins : List (Addr × Obj)) (s : Shared) (σ : St) (H : Hp) (x : V) (xs : List V) (v : Value) (us : List Value) (Q : VK), Inv X pins σ H s → RelV x v → Vals xs us → r x xs H Q →
    wpAny (model X.prog X.w) X.A (call (.builtin id) (v :: us)) (EP X pins σ Q) X.xe s
theorem Vals.one : ∀ {x : V} {us : List Value}, Vals [x] us → ∃ u, us = [u] ∧ RelV x u
  | _, _, .cons r .nil => ⟨_, rfl, r⟩
theorem Vals.two : ∀ {x y : V} {us : List Value}, Vals [x, y] us → ∃ u v, us = [u, v] ∧ RelV x u ∧ RelV y v
  | _, _, _, .cons r (.cons q .nil) => ⟨_, _, rfl, r, q⟩
theorem Vals.zero : ∀ {us : List Value}, Vals [] us → us = []
  | _, .nil => rfl
theorem Vals.dropLast {xs : List V} {us : List Value} (h : Vals xs us) : Vals xs.dropLast us.dropLast := by
  induction h with
  | nil => exact .nil
  | cons r t ih =>
    cases t with
    | nil => exact .nil
    | cons q t' => exact .cons r ih
theorem Vals.rep {xs : List V} {us : List Value} (h : Vals xs us) : ∀ k : Nat, Vals (List.replicate k xs).flatten (List.replicate k us).flatten
  | 0 => .nil
  | k + 1 => by
    rw [List.replicate_succ, List.replicate_succ, List.flatten_cons, List.flatten_cons]
    exact Vals.append h (Vals.rep h k)
theorem foldl_rep (its : List Value) : ∀ (k : Nat) (acc : List Value),
    List.foldl (fun x1 x2 => x1 ++ x2) acc.toArray (List.replicate k its.toArray) = (acc ++ (List.replicate k its).flatten).toArray
  | 0, acc => by simp
  | k + 1, acc => by
    have e : acc.toArray ++ its.toArray = (acc ++ its).toArray := by simp
    have e2 : (acc ++ its) ++ (List.replicate k its).flatten = acc ++ (List.replicate (k + 1) its).flatten := by
      rw [List.replicate_succ, List.flatten_cons, List.append_assoc]
    rw [← e2, ← foldl_rep its k (acc ++ its), ← e, List.replicate_succ, List.foldl_cons]
section
variable {X : Cx} {pins : List (Addr × Obj)} {σ : St} {H : Hp} {s : Shared} {l b : Addr} {xs ys zs : List V}
theorem Inv.lset {its its' : List Value} {n : Nat} {f : Array Value → Array Value} {t' : Nat} (I : Inv X pins σ H s) (hH : H l = some (.lst xs))
    (e : s.heap.get? l = some { cls := .type "list", data := .seq its.toArray n }) (hf : f its.toArray = its'.toArray) (hv : Vals ys its') (hz : ys.length ≤ sizeLine) :
    Inv X pins σ (upd H l (.lst ys)) { s with heap := s.heap.update l (Obj.mapSeq f), toks := t' } := by
  have q := PySem.IsL.update e f
  rw [hf] at q
  refine I.write (x := l) (e := l) (by rw [hH]; exact trivial) (.inl rfl) (fun b' u hb hu => (Heap.get?_update_other s.heap (Obj.mapSeq f) (Ne.symm hb)).trans hu) ⟨_, q⟩ ?_
  exact ⟨hz, its', _, hv, q⟩
theorem Inv.lnew {its : List Value} {t' : Nat} (I : Inv X pins σ H s) (hv : Vals ys its) (hz : ys.length ≤ sizeLine) :
    Inv X pins σ (upd H s.heap.objs.size (.lst ys)) { s with heap := s.heap.push { cls := .type "list", data := .seq its.toArray }, toks := t' } :=
  I.laid (fun _ _ q => Heap.get?_push_of_some _ q) (Nat.le_refl _) ⟨hz, its, 0, hv, Heap.get?_push_size _ rfl⟩
theorem Inv.fresh (I : Inv X pins σ H s) : H s.heap.objs.size = none := I.hok.fresh (Nat.le_refl _)
theorem Inv.lstM (I : Inv X pins σ H s) (hH : H l = some (.lst xs)) : xs.length ≤ sizeLine ∧ ∃ (its : List Value) (n : Nat), Vals xs its ∧ xs.length = its.length ∧ s.heap.get? l = some { cls := .type "list", data := .seq its.toArray n } := by
  obtain ⟨z, its, n, r, e⟩ := I.hok l _ hH
  exact ⟨z, its, n, r, r.length, e⟩
theorem notLongL {n : Nat} (h : n ≤ sizeLine) : Builtin.List.listTooLong n = false := by
  unfold Builtin.List.listTooLong
  exact decide_eq_false (by omega)
end
section
variable {X : Cx}
def rAppend : V → List V → Hp → VK → Prop := fun x vs H Q => ∃ l xs y, x = .ref l ∧ vs = [y] ∧ H l = some (.lst xs) ∧ xs.length < sizeLine ∧ Q .non (upd H l (.lst (xs ++ [y])))
theorem mt_append : MtM X "list.append" rAppend := by
  intro pins s σ H x vs v us Q I rx rv h
  obtain ⟨l, xs, y, rfl, rfl, hH, hz, q⟩ := h
  cases rx
  obtain ⟨u, rfl, ru⟩ := rv.one
  obtain ⟨z, its, n, r, hl, e⟩ := I.lstM hH
  refine call_meets F.slot_list_append ⟨_, e, rfl⟩ F.entry_list_append (F.args_list_append_2 _ _) (PySem.list_append l its.toArray n u (by rw [List.size_toArray]; omega)) ⟨e, ?_⟩
  refine ⟨.non, _, I.lset (its' := its ++ [u]) hH e (by simp) (r.append (.cons ru .nil)) ?_, rfl, q⟩
  rw [List.length_append, List.length_singleton]
  omega
theorem len_rep {α : Type} (xs : List α) (k : Nat) : (List.replicate k xs).flatten.length = k * xs.length := by
  induction k with
  | zero => simp
  | succ k ih => rw [List.replicate_succ, List.flatten_cons, List.length_append, ih, Nat.succ_mul, Nat.add_comm]
end
section
variable {prog : Program} {w : World} {A : Around} {E : Value → Shared → Prop} {s : Shared}
end
section
variable {X : Cx}
end
end L2
namespace Att
open PySem PySem.W PySem.Calls PyProof.Rows
theorem ints_of_wellAll {P : Params} {h : Heap} : ∀ (ns : List Int) (vs : List Value), WellAll P h vs (ns.map WData.int) → IntsAre vs ns := by
  intro ns
  induction ns with
  | nil =>
    intro vs w
    rw [List.map_nil] at w
    cases w
    exact .nil
  | cons n ns ih =>
    intro vs w
    rw [List.map_cons] at w
    cases w with
    | cons a b =>
      cases a
      exact .cons _ _ (ih _ b)
theorem script_of {l : OpenLaw} {n : Nat} (hn : l.most = some n) {P : Params} {h : Heap} {args : List WData} {vals : List Value}
    (hpre : l.row.toRowW.claim.pre args = true) (hwl : WellAll P h vals args) :
    ∃ a vs ns, vals = [Value.ref a] ∧ args = [WData.list (ns.map WData.int)] ∧ h.get? a = some { cls := .type "list", data := .seq vs.toArray } ∧ IntsAre vs ns ∧ ns.length ≤ n := by
  have hsh : WShape.hasAll [] args [.list .int] = true := (pre_splitW hpre).1
  have hc : l.pre.holds [] { args := args } = true := (pre_splitW hpre).2
  obtain ⟨d, r, rfl, h1, h2⟩ := hasAllW_cons hsh
  obtain rfl := hasAllW_nil h2
  obtain ⟨xs, rfl, h3⟩ := hasW_list h1
  obtain ⟨ns, rfl⟩ := items_int h3
  have hlen : ns.length ≤ n := by
    unfold OpenLaw.pre at hc
    have h4 : (WTm.not (.lt (.lit (.int (n : Int))) (.len (.arg 0)))).holds [] { args := [.list (ns.map .int)] } = true := by
      have h4 := (holds_andW hc).1
      rw [hn] at h4
      exact h4
    have h5 := condW_of h4 (w_not (w_lt w_lit (w_len_list (w_arg rfl))))
    rw [List.length_map] at h5
    refine Nat.le_of_not_lt fun q => ?_
    have q' : (n : Int) < ((ns.length : Nat) : Int) := by omega
    first
      | (rw [decide_eq_true q'] at h5; exact absurd h5 (by decide))
      | (simp at h5; omega)
  cases hwl with
  | cons w1 w2 =>
    cases w2
    cases w1 with
    | list ho hall => exact ⟨_, _, ns, rfl, rfl, ho, ints_of_wellAll ns _ hall, hlen⟩
theorem post_true (l : OpenLaw) (args : List WData) : l.row.toRowW.claim.post args (.bool true) args = true :=
  postW_of (r := l.row.toRowW) (X := (true == true))
    (show WShape.has [] (.bool true) .bool = true by first | rfl | decide | simp [WShape.has, WShape.arms, WShape.armsAll])
    (show (WTm.eq .res (.lit (.bool true))).value [] { args := args, res := some (.bool true), after := args } = some (.bool (true == true)) from w_eq_bool (w_res rfl) w_lit) rfl
theorem attach_call {l : OpenLaw} {n : Nat} {q : Program} {loose : List Str} {XP : (Str → Option Value) → Heap → Prop} {YP : World → Heap → Prop} {d : DefRec}
    (hn : l.most = some n) (hdf : d.params.defaults = [])
    (call : ∀ (w : World) (s₀ s₁ : Shared) (mg mb : Str → Option Value) (fa : Addr) (o : Obj) (pm cd doc : Value) (a : Addr) (vs : List Value) (ns : List Int),
      Ground q loose [] XP w s₀ mg mb s₁.heap → YP w s₁.heap →
      s₁.heap.get? fa = some o → o.data = .func (docDef d.name d.params d.body d.scope pm cd doc) → s₁.heap.CodeRec cd d.name → mg d.name = some (.ref fa) →
      s₁.heap.get? a = some { cls := .type "list", data := .seq vs.toArray } → IntsAre vs ns → ns.length ≤ n → s₁.gens = #[] →
      codeAny (model l.prog w) callerA (.call (.ref fa) ⟨[.ref a], []⟩) (fun r s' => r = .ok (.ret (.bool true)) ∧ OldK s₁.heap s'.heap ∧ s'.os = s₁.os ∧ AllBare s'.gens) s₁) :
    WalkO q loose XP YP l.row.toRowW d [] (fun f vs => PySem.call f vs) := by
  intro w s₀ s₁ mg mb G Y fa o pm cd doc dV kV ho hd hcd hD hmg hg args vals as hpre hlay hrd hwl hlo
  obtain rfl : dV = .none := Dflts.none hD hdf
  obtain rfl : kV = .none := Dflts.noKw hD
  obtain ⟨a, vs, ns, rfl, rfl, hobj, hints, hlen⟩ := script_of hn hpre hwl
  refine enter_call (codeAny_mono (call w s₀ s₁ mg mb fa o pm cd doc a vs ns G Y ho (fd_plain hd) hcd hmg hobj hints hlen hg) fun r s' hq => ?_)
  obtain ⟨rfl, h2, h3, h4⟩ := hq
  exact ⟨.inl ⟨.bool true, .bool true, [], rfl, fun _ => rfl, .bool true, post_true l _, fun _ => ⟨List.Pairwise.nil, fun _ hm => (nomatch hm)⟩⟩, h2, h3, h4⟩
section
variable {prog : Program} {w : World} {A : Around} {E : Value → Shared → Prop} {s : Shared} {K : Frag}
end
end Att
namespace L2
open PySem PySem.Spec PyProof.Rows
theorem vals_ints : ∀ {vs : List Value} {ns : List Int}, IntsAre vs ns → Vals (ns.map V.int) vs
  | _, _, .nil => .nil
  | _, _, .cons n t h => .cons ⟨t, rfl⟩ (vals_ints h)
def Only (H : Hp) : Prop := ∀ b, H b = none ∨ ∃ o xs, H b = some (.frz o (.lst xs))
theorem law_call {P : Program} {w : World} {K : PySem.W.Frag} {mg mb : Str → Option Value} {CX : CXT} {k : Nat} {fa a : Addr} {fd : FuncData} {x : Str} {sp : Sp} {s₁ : Shared} {vs : List Value} {ns : List Int}
    (KX : K.In s₁.heap) (hns : s₁.heap.Ns mainGlobals mg) (hb : s₁.heap.Ns builtinsNs mb) (hbb : ∀ x : Str, x ≠ "__name__" → mb x = bootBuiltins x) (hlim : s₁.heap.NoLimit) (hg : s₁.gens = #[])
    (ha : s₁.heap.get? a = some { cls := .type "list", data := .seq vs.toArray }) (hi : IntsAre vs ns) (hl : ns.length ≤ sizeLine) (hr : Room k callerA)
    (F : ∀ base : Heap, K.In base → base.Ns mainGlobals mg → FnOk P w K mg base CX k fa fd [x] sp) (hbind : ∀ (s : Shared) (u : Value), BindsTo s fd ⟨[u], []⟩ [(x, u)])
    (hsp : ∀ H : Hp, Only H → SqL K H a (ns.map V.int) → sp [.ref a] H (fun v _ => v = .bl true) fun _ _ _ => False)
    (hCX : ∀ H e s', CX [] H s₁ (fun _ _ _ => False) e s' → False) :
    codeAny (model P w) callerA (.call (.ref fa) ⟨[.ref a], []⟩) (fun r s' => r = .ok (.ret (.bool true)) ∧ OldK s₁.heap s'.heap ∧ s'.os = s₁.os ∧ AllBare s'.gens) s₁ := by
  have rv := vals_ints hi
  have lenV := hi.length
  have core : ∀ H : Hp, Only H → SqL K H a (ns.map V.int) → HOk P w H s₁.heap → (∀ b, H b ≠ none → b = a) → (H a ≠ none → K.lookup a = none) →
      codeAny (model P w) callerA (.call (.ref fa) ⟨[.ref a], []⟩) (fun r s' => r = .ok (.ret (.bool true)) ∧ OldK s₁.heap s'.heap ∧ s'.os = s₁.os ∧ AllBare s'.gens) s₁ := by
    intro H hO hS hok hA hK
    have base_of : ∀ {b : Addr} {o : Obj}, s₁.heap.get? b = some o → H b = none → (hidT s₁.heap H).get? b = some o := fun e n => hidT_get e n
    have noA : ∀ {b : Addr} {o : Obj} {es : Array DictEntry} {ep : Nat}, s₁.heap.get? b = some o → o.data = .dict es ep → H b = none := fun {b o es ep} e d => by
      cases q : H b with
      | none => rfl
      | some u =>
        have e' : b = a := hA b (by rw [q]; simp)
        subst e'
        rw [ha] at e; cases e
        have d' : Data.seq vs.toArray _ = Data.dict es ep := d
        cases d'
    have nsK : ∀ {b : Addr} {m : Str → Option Value}, s₁.heap.Ns b m → (hidT s₁.heap H).Ns b m := fun {b m} ⟨o, es, ep, e, d, r⟩ => ⟨o, es, ep, base_of e (noA e d), d, r⟩
    have hKb : K.In (hidT s₁.heap H) := fun b o e => base_of (KX b o e) (by
      cases q : H b with
      | none => rfl
      | some u =>
        have e' : b = a := hA b (by rw [q]; simp)
        subst e'
        rw [hK (by rw [q]; simp)] at e; cases e)
    have hM : Mod K mg (hidT s₁.heap H) := ⟨hKb, nsK hns, ⟨mb, nsK hb, hbb⟩, let ⟨mc, h1, h2⟩ := hlim; ⟨mc, nsK h1, h2⟩⟩
    have e0 : Env0 P w K mg (hidT s₁.heap H) callerA [] s₁ H := ⟨rfl, hM, fun b o e => of_hidT e, Nat.le_of_eq (hidT_size _ _), trivial, fun b hb => absurd (show b ∈ ([] : List Addr) from hb) (by simp), hok, .of_eq hg⟩
    refine codeAny_mono ((F _ hKb (nsK hns)).run callerA [] s₁ H ⟨[.ref a], []⟩ [.ref a] [.ref a] _ _ hr e0 (hbind s₁ (.ref a)) (.cons rfl .nil) (hsp H hO hS)) fun r s' h => ?_
    cases r with
    | error e => exact (hCX H e s' h).elim
    | ok fl =>
      cases fl with
      | next => exact False.elim h
      | brk => exact False.elim h
      | cont => exact False.elim h
      | ret u =>
        obtain ⟨v, H', os, bare, un, hok', r', q⟩ := h
        have q' : v = .bl true := q
        subst q'
        obtain rfl : u = Value.bool true := r'
        refine ⟨rfl, OldK.of_keep fun b o e => ?_, os, bare⟩
        cases q : H b with
        | none => exact un.keep b o e q (by intro z; exact absurd (show b ∈ ([] : List Addr) from z) (by simp)) (by simp)
        | some u =>
          rcases hO b with z | ⟨ob, xs, z⟩
          · rw [q] at z; cases z
          · have z2 := un.frzs b ob _ z
            obtain ⟨e1, _⟩ := hok b _ z
            obtain ⟨e2, _⟩ := hok' b _ z2
            rw [e] at e1; cases e1
            exact e2
  cases hk : K.lookup a with
  | some o =>
    have e := KX a o hk
    rw [ha] at e
    cases e
    refine core (fun _ => none) (fun _ => .inl rfl) (.inr ⟨_, vs.toArray, _, hk, rfl, rfl, rfl, by rw [List.size_toArray, lenV]; exact hl, by simpa using rv⟩) (fun b u z => by have z' : (none : Option HO) = some u := z; cases z') (fun b z => absurd rfl z) fun z => absurd rfl z
  | none =>
    refine core (fun b => if b = a then some (.frz { cls := .type "list", data := .seq vs.toArray } (.lst (ns.map V.int))) else none) (fun b => ?_) (.inl (.inr ⟨{ cls := .type "list", data := .seq vs.toArray }, if_pos rfl⟩)) (fun b u z => ?_) (fun b z => ?_) fun _ => hk
    · by_cases hb : b = a
      · exact .inr ⟨_, _, if_pos hb⟩
      · exact .inl (if_neg hb)
    · by_cases hb : b = a
      · have z' := (if_pos hb).symm.trans z
        cases z'
        subst hb
        exact ⟨ha, by rw [List.length_map]; exact hl, vs, _, rv, ha⟩
      · have z' := (if_neg hb).symm.trans z
        cases z'
    · by_cases hb : b = a
      · exact hb
      · exact absurd (if_neg hb) z
end L2
namespace L2
open PySem PySem.Spec PyProof.Rows
theorem walk_of {l : PySem.W.OpenLaw} {n k : Nat} {q : Program} {loose : List Str} {XP : (Str → Option Value) → Heap → Prop} {YP : World → Heap → Prop} {d : DefRec} {K : Params → PySem.W.Frag} {CX : World → CXT} {sp : World → Sp} {x : Str}
    (hn : l.most = some n) (hn2 : n ≤ sizeLine) (hdf : d.params.defaults = []) (hr : Room k callerA)
    (hY : ∀ (w : World) (h : Heap), YP w h → (K w.params).In h)
    (F : ∀ (w : World) (mg : Str → Option Value) (fa : Addr) (h : Heap), (K w.params).In h → h.Ns mainGlobals mg → mg d.name = some (.ref fa) →
      ∃ fd : FuncData, (∀ (s : Shared) (u : Value), BindsTo s fd ⟨[u], []⟩ [(x, u)]) ∧
        ∀ base : Heap, (K w.params).In base → base.Ns mainGlobals mg → FnOk l.prog w (K w.params) mg base (CX w) k fa fd [x] (sp w))
    (hsp : ∀ (w : World) (H : Hp) (a : Addr) (ns : List Int), ns.length ≤ n → Only H → SqL (K w.params) H a (ns.map V.int) → sp w [.ref a] H (fun v _ => v = .bl true) fun _ _ _ => False)
    (hCX : ∀ (w : World) (H : Hp) (s : Shared) (e : Value) (s' : Shared), CX w [] H s (fun _ _ _ => False) e s' → False) :
    PySem.W.WalkO q loose XP YP l.row.toRowW d [] (fun f vs => PySem.call f vs) := by
  refine Att.attach_call hn hdf fun w s₀ s₁ mg mb fa o pm cd doc a vs ns G Y ho hd hcd hmg hobj hints hlen hg => ?_
  have KX := hY w _ Y
  obtain ⟨fd, hb, hF⟩ := F w mg fa _ KX G.T.g hmg
  exact law_call KX G.T.g G.T.b G.T.builtins G.T.nolimit hg hobj hints (Nat.le_trans hlen hn2) hr hF hb (fun H hO hS => hsp w H a ns hlen hO hS) fun H e s' => hCX w H s₁ e s'
end L2
namespace L2
open PySem PySem.Spec PyProof.Rows
def inClass (s : Stmt) (j : Nat) : Stmt := match s with
  | .ClassDef _ _ _ body _ _ _ _ _ _ _ => body.getD j (.Pass ⟨0, 0, 0, 0⟩)
  | _ => .Pass ⟨0, 0, 0, 0⟩
def defArgs (s : Stmt) : Arguments := match s with
  | .FunctionDef _ a _ _ _ _ _ _ _ _ => a
  | _ => { posonlyargs := [], args := [], vararg := none, kwonlyargs := [], kw_defaults := [], kwarg := none, defaults := [] }
def defBody (s : Stmt) : List Stmt := match s with
  | .FunctionDef _ _ b _ _ _ _ _ _ _ => b
  | _ => []
def defScope (s : Stmt) : Scope := match s with
  | .FunctionDef _ _ _ _ _ _ sc _ _ _ => sc
  | _ => { kind := .function, names := [], isGenerator := false, isCoroutine := false }
abbrev CX0 : CXT := fun _ _ _ _ _ _ => False
abbrev E0 : XK := fun _ _ _ => False
theorem pass0 {X : Cx} : Passes CX0 X E0 := fun _ _ _ _ _ _ _ h => h.elim
structure Fun (K : PySem.W.Frag) (x qual : Str) (st : Stmt) (f : Addr) (fd : FuncData) : Prop where
  ex : ∃ (oc : Value) (od : Option Addr) (kV doc pm : Value) (an : Option Addr) (cdv ct : Value) (osl : Array (Option Value)),
    fd = PySem.W.fnOf x qual (defArgs st) (defBody st) (defScope st) .none kV doc pm an cdv ct ∧ K.lookup f = some ⟨oc, od, .func fd, osl⟩ ∧ PySem.W.codeIn K cdv qual = true
  kp : PySem.W.keepIn K (.ref f) = true
section
variable {P : Program} {w : World} {K : PySem.W.Frag} {mg : Str → Option Value} {base : Heap}
theorem Fun.ok {x qual : Str} {st : Stmt} {f : Addr} {fd : FuncData} {N ps : List Str} {k : Nat} {sp : Sp} (F : Fun K x qual st f fd) (S : FnScope N ps (defScope st)) (len : ∀ vs H Q E, sp vs H Q E → vs.length = ps.length)
    (hbody : ∀ (cdv : Value) (A : Around) (outer : List Env) (s : Shared) (H : Hp) (vs : List V) (Q : VK) (E : XK), Room k (A.deeper (envOfC qual (defScope st) s.heap.objs.size f cdv)) → sp vs H Q E →
      ∃ t, PSs (cxOf CX0 P w K mg base N qual (defScope st) f cdv A outer s H E).nox (defBody st) t ∧ t { nx := fun _ H' => Q .non H', rt := Q } (start N vs) H) : FnOk P w K mg base CX0 (k + 1) f fd ps sp := by
  obtain ⟨oc, od, kV, doc, pm, an, cdv, ct, osl, rfl, lk, hcd⟩ := F.ex
  refine fn_of lk hcd S len fun A outer s H vs Q E hr hsp => ?_
  obtain ⟨t, h, q⟩ := hbody cdv A outer s H vs Q E hr hsp
  exact ⟨t, h.nox, q⟩
theorem Fun.binds {x qual : Str} {st : Stmt} {f : Addr} {fd : FuncData} {ps : List Str} (F : Fun K x qual st f fd)
    (h : ∀ (kV doc pm : Value) (an : Option Addr) (cdv ct : Value) (us : List Value), us.length = ps.length → bindArgs (PySem.W.fnOf x qual (defArgs st) (defBody st) (defScope st) .none kV doc pm an cdv ct) ⟨us, []⟩ = pure (ps.zip us)) : Binds K fd ps [] := by
  obtain ⟨oc, od, kV, doc, pm, an, cdv, ct, osl, rfl, lk, hcd⟩ := F.ex
  exact .all (h kV doc pm an cdv ct)
theorem fun_mk {x qual : Str} {st : Stmt} {f : Addr} {oc : Value} {od an : Option Addr} {osl : Array (Option Value)} {kV doc pm cdv ct : Value} (l : K.lookup f = some ⟨oc, od, .func (PySem.W.fnOf x qual (defArgs st) (defBody st) (defScope st) .none kV doc pm an cdv ct), osl⟩)
    (c : PySem.W.codeIn K cdv qual = true) (k : PySem.W.keepIn K (.ref f) = true) : Fun K x qual st f (PySem.W.fnOf x qual (defArgs st) (defBody st) (defScope st) .none kV doc pm an cdv ct) := ⟨⟨oc, od, kV, doc, pm, an, cdv, ct, osl, rfl, l, c⟩, k⟩
end
section
variable {X : Cx}
theorem pv (i : Nat) {x : Str} {pos : Pos} (hN : X.N[i]? = some x := by rfl) (hv : Vis X.env.scope x := by first | exact Or.inl rfl | exact Or.inr (Or.inl rfl) | exact Or.inr (Or.inr rfl)) (hd : (x == ("__debug__" : Str)) = false := by decide)
    (hcd : (x == ("__classdict__" : Str)) = false := by decide) : PE X (.Name x pos) (tVar i) := pe_var hN hv hd hcd
end
theorem iteF {A B : Prop} (h : B) : if false = true then A else B := by
  rw [if_neg Bool.false_ne_true]
  exact h
theorem iteT {A B : Prop} (h : A) : if true = true then A else B := by
  rw [if_pos rfl]
  exact h
def Same (H H' : Hp) : Prop := ∀ b o, H b = some o → H' b = some o
theorem Same.refl (H : Hp) : Same H H := fun _ _ h => h
theorem Same.trans {H H1 H2 : Hp} (a : Same H H1) (b : Same H1 H2) : Same H H2 := fun c o h => b c o (a c o h)
theorem Same.free {H H' : Hp} (e : Same H H') {l : Addr} (h : H' l = Option.none) : H l = Option.none := by
  cases q : H l with
  | none => rfl
  | some o =>
    rw [e l o q] at h
    cases h
theorem Same.seq {K : PySem.W.Frag} {H H' : Hp} {a : Addr} {xs : List V} (e : Same H H') (h : SqL K H a xs) : SqL K H' a xs := by
  rcases h with (h | ⟨o, h⟩) | h
  · exact .inl (.inl (e _ _ h))
  · exact .inl (.inr ⟨o, e _ _ h⟩)
  · exact .inr h
end L2
set_option maxRecDepth 100000
set_option maxHeartbeats 4000000
namespace L2
open PySem PySem.Spec PyProof.Rows
def OwnG (k : Nat) (g : TG) : Prop := ∀ v σ H (Q Q' : St → Hp → Prop),
  (∀ σ2 H2, σ2.length = σ.length → (∀ j, k ≤ j → σ2[j]? = σ[j]?) → Q σ2 H2 → Q' σ2 H2) → g v σ H Q → g v σ H Q'
theorem own_name {k i : Nat} (h : i < k) : OwnG k (gName i) := by
  intro v σ H Q Q' m q
  refine m _ _ (by simp) (fun j hj => ?_) q
  rw [List.getElem?_set_ne (by omega)]
def cxComp (X : Cx) (scope : Scope) (cl : List (Str × Addr)) (C : Addr) (N : List Str) (s : Shared) (H : Hp) (ex : List Addr) : Cx :=
  { X with N := N, s₀ := s, H₀ := H, env := compEnvC scope cl C X.env, outer := X.stack, ex := ex, fn := fun _ => false, pn := [], xe := fun _ _ => False }
def CompOk (osc : Scope) (oN : List Str) (k : Nat) (ix : List Nat) (N : List Str) (scope : Scope) : Prop :=
  scope.kind = .function ∧ (∀ y ∈ scope.names, y.2 ≠ .cell) ∧ (∀ y ∈ scope.names, y.2 = .local → scope.names.lookup y.1 = some .local) ∧
  (∀ y ∈ scope.names, y.2 = .free → osc.names.lookup y.1 = some .cell ∨ osc.names.lookup y.1 = some .free) ∧
  N.length = k + ix.length ∧ (∀ p ∈ (N.drop k).zip ix, oN[p.2]? = some p.1 ∧ scope.names.lookup p.1 = some .free)
instance {osc : Scope} {oN : List Str} {k : Nat} {ix : List Nat} {N : List Str} {scope : Scope} : Decidable (CompOk osc oN k ix N scope) := by
  unfold CompOk
  exact inferInstance
def outS (ix : List Nat) (σ : St) : St := ix.map fun i => (σ[i]?).getD none
theorem closure_ok (env : Env) : ∀ (ns : List (Str × NameKind)) (acc : List (Str × Addr)), (∀ y ∈ ns, y.2 = .free → ∃ c, env.cells.lookup y.1 = some c) →
    ∃ cl, (forIn (m := Sem) ns acc fun (y : Str × NameKind) r => match y with
      | (n, k) => if (k == .free) = true then (do let c ← cellOf env n; pure (ForInStep.yield ((n, c) :: r))) else pure (ForInStep.yield r)) = pure cl ∧
      (∀ n c, cl.lookup n = some c → acc.lookup n = some c ∨ env.cells.lookup n = some c) ∧ ∀ n, ((acc.lookup n).isSome = true ∨ (n, NameKind.free) ∈ ns) → (cl.lookup n).isSome = true
  | [], acc, _ => ⟨acc, rfl, fun _ _ h => .inl h, fun n h => h.elim id fun z => by cases z⟩
  | (n, k) :: ns, acc, h => by
    by_cases hk : k = .free
    · subst hk
      obtain ⟨c, hc⟩ := h (n, .free) List.mem_cons_self rfl
      obtain ⟨cl, e, p, q⟩ := closure_ok env ns ((n, c) :: acc) fun y hy => h y (List.mem_cons_of_mem _ hy)
      refine ⟨cl, ?_, fun m d hm => ?_, fun m hm => ?_⟩
      · rw [List.forIn_cons]
        simp only [cellOf, hc, beq_self_eq_true, if_true, pure_bind]
        exact e
      · rcases p m d hm with z | z
        · rw [List.lookup_cons] at z
          split at z
          · rename_i hmn
            cases z
            have : m = n := by simpa using hmn
            subst this
            exact .inr hc
          · exact .inl z
        · exact .inr z
      · refine q m ?_
        rw [List.lookup_cons]
        split
        · exact .inl rfl
        · rename_i hmn
          rcases hm with z | z
          · exact .inl z
          · rcases List.mem_cons.mp z with z | z
            · cases z
              simp at hmn
            · exact .inr z
    · obtain ⟨cl, e, p, q⟩ := closure_ok env ns acc fun y hy => h y (List.mem_cons_of_mem _ hy)
      have hb : (k == NameKind.free) = false := by simpa using hk
      refine ⟨cl, ?_, p, fun m hm => q m (hm.imp id fun z => ?_)⟩
      · rw [List.forIn_cons]
        simp only [hb, Bool.false_eq_true, if_false, pure_bind]
        exact e
      · rcases List.mem_cons.mp z with z | z
        · cases z
          exact absurd rfl hk
        · exact z
theorem closureFor_ok (env : Env) (scope : Scope) (h : ∀ y ∈ scope.names, y.2 = .free → ∃ c, env.cells.lookup y.1 = some c) :
    ∃ cl, closureFor scope env = pure cl ∧ (∀ n c, cl.lookup n = some c → env.cells.lookup n = some c) ∧ ∀ n, (n, NameKind.free) ∈ scope.names → ∃ c, cl.lookup n = some c := by
  obtain ⟨cl, e, p, q⟩ := closure_ok env scope.names [] h
  refine ⟨cl, ?_, fun n c z => (p n c z).elim (fun z => by cases z) id, fun n hn => Option.isSome_iff_exists.mp (q n (.inr hn))⟩
  unfold closureFor
  simpa using e
theorem comp_loop {prog : Program} {w : World} {A : Around} {R : Result → Shared → Prop} {s : Shared} {elt target iter : Expr} {ifs : List Expr} {scope : Scope} {pos : Pos} {it acc : Value} {env : Env}
    (J : Nat → Shared → Prop)
    (turn : ∀ n s, J n s → wpAny (model prog w) A (pyNext it) (fun r s1 => match r with
      | none => R (.ok .next) s1
      | some v => wpAny (model prog w) A (letOwnedTupleGo target it v) (fun _ s2 => wpAny (model prog w) A (assign target env v) (fun _ s3 =>
          wpAny (model prog w) A (forIn ifs true fun c r => if r = true then do let ok ← isTrue c env (eval c env); pure (ForInStep.yield ok) else pure (ForInStep.yield r)) (fun ok s4 =>
            if ok = true then wpAny (model prog w) A (eval elt env) (fun x s5 =>
              wpAny (model prog w) A (call (.builtin "list.append") [acc, x]) (fun _ s6 => ∃ m, m < n ∧ J m s6) (fun _ _ => False) s5) (fun _ _ => False) s4
            else ∃ m, m < n ∧ J m s4) (fun _ _ => False) s3) (fun _ _ => False) s2) (fun _ _ => False) s1) (fun _ _ => False) s)
    (n : Nat) (h : J n s) : codeAny (model prog w) A (.compLoop (.ListComp elt [⟨target, iter, ifs, 0⟩] scope pos) 0 it acc env) R s := by
  refine codeAny_loop rfl J (fun n s hJ => ?_) n h
  show wpAny (model prog w) A ((compTurn (.ListComp elt [⟨target, iter, ifs, 0⟩] scope pos) 0 it acc env).onRaise (fun y => do noteFrame y env; theTreesLotGoes y)) _ _ s
  refine wpAny_noted ?_
  rw [compTurn_list]
  refine wpAny_bind (wpAny_standAt (wpAny_bind (wpAny_mono (turn n s hJ) (fun r s1 h1 => ?_) fun _ _ z => z.elim)))
  cases r with
  | none => exact wpAny_pure h1
  | some v =>
    refine wpAny_bind (wpAny_mono h1 (fun _ s2 h2 => ?_) fun _ _ z => z.elim)
    refine wpAny_bind (wpAny_mono h2 (fun _ s3 h3 => ?_) fun _ _ z => z.elim)
    refine wpAny_bind (wpAny_mono h3 (fun ok s4 h4 => ?_) fun _ _ z => z.elim)
    cases ok with
    | false => exact wpAny_pure ⟨rfl, h4⟩
    | true =>
      refine wpAny_bind (wpAny_bind (wpAny_mono h4 (fun x s5 h5 => ?_) fun _ _ z => z.elim))
      exact wpAny_bind (wpAny_mono h5 (fun _ s6 h6 => wpAny_pure (wpAny_pure ⟨rfl, h6⟩)) fun _ _ z => z.elim)
def PF (X : Cx) (ifs : List Expr) (t : TT) : Prop :=
  ∀ (pins : List (Addr × Obj)) (s : Shared) (σ : St) (H : Hp) (Q : Bool → Hp → Prop), Inv X pins σ H s → t σ H Q →
    wpAny (model X.prog X.w) X.A (forIn ifs true fun c r => if r = true then do let ok ← isTrue c X.env (eval c X.env); pure (ForInStep.yield ok) else pure (ForInStep.yield r)) (TP X pins σ Q) X.xe s
def tYes : TT := fun _ H Q => Q true H
theorem pf_nil {X : Cx} : PF X [] tYes := fun _ _ _ H _ I h => wpAny_tests_nil ⟨H, I, h⟩
section
variable {X : Cx} {pins : List (Addr × Obj)} {σ : St} {H : Hp} {s : Shared}
theorem comp_ctx_ok {scope : Scope} {cl : List (Str × Addr)} {C : Addr} {N : List Str} {fp : List Addr} {k : Nat} {ix : List Nat} (I : Inv X pins σ H s) (hc : CompOk X.env.scope X.N k ix N scope)
    (hcl : ∀ n c, cl.lookup n = some c → X.env.cells.lookup n = some c) (hcl2 : ∀ n, (n, NameKind.free) ∈ scope.names → ∃ c, cl.lookup n = some c)
    (hC : s.heap.objs.size ≤ C) (hf : ∀ b ∈ fp, FpOk X pins H b) (hlt : ∀ b ∈ fp, b < s.heap.objs.size) : (cxComp X scope cl C N s H fp).Ok := by
  obtain ⟨kind, nocell, names, free, len, own⟩ := hc
  have lk : ∀ (l : List (Str × NameKind)) (x : Str) (kd : NameKind), l.lookup x = some kd → (x, kd) ∈ l := fun l x kd e => PySem.mem_of_lookup e
  refine ⟨I.ok.mod, kind, I.ok.glob, I.ok.blt, hC, fun x y c h1 h2 => I.ok.inj x y c (hcl x c h1) (hcl y c h2), fun x hx => ?_, fun x c z => (by cases z), I.ok.hd, I.ok.frames, .inl rfl, fun b hb => ⟨Nat.ne_of_lt (Nat.lt_of_lt_of_le (hlt b hb) hC), fun x c e => (hf b hb).2.2.2.2.1 x c (hcl x c e)⟩,
    I.bs, Nat.le_trans I.ok.bsz I.sz, fun b o e z => ?_, fun b hb z => ?_, I.stack, I.stkFree⟩
  ·
    have hx' : (relabel scope X.env).names.lookup x = some .cell ∨ (relabel scope X.env).names.lookup x = some .free := hx
    have key : (x, NameKind.free) ∈ scope.names := by
      have : ∃ kd, (x, kd) ∈ (relabel scope X.env).names ∧ (kd = .cell ∨ kd = .free) := by
        rcases hx' with z | z
        · exact ⟨_, lk _ _ _ z, .inl rfl⟩
        · exact ⟨_, lk _ _ _ z, .inr rfl⟩
      obtain ⟨kd, hm, hkd⟩ := this
      unfold relabel at hm
      obtain ⟨⟨n, k0⟩, h1, h2⟩ := List.mem_map.mp hm
      dsimp only at h2
      by_cases hc : (k0 == NameKind.free && X.env.scope.kind == .function && X.env.kindOf n == some .cell) = true
      · rw [if_pos hc] at h2
        cases h2
        have : k0 = .free := by
          simp only [Bool.and_eq_true] at hc
          simpa using hc.1.1
        rw [← this]
        exact h1
      · rw [if_neg hc] at h2
        cases h2
        rcases hkd with z | z
        · exact absurd z (nocell _ h1)
        · rw [← z]
          exact h1
    exact hcl2 x key
  · obtain ⟨_, _, _, hx, _⟩ := hf b z
    rcases hx with hx | hx
    · exact I.ok.noex b o e hx
    · exact absurd (Nat.lt_of_lt_of_le (Heap.lt_size (I.ok.bs b o e).1) hx) (Nat.lt_irrefl _)
  · rcases List.mem_cons.mp (I.stkSub b z) with e | e
    · exact (hf b hb).2.1 e
    · exact (hf b hb).2.2.1 e
theorem look_comp {scope : Scope} {cl : List (Str × Addr)} {C : Addr} {h' : Heap} {m m' : Str → Option Value} {x : Str} {u : Value} (hl : scope.names.lookup x = some .free)
    (ho : X.env.scope.names.lookup x = some .cell ∨ X.env.scope.names.lookup x = some .free) (hcl : ∀ n c, cl.lookup n = some c → X.env.cells.lookup n = some c) (hcl2 : ∃ c, cl.lookup x = some c)
    (l : Look X.env s.heap m x u) (hk : ∀ b o, s.heap.get? b = some o → h'.get? b = some o) : Look (compEnvC scope cl C X.env) h' m' x u := by
  rcases l with ⟨hk1, _⟩ | ⟨hk1, c, hc, o, e1, e2⟩
  · have hk1' : X.env.scope.names.lookup x = some .local := hk1
    rcases ho with z | z <;> rw [hk1'] at z <;> cases z
  · obtain ⟨c', hc'⟩ := hcl2
    have := hcl x c' hc'
    rw [hc] at this
    cases this
    refine .inr ⟨?_, c, hc', o, hk _ _ e1, e2⟩
    show (relabel scope X.env).names.lookup x = some .cell ∨ (relabel scope X.env).names.lookup x = some .free
    unfold relabel
    dsimp only
    revert hl
    generalize scope.names = ns
    intro hl
    induction ns with
    | nil => cases hl
    | cons y r ih =>
      obtain ⟨n, k0⟩ := y
      rw [List.map_cons]
      dsimp only
      rw [List.lookup_cons] at hl
      by_cases hxn : (x == n) = true
      · rw [hxn] at hl
        cases hl
        have exn : x = n := by simpa using hxn
        subst exn
        by_cases hc : (NameKind.free == NameKind.free && X.env.scope.kind == .function && X.env.kindOf x == some .cell) = true
        · rw [if_pos hc, List.lookup_cons, beq_self_eq_true]
          exact .inl rfl
        · rw [if_neg hc, List.lookup_cons, beq_self_eq_true]
          exact .inr rfl
      · have hxn' : (x == n) = false := by simpa using hxn
        rw [hxn'] at hl
        have hnn : ∀ (kk : NameKind), (List.lookup x ((n, kk) :: List.map (fun (y : Str × NameKind) => if (y.2 == NameKind.free && X.env.scope.kind == .function && X.env.kindOf y.1 == some .cell) = true then (y.1, NameKind.cell) else (y.1, y.2)) r)) = List.lookup x (List.map (fun (y : Str × NameKind) => if (y.2 == NameKind.free && X.env.scope.kind == .function && X.env.kindOf y.1 == some .cell) = true then (y.1, NameKind.cell) else (y.1, y.2)) r) := fun kk => by
          rw [List.lookup_cons, hxn']
        by_cases hc : (k0 == NameKind.free && X.env.scope.kind == .function && X.env.kindOf n == some .cell) = true
        · rw [if_pos hc]
          exact (hnn .cell).symm ▸ ih hl
        · rw [if_neg hc]
          exact (hnn k0).symm ▸ ih hl
theorem comp_inv {scope : Scope} {cl : List (Str × Addr)} {C : Addr} {N : List Str} {fp : List Addr} {k : Nat} {ix : List Nat} {h' : Heap} {m' : Str → Option Value} {t' : Nat} (I : Inv X pins σ H s) (hc : CompOk X.env.scope X.N k ix N scope)
    (hcl : ∀ n c, cl.lookup n = some c → X.env.cells.lookup n = some c) (hcl2 : ∀ n, (n, NameKind.free) ∈ scope.names → ∃ c, cl.lookup n = some c)
    (hC : s.heap.objs.size ≤ C) (hf : ∀ b ∈ fp, FpOk X pins H b) (hlt : ∀ b ∈ fp, b < s.heap.objs.size) (hk : ∀ b o, s.heap.get? b = some o → h'.get? b = some o) (hn : h'.Ns C m') :
    Inv (cxComp X scope cl C N s H fp) [] (List.replicate k none ++ outS ix σ) H { s with heap := h', toks := t' } := by
  have ok := comp_ctx_ok I hc hcl hcl2 hC hf hlt
  obtain ⟨kind, nocell, names, free, len, own⟩ := hc
  have mem : ∀ {x : Str}, scope.names.lookup x = some .free → (x, NameKind.free) ∈ scope.names := fun e => PySem.mem_of_lookup e
  refine ⟨ok, rfl, I.bare, Un.kept hk, ⟨m', hn, fun i x v h1 h2 _ => ?_⟩, fun x c e => ?_, I.hok.fresh hC, fun x c e => I.freeC x c (hcl x c e), fun p hp => (by cases hp), I.hok.kept hk, ?_⟩
  · have h1 : N[i]? = some x := h1
    have hi : k ≤ i := by
      rcases Nat.lt_or_ge i k with z | z
      · rw [List.getElem?_append_left (by simpa using z), List.getElem?_replicate, if_pos z] at h2
        cases h2
      · exact z
    rw [List.getElem?_append_right (by simpa using hi), List.length_replicate] at h2
    unfold outS at h2
    rw [List.getElem?_map] at h2
    cases e : ix[i - k]? with
    | none => rw [e] at h2; cases h2
    | some j =>
      rw [e] at h2
      have h2 : (σ[j]?).getD none = some v := Option.some.inj h2
      have hz : (x, j) ∈ (N.drop k).zip ix := by
        refine List.mem_of_getElem? (i := i - k) ?_
        rw [List.getElem?_zip_eq_some, List.getElem?_drop]
        exact ⟨by rw [Nat.add_sub_cancel' hi]; exact h1, e⟩
      obtain ⟨o1, o2⟩ := own _ hz
      have hs : σ[j]? = some (some v) := by
        cases q : σ[j]? with
        | none => rw [q] at h2; cases h2
        | some z => rw [q] at h2; have h2 : z = some v := h2; rw [h2]
      obtain ⟨m, hm, hl⟩ := I.loc
      have hfr := free _ (mem o2) rfl
      have hv : Vis X.env.scope x := hfr.elim (fun z => .inr (.inl z)) fun z => .inr (.inr z)
      obtain ⟨u, r, l⟩ := hl j x v o1 hs hv
      exact ⟨u, r, look_comp o2 hfr hcl (hcl2 _ (mem o2)) l hk⟩
  · obtain ⟨v, o, e1, e2⟩ := I.cell x c (hcl x c e)
    exact ⟨v, o, hk _ _ e1, e2⟩
  · show (List.replicate k none ++ outS ix σ).length = N.length
    rw [List.length_append, List.length_replicate, len]
    unfold outS
    rw [List.length_map]
structure BlockEnd (X : Cx) (scope : Scope) (cl : List (Str × Addr)) (N : List Str) (s : Shared) (H : Hp) (fp : List Addr) (D C : Addr) (ys : List V) (H' : Hp) (s' : Shared) : Prop where
  inv : ∃ σ', Inv (cxComp X scope cl C N s H fp) [] σ' H' s'
  dn : H' D = none
  lst : ∃ (its : List Value) (n : Nat), Vals ys its ∧ s'.heap.get? D = some { cls := .type "list", data := .seq its.toArray n }
  hD : s.heap.objs.size ≤ D
  hC : s.heap.objs.size ≤ C
  ne : D ≠ C
  sz : ys.length ≤ sizeLine
theorem BlockEnd.out {scope : Scope} {cl : List (Str × Addr)} {N : List Str} {fp : List Addr} {D C : Addr} {ys : List V} {H' : Hp} {s' : Shared} (I : Inv X pins σ H s) (hf : ∀ b ∈ fp, FpOk X pins H b)
    (B : BlockEnd X scope cl N s H fp D C ys H' s') : Inv X pins σ (upd H' D (.lst ys)) s' ∧ (∃ m, s'.heap.Ns C m) ∧ upd H' D (.lst ys) C = none := by
  obtain ⟨σ', J⟩ := B.inv
  obtain ⟨its, n, rv, e⟩ := B.lst
  have eD : ∀ b u, H' b = some u → b ≠ D := fun b u z => ne_of_none z B.dn
  refine ⟨?_, let ⟨m, hm, _⟩ := J.loc; ⟨m, hm⟩, by rw [upd_ne (Ne.symm B.ne)]; exact J.free⟩
  have U : Un (frs X.stack) fp H H' s.heap s'.heap := J.base
  refine I.call' (ch := fp) J.os ⟨U.keep, U.slot, fun b o q z hb => ?_, U.there, fun b xs q => ?_, fun b o xs q => ?_, fun b ps q => ?_⟩ ?_ J.bare fun b hb => ?_
  · rw [upd_ne (Nat.ne_of_lt (Nat.lt_of_lt_of_le (Heap.lt_size q) B.hD))]
    exact U.free b o q z hb
  · have z := U.tups b xs q
    rw [upd_ne (eD _ _ z)]; exact z
  · have z := U.frzs b o xs q
    rw [upd_ne (eD _ _ z)]; exact z
  · obtain ⟨m, z⟩ := U.tbls b ps q
    exact ⟨m, by rw [upd_ne (eD _ _ z)]; exact z⟩
  · intro b o q
    by_cases hb : b = D
    · subst hb
      rw [upd_same] at q
      cases q
      exact ⟨B.sz, its, n, rv, e⟩
    · rw [upd_ne hb] at q
      refine (J.hok b o q).stay (fun _ _ _ z => z) (fun c z => ?_) fun c xs z => ?_
      · rw [upd_ne (eD _ _ z)]; exact z
      · rw [upd_ne (eD _ _ z)]; exact z
  · obtain ⟨_, h1, h2, h3, h4, h5⟩ := hf b hb
    exact ⟨h3, h1, h4, h5⟩
end
end L2
set_option maxRecDepth 100000
set_option maxHeartbeats 4000000
namespace L2
open PySem PySem.Spec PyProof.Rows
def tTurn (k : Nat) (ix : List Nat) (g : TG) (tc : TT) (te : TE) (σ : St) (x : V) (H : Hp) (Qe : V → Hp → Prop) (Qn : Hp → Prop) : Prop :=
  g x (List.replicate k none ++ outS ix σ) H fun σ2 H2 => tc σ2 H2 fun b H3 => if b = true then te σ2 H3 Qe else Qn H3
def CompW (k : Nat) (ix : List Nat) (g : TG) (tc : TT) (te : TE) (σ : St) (J : It) (H1 : Hp) (Q : List V → Hp → Prop) : Prop :=
  ∃ W : Nat → Nat → List V → Hp → Prop, (∃ m, W 0 m [] H1) ∧ ∀ i m ys H, W i m ys H → ys.length ≤ sizeLine ∧
    ((J.stop i H ∧ Q ys H) ∨ (J.go i H ∧ ∀ x H', J.yld i H x H' → tTurn k ix g tc te σ x H' (fun v H4 => ∃ m', m' < m ∧ W (i + 1) m' (ys ++ [v]) H4) fun H3 => ∃ m', m' < m ∧ W (i + 1) m' ys H3))
section
variable {X : Cx} {pins : List (Addr × Obj)} {σ : St} {H : Hp} {s : Shared}
theorem comp_block {elt target iter : Expr} {ifs : List Expr} {scope : Scope} {cl : List (Str × Addr)} {pos : Pos} {N : List Str} {fp : List Addr} {k : Nat} {ix : List Nat} {it : Addr} {J : It} {tn : Nat → Heap → Prop} {g : TG} {tc : TT} {te : TE}
    {Q : List V → Hp → Prop} {RR : Value → Addr → Result → Shared → Prop} {E : Value → Shared → Prop} (hcalm : X.calm = true) (I : Inv X pins σ H s) (hc : CompOk X.env.scope X.N k ix N scope) (og : OwnG k g)
    (hcl : ∀ n c, cl.lookup n = some c → X.env.cells.lookup n = some c) (hcl2 : ∀ n, (n, NameKind.free) ∈ scope.names → ∃ c, cl.lookup n = some c)
    (T : Turn X.prog X.w X.K target J fp it tn) (t0 : tn 0 s.heap) (hf : ∀ b ∈ fp, FpOk X pins H b)
    (hg : ∀ C, PG (cxComp X scope cl C N s H fp) target g) (ht : ∀ C, PF (cxComp X scope cl C N s H fp) ifs tc) (he : ∀ C, PE (cxComp X scope cl C N s H fp) elt te)
    (hw : CompW k ix g tc te σ J H Q)
    (fin : ∀ D C ys H' s', BlockEnd X scope cl N s H fp D C ys H' s' → Q ys H' → RR (.ref D) C (.ok .next) s') :
    wpAny (model X.prog X.w) X.A (newList []) (fun acc s3 => wpAny (model X.prog X.w) X.A (newFunctionEnv scope X.env.globals cl [] X.env.qual none .none (some X.env)) (fun cenv s4 =>
      codeAny (model X.prog X.w) X.A (.compStart (.ListComp elt [⟨target, iter, ifs, 0⟩] scope pos) 0 (.ref it) acc { cenv with scope := relabel scope X.env }) (RR acc cenv.locals) s4) E s3) E s := by
  have hlt : ∀ b ∈ fp, b < s.heap.objs.size := fun b hb => by
    obtain ⟨o, e, _⟩ := T.obj 0 _ t0 b hb
    exact Heap.lt_size e
  refine wpAny_newObj_type (wpAny_newFunctionEnv hc.2.1 (by intro y hy; simp at hy) (fun h1 hns hsb => ?_) hc.1)
  dsimp only at hns hsb ⊢
  generalize eH : s.heap.push { cls := .type "list", dict := none, data := .seq ([] : List Value).toArray } = Hx at hns hsb ⊢
  have hC : Hx.objs.size = s.heap.objs.size + 1 := by rw [← eH, Heap.size_push]
  have hne : s.heap.objs.size ≠ Hx.objs.size := by rw [hC]; exact Nat.ne_of_lt (Nat.lt_succ_self _)
  have hle : s.heap.objs.size ≤ Hx.objs.size := by rw [hC]; exact Nat.le_succ _
  have old : ∀ b o, s.heap.get? b = some o → h1.get? b = some o := fun b o e =>
    hsb.extBut b o (Nat.ne_of_lt (Nat.lt_of_lt_of_le (Heap.lt_size e) hle)) (Heap.get?_push_of_some _ (eH ▸ Heap.get?_push_of_some _ e))
  have hacc : h1.PlainList s.heap.objs.size #[] := ⟨_, hsb.extBut _ _ hne (Heap.get?_push_of_some _ (eH ▸ Heap.get?_push_size _ rfl))⟩
  have ci := fun (t' : Nat) => comp_inv (C := Hx.objs.size) (t' := t') I hc hcl hcl2 hle hf hlt old hns
  have cfp : ∀ {H' : Hp}, (∀ b ∈ fp, H' b = none) → ∀ b ∈ fp, FpOk (cxComp X scope cl Hx.objs.size N s H fp) [] H' b := fun hn b hb => by
    obtain ⟨_, z1, z2, z3, z4, z5⟩ := hf b hb
    refine ⟨hn b hb, Nat.ne_of_lt (Nat.lt_of_lt_of_le (hlt b hb) hle), fun z => ?_, .inl hb, fun x c e => z4 x c (hcl x c e), fun p hp => by cases hp⟩
    rcases List.mem_cons.mp (I.stkSub b z) with e | e
    · exact z1 e
    · exact z2 e
  have dfs : s.heap.objs.size ∉ frs X.stack := fun z => (List.mem_cons.mp (I.stkSub _ z)).elim (fun e => absurd I.lt (by rw [e]; exact Nat.lt_irrefl _)) fun e => I.nofs (Nat.le_refl _) e
  have cne : ∀ x c, X.env.cells.lookup x = some c → c ≠ s.heap.objs.size := fun x c e z => by
    obtain ⟨_, o, q, _⟩ := I.cell x c e
    exact absurd (Heap.lt_size q) (by rw [z]; exact Nat.lt_irrefl _)
  obtain ⟨W, ⟨m0, w0⟩, turn⟩ := hw
  have loop : ∀ s3 : Shared, s3 = { s with heap := h1, toks := s.toks + ([] : List (Str × Value)).length } →
      codeAny (model X.prog X.w) X.A (.compLoop (.ListComp elt [⟨target, iter, ifs, 0⟩] scope pos) 0 (.ref it) (.ref s.heap.objs.size) (compEnvC scope cl Hx.objs.size X.env)) (RR (.ref s.heap.objs.size) Hx.objs.size) s3 := by
    rintro s3 rfl
    refine comp_loop (fun n s' => ∃ i ys H' its, Inv (cxComp X scope cl Hx.objs.size N s H fp) [] (List.replicate k none ++ outS ix σ) H' s' ∧ tn i s'.heap ∧ (∀ b ∈ fp, H' b = none) ∧ s'.heap.PlainList s.heap.objs.size (List.toArray its) ∧
      H' s.heap.objs.size = none ∧ Vals ys its ∧ W i n ys H') ?_ m0 ⟨0, [], H, [], ci _, T.keep _ _ _ t0 fun b _ o e => old b o e, fun b hb => (hf b hb).1, hacc, I.hok.fresh (Nat.le_refl _), .nil, w0⟩
    rintro n s4 ⟨i, ys, H4, its, I4, t4, f4, p4, d4, v4, w4⟩
    obtain ⟨hsz, turn4⟩ := turn i n ys H4 w4
    rcases turn4 with ⟨st, q⟩ | ⟨go, step⟩
    ·
      obtain ⟨pn, pe⟩ := p4
      have I4' : Inv (cxComp X scope cl Hx.objs.size N s H fp) [(s.heap.objs.size, { cls := .type "list", data := .seq its.toArray pn })] (List.replicate k none ++ outS ix σ) H4 s4 := I4.pins_of fun p hp => by
        have ep := List.mem_singleton.mp hp
        subst ep
        exact ⟨pe, d4, hne, dfs, fun v z => (by cases z)⟩
      have fp4 : ∀ b ∈ fp, FpOk (cxComp X scope cl Hx.objs.size N s H fp) [(s.heap.objs.size, { cls := .type "list", data := .seq its.toArray pn })] H4 b := fun b hb => by
        obtain ⟨z0, z1, z2, z3, z4, _⟩ := cfp f4 b hb
        refine ⟨z0, z1, z2, z3, z4, fun p hp e => ?_⟩
        have ep := List.mem_singleton.mp hp
        subst ep
        exact absurd (hlt b hb) (by rw [← e]; exact Nat.lt_irrefl _)
      refine thn (T.done (cxComp X scope cl Hx.objs.size N s H fp) rfl rfl rfl hcalm i _ s4 _ H4 _ I4' fp4 t4 st) fun r s5 ⟨hr, I5⟩ => ?_
      subst hr
      obtain ⟨e5, n5, _⟩ := I5.pin (s.heap.objs.size, _) (List.mem_singleton.mpr rfl)
      exact fin s.heap.objs.size Hx.objs.size ys H4 s5 ⟨⟨_, I5.pins_of (pins' := []) fun p hp => (by cases hp)⟩, n5, ⟨its, pn, v4, e5⟩, Nat.le_refl _, hle, hne, hsz⟩ q
    · obtain ⟨pn, pe⟩ := p4
      have I4' : Inv (cxComp X scope cl Hx.objs.size N s H fp) [(s.heap.objs.size, { cls := .type "list", data := .seq its.toArray pn })] (List.replicate k none ++ outS ix σ) H4 s4 := I4.pins_of fun p hp => by
        have ep := List.mem_singleton.mp hp
        subst ep
        exact ⟨pe, d4, hne, dfs, fun v z => (by cases z)⟩
      have fpx : ∀ {H' : Hp}, (∀ b ∈ fp, H' b = none) → ∀ b ∈ fp, FpOk (cxComp X scope cl Hx.objs.size N s H fp) [(s.heap.objs.size, { cls := .type "list", data := .seq its.toArray pn })] H' b := fun hn b hb => by
        obtain ⟨z0, z1, z2, z3, z4, _⟩ := cfp hn b hb
        refine ⟨z0, z1, z2, z3, z4, fun p hp e => ?_⟩
        have ep := List.mem_singleton.mp hp
        subst ep
        exact absurd (hlt b hb) (by rw [← e]; exact Nat.lt_irrefl _)
      refine thn (T.item (cxComp X scope cl Hx.objs.size N s H fp) rfl rfl rfl hcalm i _ s4 _ H4 (fun _ _ => False) I4' (fpx f4) t4 go) fun r s5 ⟨u, hr, h5⟩ => ?_
      subst hr
      refine thn h5 fun _ s6 ⟨x, H6, I6, r6, y6, t6, f6⟩ => ?_
      have I6' := I6.pinned (fpx f6) (T.obj _ _ t6)
      have stp := og x _ H6 _ (fun σ2 H2 => (σ2.length = (List.replicate k none ++ outS ix σ).length ∧ ∀ j, k ≤ j → σ2[j]? = (List.replicate k none ++ outS ix σ)[j]?) ∧
        tc σ2 H2 fun b H3 => if b = true then te σ2 H3 (fun v H4 => ∃ m', m' < n ∧ W (i + 1) m' (ys ++ [v]) H4) else ∃ m', m' < n ∧ W (i + 1) m' ys H3) (fun σ2 H2 a b c => ⟨⟨a, b⟩, c⟩) (step x H6 y6)
      refine thn (hg _ _ s6 _ H6 x u _ I6' r6 stp) fun _ s7 ⟨σ7, H7, I7, ⟨l7, k7⟩, q7⟩ => ?_
      have weak : ∀ {H' : Hp} {s' : Shared} {ps : List (Addr × Obj)}, Inv (cxComp X scope cl Hx.objs.size N s H fp) ps σ7 H' s' → Inv (cxComp X scope cl Hx.objs.size N s H fp) ps (List.replicate k none ++ outS ix σ) H' s' := fun z => z.weak l7.symm fun j v e => by
        rcases Nat.lt_or_ge j k with hj | hj
        · rw [List.getElem?_append_left (by simpa using hj), List.getElem?_replicate, if_pos hj] at e
          cases e
        · rw [k7 j hj]; exact e
      refine thn (ht _ _ s7 σ7 H7 _ I7 q7) fun ok s8 ⟨H8, I8, q8⟩ => ?_
      have keepT : ∀ {H' : Hp} {s' : Shared}, Inv (cxComp X scope cl Hx.objs.size N s H fp) ([(s.heap.objs.size, { cls := .type "list", data := .seq its.toArray pn })] ++ pinsAt fp s6.heap) σ7 H' s' →
          tn (i + 1) s'.heap ∧ (∀ b ∈ fp, H' b = none) ∧ s'.heap.PlainList s.heap.objs.size its.toArray ∧ H' s.heap.objs.size = none := fun {H' s'} z => by
        refine ⟨T.keep _ _ _ t6 fun b hb o e => (z.pin (b, o) (List.mem_append_right _ (List.mem_append_right _ (mem_pinsAt hb e)))).1, fun b hb => ?_, ?_⟩
        · obtain ⟨o, e, d⟩ := T.obj _ _ t6 b hb
          exact (z.pin (b, o) (List.mem_append_right _ (List.mem_append_right _ (mem_pinsAt hb e)))).2.1
        · obtain ⟨e, n', _⟩ := z.pin (s.heap.objs.size, { cls := .type "list", data := .seq its.toArray pn }) (List.mem_append_right _ (List.mem_append_left _ (List.mem_singleton.mpr rfl)))
          exact ⟨⟨pn, e⟩, n'⟩
      cases ok with
      | false =>
        have q8 : ∃ m', m' < n ∧ W (i + 1) m' ys H8 := by simpa using q8
        obtain ⟨m', hm, w8⟩ := q8
        obtain ⟨a1, a2, a3, a4⟩ := keepT I8
        exact ⟨m', hm, i + 1, ys, H8, its, (weak I8).pins_of (pins' := []) fun p hp => (by cases hp), a1, a2, a3, a4, v4, w8⟩
      | true =>
        have q8 : te σ7 H8 (fun v H4 => ∃ m', m' < n ∧ W (i + 1) m' (ys ++ [v]) H4) := by simpa using q8
        show wpAny _ _ (eval elt _) _ _ s8
        refine thn (he _ _ s8 σ7 H8 _ I8 q8) fun y s9 ⟨v, H9, I9, r9, m', hm, w9⟩ => ?_
        obtain ⟨a1, a2, a3, a4⟩ := keepT I9
        refine wpAny_list_append_plain a3 (fun h10 hp10 hs10 => ?_) (by rw [List.size_toArray, ← v4.length]; exact hsz)
        refine ⟨m', hm, i + 1, ys ++ [v], H9, its ++ [y], ?_, T.keep _ _ _ a1 fun b hb o e => hs10.extBut b o (fun z => absurd (hlt b hb) (by rw [z]; exact Nat.lt_irrefl _)) e, a2, by simpa using hp10, a4, Paired.snoc v4 r9, w9⟩
        have I9' : Inv (cxComp X scope cl Hx.objs.size N s H fp) [] (List.replicate k none ++ outS ix σ) H9 s9 := (weak I9).pins_of (pins' := []) fun p hp => (by cases hp)
        exact I9'.turned (t' := s9.toks) (it := s.heap.objs.size) (fun b o hb e => hs10.extBut b o hb e) a4 hne (.inr (Nat.le_refl _))
          (fun x c e => cne x c (hcl x c e)) fun p hp => (by cases hp)
  exact codeAny_compStart_list (loop _ rfl) (T.self _ 0 _ _ _ (T.keep _ _ _ t0 fun b _ o e => old b o e) (loop _ rfl))
end
def tComp (k : Nat) (ix : List Nat) (wi : TI) (g : TG) (tc : TT) (te : TE) : TE := fun σ H Q => wi σ H fun J H1 =>
  CompW k ix g tc te σ J H1 fun ys H2 => ∀ D, H2 D = none → Q (.ref D) (upd H2 D (.lst ys))
section
variable {X : Cx} {elt target iter : Expr} {ifs : List Expr} {scope : Scope} {pos : Pos} {N : List Str} {k : Nat} {ix : List Nat} {wi : TI} {g : TG} {tc : TT} {te : TE}
theorem comp_free {pins : List (Addr × Obj)} {σ : St} {H : Hp} {s : Shared} (I : Inv X pins σ H s) (hc : CompOk X.env.scope X.N k ix N scope) : ∀ y ∈ scope.names, y.2 = .free → ∃ c, X.env.cells.lookup y.1 = some c := fun y hy e =>
  I.ok.has y.1 (hc.2.2.2.1 y hy e)
theorem pe_comp (hcalm : X.calm = true) (hc : CompOk X.env.scope X.N k ix N scope) (og : OwnG k g) (hi : PI X target iter wi)
    (hb : ∀ cl C s H fp, PG (cxComp X scope cl C N s H fp) target g ∧ PF (cxComp X scope cl C N s H fp) ifs tc ∧ PE (cxComp X scope cl C N s H fp) elt te)
    (hs : ∀ x, foldedSetIterable iter X.env x = pure x := by intro _; rfl) : PE X (.ListComp elt [⟨target, iter, ifs, 0⟩] scope pos) (tComp k ix wi g tc te) := by
  intro pins s σ H Q I h
  obtain ⟨cl, hclos, hcl, hcl2⟩ := closureFor_ok X.env scope (comp_free I hc)
  rw [eval_ListComp]
  refine wpAny_comprehension_free (use := none) rfl hs hclos hc.1 hc.2.2.1 (thn (hi pins s σ H _ I h) fun xv s1 h1 => thn h1 fun itv s2 h2 => ?_)
  obtain ⟨it, fp, tn, J, H2, e, I2, T, st2, f2, hw⟩ := h2
  subst e
  refine comp_block hcalm I2 hc og hcl hcl2 T st2 f2 (fun C => (hb cl C s2 H2 fp).1) (fun C => (hb cl C s2 H2 fp).2.1) (fun C => (hb cl C s2 H2 fp).2.2) hw (RR := fun acc C => compPost (model X.prog X.w) X.A X.xe none (EP X pins σ Q) acc C) ?_
  intro D C ys H' s' B q
  obtain ⟨I3, ⟨m, hm⟩, hCn⟩ := B.out I2 f2
  refine ⟨m, hm, fun h' hs' => ?_⟩
  have q' := q D B.dn
  have hCs : X.s₀.heap.objs.size ≤ C := Nat.le_trans I2.sz B.hC
  obtain ⟨_, f1, f3, f4, f5, f6⟩ := I2.fpOk (H' := upd H' D (.lst ys)) B.hC hCn
  exact ⟨.ref D, _, I3.turned (t' := s'.toks) (it := C) (fun b o hb e => hs'.extBut b o hb e) hCn f1 f4 f5 f6, rfl, q'⟩
def tSetComp (i k : Nat) (ix : List Nat) (wi : TI) (g : TG) (tc : TT) (te : TE) : TS := fun D σ H => wi σ H fun J H1 =>
  CompW k ix g tc te σ J H1 fun ys H2 => ∀ p, H2 p = none → D.nx (σ.set i (some (.ref p))) (upd H2 p (.lst ys))
theorem ps_setComp {i : Nat} {x : Str} {pos' spos : Pos} (hcalm : X.calm = true) (hN : X.N.Nodup) (hx0 : X.N[i]? = some x) (hx : X.env.scope.names.lookup x = some .local) (hc : CompOk X.env.scope X.N k ix N scope) (og : OwnG k g) (hi : PI X target iter wi)
    (hb : ∀ cl C s H fp, PG (cxComp X scope cl C N s H fp) target g ∧ PF (cxComp X scope cl C N s H fp) ifs tc ∧ PE (cxComp X scope cl C N s H fp) elt te)
    (hsw : swapsWith (.ListComp elt [⟨target, iter, ifs, 0⟩] scope pos) (some (.Name x pos')) spos.line X.env = pure true := by rfl)
    (hs : ∀ x, foldedSetIterable iter X.env x = pure x := by intro _; rfl) : PS X (.Assign [.Name x pos'] (.ListComp elt [⟨target, iter, ifs, 0⟩] scope pos) spos) (tSetComp i k ix wi g tc te) := by
  intro pins s σ H Dn I h
  obtain ⟨cl, hclos, hcl, hcl2⟩ := closureFor_ok X.env scope (comp_free I hc)
  rw [exec_Assign_Name_used _ _ _ _ hsw]
  refine wpAny_bind (wpAny_standAt (wpAny_bind ?_))
  show wpAny _ X.A (do let _ ← comprehension (.ListComp elt [⟨target, iter, ifs, 0⟩] scope pos) scope X.env _ (newList []) false (eval iter X.env) (some (assign (.Name x pos') X.env))) _ _ s
  refine wpAny_bind (wpAny_mono (wpAny_comprehension_free (use := some (assign (.Name x pos') X.env)) (Q := fun _ s' => SP X pins Dn .next s') rfl hs hclos hc.1 hc.2.2.1
    (thn (hi pins s σ H _ I h) fun xv s1 h1 => thn h1 fun itv s2 h2 => ?_)) (fun _ s' hq => wpAny_pure (wpAny_pure hq)) fun _ _ e => e)
  obtain ⟨it, fp, tn, J, H2, e, I2, T, st2, f2, hw⟩ := h2
  subst e
  refine comp_block hcalm I2 hc og hcl hcl2 T st2 f2 (fun C => (hb cl C s2 H2 fp).1) (fun C => (hb cl C s2 H2 fp).2.1) (fun C => (hb cl C s2 H2 fp).2.2) hw (RR := fun acc C => compPost (model X.prog X.w) X.A X.xe (some (assign (.Name x pos') X.env)) (fun _ s' => SP X pins Dn .next s') acc C) ?_
  intro D C ys H' s' B q
  obtain ⟨I3, ⟨m, o, es, ep, ho, hd, hr⟩, hCn⟩ := B.out I2 f2
  have q' := q D B.dn
  obtain ⟨_, f1, f3, f4, f5, f6⟩ := I2.fpOk (H' := upd H' D (.lst ys)) B.hC hCn
  have I4 : Inv X (pins ++ [(C, o)]) σ (upd H' D (.lst ys)) s' := I3.pins_of fun p hp => (List.mem_append.mp hp).elim (fun z => I3.pin p (List.mem_append_right _ z)) fun z => by
    have z' := List.mem_singleton.mp z
    subst z'
    exact ⟨ho, hCn, f1, f3, fun v z => by rw [hd] at z; cases z⟩
  show wpAny _ X.A (assign (.Name x pos') X.env (.ref D)) _ _ s'
  refine wpAny_assign_Name (store_ok I4 hN hx0 (.inl hx) (v := .ref D) (u := .ref D) rfl (fun s5 I5 => ?_) (.inr hx))
  obtain ⟨e5, n5, _⟩ := I5.pin (C, o) (List.mem_append_right _ (List.mem_append_right _ (List.mem_singleton.mpr rfl)))
  refine ⟨m, ⟨o, es, ep, e5, hd, hr⟩, fun h' hs' => ?_⟩
  exact ⟨_, _, I5.unpinned.turned (t' := s5.toks) (it := C) (fun b o hb e => hs'.extBut b o hb e) hCn f1 f4 f5 f6, q'⟩
end
end L2
set_option maxRecDepth 100000
set_option maxHeartbeats 4000000
namespace L2
open PySem PySem.Spec PyProof.Rows
def ExcAt (a C : Addr) (h : Heap) : Prop := ∃ o vs, h.get? a = some o ∧ o.cls = .ref C ∧ o.data = .fields vs
def excD (C : Addr) : PyData := .dict [(.none, .int (C : Int))]
def ExcDAt (a C dx : Addr) (h : Heap) : Prop := ∃ o vs, h.get? a = some o ∧ o.cls = .ref C ∧ o.data = .fields vs ∧ o.dict = some dx
def excRD (C : Addr) (n : Int) : PyData := .dict [(.none, .int (C : Int)), (.none, .int n)]
def excC : List (PyData × PyData) → Option Addr
  | [(.none, .int i)] => some i.toNat
  | [(.none, .int i), (.none, .int _)] => some i.toNat
  | _ => none
def keyD : Key → PyData
  | .inl i => .int i
  | .inr x => .str x
mutual
inductive DV (K : PySem.W.Frag) (H : Hp) : V → PyData → Prop where
  | non : DV K H .non .none
  | bl (b : Bool) : DV K H (.bl b) (.bool b)
  | int (i : Int) : DV K H (.int i) (.int i)
  | str (x : Str) : DV K H (.str x) (.str x)
  | tup {a : Addr} {xs : List V} {ds : List PyData} : SqT K H a xs → DVs K H xs ds → DV K H (.ref a) (.tuple ds)
  | lst {a : Addr} {xs : List V} {ds : List PyData} : SqL K H a xs → DVs K H xs ds → DV K H (.ref a) (.list ds)
  | dct {a : Addr} {kvs : List (Key × V)} {es : List (PyData × PyData)} : H a = some (.dK kvs) → DVk K H kvs es → DV K H (.ref a) (.dict es)
  | exc {a C : Addr} : H a = some (.ext (ExcAt a C)) → DV K H (.ref a) (.dict [(.none, .int (C : Int))])
  | exr {a C dx : Addr} {n : Int} : H a = some (.ext (ExcDAt a C dx)) → H dx = some (.xd [("row", .int n)]) → DV K H (.ref a) (.dict [(.none, .int (C : Int)), (.none, .int n)])
inductive DVs (K : PySem.W.Frag) (H : Hp) : List V → List PyData → Prop where
  | nil : DVs K H [] []
  | cons {x : V} {d : PyData} {xs : List V} {ds : List PyData} : DV K H x d → DVs K H xs ds → DVs K H (x :: xs) (d :: ds)
inductive DVk (K : PySem.W.Frag) (H : Hp) : List (Key × V) → List (PyData × PyData) → Prop where
  | nil : DVk K H [] []
  | cons {k : Key} {x : V} {d : PyData} {xs : List (Key × V)} {ds : List (PyData × PyData)} : DV K H x d → DVk K H xs ds → DVk K H ((k, x) :: xs) ((keyD k, d) :: ds)
end
theorem Same.seqT {K : PySem.W.Frag} {H H' : Hp} {a : Addr} {xs : List V} (e : Same H H') (h : SqT K H a xs) : SqT K H' a xs := by
  rcases h with (h | ⟨o, h⟩) | h
  · exact .inl (.inl (e _ _ h))
  · exact .inl (.inr ⟨o, e _ _ h⟩)
  · exact .inr h
section
variable {K : PySem.W.Frag} {H H' : Hp}
mutual
theorem DV.mono (e : Same H H') : ∀ {v : V} {d : PyData}, DV K H v d → DV K H' v d
  | _, _, .non => .non
  | _, _, .bl b => .bl b
  | _, _, .int i => .int i
  | _, _, .str x => .str x
  | _, _, .tup h t => .tup (e.seqT h) (DVs.mono e t)
  | _, _, .lst h t => .lst (e.seq h) (DVs.mono e t)
  | _, _, .dct h t => .dct (e _ _ h) (DVk.mono e t)
  | _, _, .exc h => .exc (e _ _ h)
  | _, _, .exr h h' => .exr (e _ _ h) (e _ _ h')
theorem DVs.mono (e : Same H H') : ∀ {vs : List V} {ds : List PyData}, DVs K H vs ds → DVs K H' vs ds
  | _, _, .nil => .nil
  | _, _, .cons h t => .cons (DV.mono e h) (DVs.mono e t)
theorem DVk.mono (e : Same H H') : ∀ {vs : List (Key × V)} {ds : List (PyData × PyData)}, DVk K H vs ds → DVk K H' vs ds
  | _, _, .nil => .nil
  | _, _, .cons h t => .cons (DV.mono e h) (DVk.mono e t)
end
theorem DVs.length : ∀ {vs : List V} {ds : List PyData}, DVs K H vs ds → vs.length = ds.length
  | _, _, .nil => rfl
  | _, _, .cons _ t => by rw [List.length_cons, List.length_cons, DVs.length t]
theorem DVs.get : ∀ {vs : List V} {ds : List PyData} {i : Nat} {d : PyData}, DVs K H vs ds → ds[i]? = some d → ∃ v, vs[i]? = some v ∧ DV K H v d
  | _, _, _, _, .nil, e => by simp at e
  | _, _, 0, _, .cons h _, e => by simp at e; subst e; exact ⟨_, rfl, h⟩
  | _, _, i + 1, d, .cons _ t, e => by
    obtain ⟨v, h1, h2⟩ := DVs.get (i := i) (d := d) t (by simpa using e)
    exact ⟨v, by simpa using h1, h2⟩
theorem DVs.get' : ∀ {vs : List V} {ds : List PyData} {i : Nat} {v : V}, DVs K H vs ds → vs[i]? = some v → ∃ d, ds[i]? = some d ∧ DV K H v d
  | _, _, _, _, .nil, e => by simp at e
  | _, _, 0, _, .cons h _, e => by simp at e; subst e; exact ⟨_, rfl, h⟩
  | _, _, i + 1, d, .cons _ t, e => by
    obtain ⟨v, h1, h2⟩ := DVs.get' (i := i) (v := d) t (by simpa using e)
    exact ⟨v, by simpa using h1, h2⟩
theorem DVs.append : ∀ {vs ws : List V} {ds es : List PyData}, DVs K H vs ds → DVs K H ws es → DVs K H (vs ++ ws) (ds ++ es)
  | _, _, _, _, .nil, s => s
  | _, _, _, _, .cons h t, s => .cons h (DVs.append t s)
theorem DVs.take : ∀ {vs : List V} {ds : List PyData} (n : Nat), DVs K H vs ds → DVs K H (vs.take n) (ds.take n)
  | _, _, 0, _ => .nil
  | _, _, _ + 1, .nil => .nil
  | _, _, n + 1, .cons h t => .cons h (DVs.take n t)
theorem DVs.drop : ∀ {vs : List V} {ds : List PyData} (n : Nat), DVs K H vs ds → DVs K H (vs.drop n) (ds.drop n)
  | _, _, 0, r => r
  | _, _, _ + 1, .nil => .nil
  | _, _, n + 1, .cons _ t => DVs.drop n t
theorem DVs.ints : ∀ (ns : List Int), DVs K H (ns.map V.int) (ns.map PyData.int)
  | [] => .nil
  | n :: r => .cons (.int n) (DVs.ints r)
theorem DVs.of_ints : ∀ {vs : List V} {ns : List Int}, DVs K H vs (ns.map PyData.int) → vs = ns.map V.int
  | _, [], .nil => rfl
  | _, n :: r, .cons h t => by cases h; rw [DVs.of_ints t]; rfl
theorem DVs.of_bools : ∀ {vs : List V} {ns : List Bool}, DVs K H vs (ns.map PyData.bool) → vs = ns.map V.bl
  | _, [], .nil => rfl
  | _, n :: r, .cons h t => by cases h; rw [DVs.of_bools t]; rfl
theorem DV.of_int {v : V} {i : Int} (h : DV K H v (.int i)) : v = .int i := by cases h; rfl
theorem DV.of_bl {v : V} {i : Bool} (h : DV K H v (.bool i)) : v = .bl i := by cases h; rfl
theorem DV.of_str {v : V} {i : Str} (h : DV K H v (.str i)) : v = .str i := by cases h; rfl
theorem DV.of_tup {v : V} {ds : List PyData} (h : DV K H v (.tuple ds)) : ∃ a xs, v = .ref a ∧ SqT K H a xs ∧ DVs K H xs ds := by cases h with | tup h t => exact ⟨_, _, rfl, h, t⟩
theorem excC_dvk {kvs : List (Key × V)} {es : List (PyData × PyData)} (h : DVk K H kvs es) : excC es = none := by
  cases h with
  | nil => rfl
  | cons h t =>
    rename_i k x d xs ds
    cases t with
    | nil => cases k <;> cases d <;> rfl
    | cons h2 t2 => rename_i k2 x2 d2 xs2 ds2; cases k <;> cases d <;> cases k2 <;> cases d2 <;> cases ds2 <;> rfl
theorem DV.of_exc {v : V} {C : Addr} (h : DV K H v (excD C)) : ∃ a, v = .ref a ∧ H a = some (.ext (ExcAt a C)) := by
  unfold excD at h
  generalize ei : ((C : Nat) : Int) = i at h
  generalize ee : PyData.dict [(.none, .int i)] = e at h
  cases h with
  | dct h t =>
    injection ee with ee
    subst ee
    have z := excC_dvk t
    cases z
  | exc h =>
    injection ee with ee
    injection ee with ee _
    injection ee with _ ee
    injection ee with ee
    have : C = _ := Int.ofNat.inj (ei.trans ee)
    subst this
    exact ⟨_, rfl, h⟩
  | _ => cases ee
theorem DV.of_lst {v : V} {ds : List PyData} (h : DV K H v (.list ds)) : ∃ a xs, v = .ref a ∧ SqL K H a xs ∧ DVs K H xs ds := by cases h with | lst h t => exact ⟨_, _, rfl, h, t⟩
end
mutual
theorem DV.reads {X : Cx} {pins : List (Addr × Obj)} {σ : St} {H : Hp} {s : Shared} (I : Inv X pins σ H s) : ∀ {v : V} {d : PyData} {u : Value}, DV X.K H v d → RelV v u → d.canLay0 = true → ∃ as, Reads s.heap u d as
  | _, _, _, .non, r, _ => ⟨[], by rw [show _ = Value.none from r]; exact .none⟩
  | _, _, _, .bl b, r, _ => ⟨[], by rw [show _ = Value.bool b from r]; exact .bool b⟩
  | _, _, _, .int i, r, _ => let ⟨t, e⟩ := r; ⟨[], by rw [e]; exact .int i t⟩
  | _, _, _, .str x, r, _ => let ⟨t, e⟩ := r; ⟨[], by rw [e]; exact .str x t⟩
  | _, _, _, .tup h t, r, c => by
    rw [show _ = Value.ref _ from r]
    obtain ⟨its, rv, ⟨o, e1, e2, n, e3⟩, _⟩ := I.tuple h
    obtain ⟨as, q⟩ := DVs.reads I t rv (by unfold PyData.canLay0 at c; exact c)
    exact ⟨_, .tuple e1 e2 e3 (by simpa using q)⟩
  | _, _, _, .lst h t, r, c => by
    rw [show _ = Value.ref _ from r]
    obtain ⟨its, rv, pl, _⟩ := I.list h
    obtain ⟨o, e1, e2, n, e3⟩ := pl.isList
    obtain ⟨as, q⟩ := DVs.reads I t rv (by unfold PyData.canLay0 at c; exact c)
    exact ⟨_, .list e1 e2 e3 (by simpa using q)⟩
  | _, _, _, .dct h t, r, c => by simp [PyData.canLay0] at c
  | _, _, _, .exc h, r, c => by simp [PyData.canLay0] at c
  | _, _, _, .exr h h', r, c => by simp [PyData.canLay0] at c
theorem DVs.reads {X : Cx} {pins : List (Addr × Obj)} {σ : St} {H : Hp} {s : Shared} (I : Inv X pins σ H s) : ∀ {vs : List V} {ds : List PyData} {us : List Value}, DVs X.K H vs ds → Vals vs us → PyData.canLayAll0 ds = true → ∃ as, ReadsAll s.heap us ds as
  | _, _, _, .nil, .nil, _ => ⟨_, .nil⟩
  | _, _, _, .cons h t, .cons r rs, c => by
    unfold PyData.canLayAll0 at c
    rw [Bool.and_eq_true] at c
    obtain ⟨a1, q1⟩ := DV.reads I h r c.1
    obtain ⟨a2, q2⟩ := DVs.reads I t rs c.2
    exact ⟨_, .cons q1 q2⟩
end
abbrev Gam := List (Option PyData)
def SD (K : PySem.W.Frag) (H : Hp) (σ : St) (G : Gam) : Prop := σ.length = G.length ∧ ∀ (i : Nat) d, G[i]? = some (some d) → ∃ v, σ[i]? = some (some v) ∧ DV K H v d
theorem SD.mono {K : PySem.W.Frag} {H H' : Hp} {σ : St} {G : Gam} (h : SD K H σ G) (e : Same H H') : SD K H' σ G := ⟨h.1, fun i d z => let ⟨v, a, b⟩ := h.2 i d z; ⟨v, a, b.mono e⟩⟩
theorem SD.set {K : PySem.W.Frag} {H : Hp} {σ : St} {G : Gam} {i : Nat} {v : V} {d : PyData} (h : SD K H σ G) (q : DV K H v d) : SD K H (σ.set i (some v)) (G.set i (some d)) := by
  refine ⟨by rw [List.length_set, List.length_set, h.1], fun j e z => ?_⟩
  by_cases hj : i = j
  · subst hj
    by_cases hl : i < G.length
    · rw [List.getElem?_set_self hl] at z
      cases z
      exact ⟨v, List.getElem?_set_self (by rw [h.1]; exact hl), q⟩
    · rw [List.getElem?_eq_none (by rw [List.length_set]; omega)] at z
      cases z
  · rw [List.getElem?_set_ne hj] at z
    obtain ⟨w, a, b⟩ := h.2 j e z
    exact ⟨w, by rw [List.getElem?_set_ne hj]; exact a, b⟩
theorem SD.forget {K : PySem.W.Frag} {H : Hp} {σ : St} {G G' : Gam} (h : SD K H σ G) (hl : G'.length = G.length) (hw : ∀ (i : Nat) d, G'[i]? = some (some d) → G[i]? = some (some d)) : SD K H σ G' := ⟨h.1.trans hl.symm, fun i d z => h.2 i d (hw i d z)⟩
def tD (K : PySem.W.Frag) (G : Gam) (d : PyData) : TE := fun σ H Q => SD K H σ G ∧ ∀ v H', Same H H' → DV K H' v d → Q v H'
def tDT (K : PySem.W.Frag) (G : Gam) (b : Bool) : TT := fun σ H Q => SD K H σ G ∧ ∀ H', Same H H' → Q b H'
def tDA (K : PySem.W.Frag) (G : Gam) (ds : List PyData) : TA := fun σ H Q => SD K H σ G ∧ ∀ vs H', Same H H' → DVs K H' vs ds → Q vs H'
inductive Out where
  | next (G : Gam) | ret (d : PyData)
def tDS (K : PySem.W.Frag) (G : Gam) (o : Out) : TS := fun D σ H => SD K H σ G ∧ match o with
  | .next G' => ∀ σ' H', Same H H' → SD K H' σ' G' → D.nx σ' H'
  | .ret d => ∀ v H', Same H H' → DV K H' v d → D.rt v H'
abbrev EV (X : Cx) (G : Gam) (e : Expr) (d : PyData) : Prop := PE X e (tD X.K G d)
abbrev TV (X : Cx) (G : Gam) (e : Expr) (b : Bool) : Prop := PT X e (tDT X.K G b)
abbrev WV (X : Cx) (G : Gam) (e : Expr) (b : Bool) : Prop := PW X e (tDT X.K G b)
abbrev AV (X : Cx) (G : Gam) (es : List Expr) (ds : List PyData) : Prop := PA X es (tDA X.K G ds)
abbrev SV (X : Cx) (G : Gam) (st : Stmt) (o : Out) : Prop := PS X st (tDS X.K G o)
abbrev SVs (X : Cx) (G : Gam) (st : List Stmt) (o : Out) : Prop := PSs X st (tDS X.K G o)
section
variable {X : Cx} {G : Gam} {a b c e : Expr} {es : List Expr} {pos : Pos} {d da db dc : PyData}
theorem PE.imp {t t' : TE} (h : PE X e t) (m : ∀ σ H Q, t' σ H Q → t σ H Q) : PE X e t' := fun pins s σ H Q I q => h pins s σ H Q I (m σ H Q q)
theorem PT.imp {t t' : TT} (h : PT X e t) (m : ∀ σ H Q, t' σ H Q → t σ H Q) : PT X e t' := fun pins s σ H Q I q => h pins s σ H Q I (m σ H Q q)
theorem PW.imp {t t' : TT} (h : PW X e t) (m : ∀ σ H Q, t' σ H Q → t σ H Q) : PW X e t' := fun w pins s σ H Q I q => h w pins s σ H Q I (m σ H Q q)
theorem PA.imp {t t' : TA} (h : PA X es t) (m : ∀ σ H Q, t' σ H Q → t σ H Q) : PA X es t' := fun p pins s σ H Q I q => h p pins s σ H Q I (m σ H Q q)
theorem PS.imp {st : Stmt} {t t' : TS} (h : PS X st t) (m : ∀ D σ H, t' D σ H → t D σ H) : PS X st t' := fun pins s σ H D I q => h pins s σ H D I (m D σ H q)
theorem PSs.imp {st : List Stmt} {t t' : TS} (h : PSs X st t) (m : ∀ D σ H, t' D σ H → t D σ H) : PSs X st t' := fun pins s σ H D I q => h pins s σ H D I (m D σ H q)
theorem OpR.imp {f : Value → Value → Sem Value} {r r' : R2} (h : OpR X f r) (m : ∀ x y H Q, r' x y H Q → r x y H Q) : OpR X f r' := fun pins s σ H x y v u Q I rx ry q => h pins s σ H x y v u Q I rx ry (m x y H Q q)
theorem CallR.imp {f : Value} {r r' : List V → Hp → VK → Prop} (h : CallR X f r) (m : ∀ xs H Q, r' xs H Q → r xs H Q) : CallR X f r' := fun pins s σ H xs us Q I rs q => h pins s σ H xs us Q I rs (m xs H Q q)
theorem ev_var (i : Nat) {x : Str} (hG : G[i]? = some (some d)) (hp : PE X (.Name x pos) (tVar i)) : EV X G (.Name x pos) d := hp.imp fun σ H Q ⟨h, k⟩ => by
  obtain ⟨v, a, b⟩ := h.2 i d hG
  exact ⟨v, a, k v H (Same.refl H) b⟩
theorem ev_int {i j} : EV X G (.Constant (.int i) j pos) (.int i) := pe_int.imp fun σ H Q ⟨h, k⟩ => k _ H (Same.refl H) (.int i)
theorem ev_bl {i j} : EV X G (.Constant (.bool i) j pos) (.bool i) := pe_bl.imp fun σ H Q ⟨h, k⟩ => k _ H (Same.refl H) (.bl i)
theorem ev_str {i j} : EV X G (.Constant (.str i) j pos) (.str i) := pe_str.imp fun σ H Q ⟨h, k⟩ => k _ H (Same.refl H) (.str i)
theorem ev_non {j} : EV X G (.Constant .none j pos) .none := pe_non.imp fun σ H Q ⟨h, k⟩ => k _ H (Same.refl H) .non
def rD (K : PySem.W.Frag) (da db d : PyData) : R2 := fun x y H Q => DV K H x da ∧ DV K H y db ∧ ∀ v H', Same H H' → DV K H' v d → Q v H'
abbrev OD (X : Cx) (f : Value → Value → Sem Value) (da db d : PyData) : Prop := OpR X f (rD X.K da db d)
theorem tOp_D {r : R2} {σ : St} {H : Hp} {Q : VK} {K : PySem.W.Frag} (h : SD K H σ G) (k : ∀ x y H', Same H H' → DV K H' x da → DV K H' y db → r x y H' Q) : tOp r (tD K G da) (tD K G db) σ H Q :=
  ⟨h, fun x H1 s1 d1 => ⟨h.mono s1, fun y H2 s2 d2 => k x y H2 (s1.trans s2) (d1.mono s2) d2⟩⟩
theorem ev_bin {op : Operator} (ha : EV X G a da) (hb : EV X G b db) (ho : OD X (binaryOp op) da db d) : EV X G (.BinOp a op b pos) d :=
  (pe_op ho ha hb).imp fun σ H Q ⟨h, k⟩ => tOp_D h fun x y H' s' d1 d2 => ⟨d1, d2, fun v H2 s2 dv => k v H2 (s'.trans s2) dv⟩
theorem ev_cmp {op : CmpOp} (ha : EV X G a da) (hb : EV X G b db) (ho : OD X (compareOp op) da db d) (hm : behindInMarks op b = false) : EV X G (.Compare a [op] [b] pos) d :=
  (pe_cmpR ho ha hb hm).imp fun σ H Q ⟨h, k⟩ => tOp_D h fun x y H' s' d1 d2 => ⟨d1, d2, fun v H2 s2 dv => k v H2 (s'.trans s2) dv⟩
theorem tv_cmp {op : CmpOp} {k : Bool} (ha : EV X G a da) (hb : EV X G b db) (ho : OD X (compareOp op) da db (.bool k)) (hm : behindInMarks op b = false) : TV X G (.Compare a [op] [b] pos) k :=
  (pt_cmpR ho ha hb hm).imp fun σ H Q ⟨h, kk⟩ => tOp_D h fun x y H' s' d1 d2 => ⟨d1, d2, fun v H2 s2 dv => ⟨k, dv.of_bl, kk H2 (s'.trans s2)⟩⟩
theorem od_rI0 {f : Value → Value → Sem Value} {i j : Int} {g : Int → Int → V} (h : OpR X f (rI0 g)) (hd : ∀ H, DV X.K H (g i j) d) : OD X f (.int i) (.int j) d :=
  h.imp fun x y H Q ⟨h1, h2, k⟩ => ⟨i, j, h1.of_int, h2.of_int, k _ H (Same.refl H) (hd H)⟩
theorem od_rI {f : Value → Value → Sem Value} {i j : Int} {C : Int → Int → Prop} {g : Int → Int → V} (h : OpR X f (rI C g)) (hc : C i j) (hd : ∀ H, DV X.K H (g i j) d) : OD X f (.int i) (.int j) d :=
  h.imp fun x y H Q ⟨h1, h2, k⟩ => ⟨i, j, h1.of_int, h2.of_int, hc, k _ H (Same.refl H) (hd H)⟩
theorem od_eq {k : Bool} (hu : X.A.units + 64 < cLine) (ha : da.canLay0 = true) (hb : db.canLay0 = true) (hd : min da.depth db.depth ≤ 60) (hk : PyData.eqv da db = k) : OD X (compareOp .Eq) da db (.bool k) := by
  intro pins s σ H x y v u Q I rx ry ⟨h1, h2, q⟩
  obtain ⟨as, r1⟩ := h1.reads I rx ha
  obtain ⟨bs, r2⟩ := h2.reads I ry hb
  refine PySem.SeqAt.compareEq_reads r1 r2 ha hb (by omega) ⟨.bl _, H, I, rfl, q _ H (Same.refl H) ?_⟩
  rw [hk]
  exact .bl k
theorem od_ne {k : Bool} (hu : X.A.units + 64 < cLine) (ha : da.canLay0 = true) (hb : db.canLay0 = true) (hd : min da.depth db.depth ≤ 60) (hk : (!PyData.eqv da db) = k) : OD X (compareOp .NotEq) da db (.bool k) := by
  intro pins s σ H x y v u Q I rx ry ⟨h1, h2, q⟩
  obtain ⟨as, r1⟩ := h1.reads I rx ha
  obtain ⟨bs, r2⟩ := h2.reads I ry hb
  refine PySem.SeqAt.compareNe_reads r1 r2 ha hb (by omega) ⟨.bl _, H, I, rfl, q _ H (Same.refl H) ?_⟩
  rw [hk]
  exact .bl k
end
end L2
set_option maxRecDepth 100000
set_option maxHeartbeats 4000000
namespace L2
open PySem PySem.Spec PyProof.Rows
section
variable {X : Cx} {G : Gam} {a b c e : Expr} {es rest : List Expr} {pos : Pos} {d da db dc : PyData}
theorem Same.new {H : Hp} {p : Addr} {o : HO} (h : H p = none) : Same H (upd H p o) := fun b u e => by rw [upd_ne (ne_of_none e h)]; exact e
theorem tv_val {k : Bool} (h : EV X G e (.bool k)) (he : ∀ whole, isTrue e X.env whole = (do let v ← whole; standAt e.pos; holding [v] (truthy v)) := by intro _; rfl) : TV X G e k :=
  (pt_val h he).imp fun σ H Q ⟨h, q⟩ => ⟨h, fun v H' s' dv => ⟨k, dv.of_bl, q H' s'⟩⟩
theorem wv_and1 {k : Bool} (h : TV X G a k) : WV X G (.BoolOp .And [a] pos) k := pw_and1 h
theorem wv_or1 {k : Bool} (h : TV X G a k) : WV X G (.BoolOp .Or [a] pos) k := pw_or1 h
theorem wv_and {k k' : Bool} (h : TV X G a k) (h2 : k = true → WV X G (.BoolOp .And (b :: rest) pos) k') : WV X G (.BoolOp .And (a :: b :: rest) pos) (k && k') := by
  cases k with
  | true => exact (pw_and h (h2 rfl)).imp fun σ H Q ⟨h, q⟩ => ⟨h, fun H' s' => (by simp only [if_true]; exact ⟨h.mono s', fun H2 s2 => q H2 (s'.trans s2)⟩)⟩
  | false =>
    intro wh pins s σ H Q I ⟨h1, q⟩
    refine isTrue_and (thn (h pins s σ H (fun c H1 => c = false ∧ Q false H1) I ⟨h1, fun H' s' => ⟨rfl, q H' s'⟩⟩) fun c s1 ⟨H1, I1, e1, q1⟩ => ?_)
    subst e1
    exact ⟨H1, I1, q1⟩
theorem wv_or {k k' : Bool} (h : TV X G a k) (h2 : k = false → WV X G (.BoolOp .Or (b :: rest) pos) k') : WV X G (.BoolOp .Or (a :: b :: rest) pos) (k || k') := by
  cases k with
  | false => exact (pw_or h (h2 rfl)).imp fun σ H Q ⟨h, q⟩ => ⟨h, fun H' s' => (by simp only [Bool.false_eq_true, if_false]; exact ⟨h.mono s', fun H2 s2 => q H2 (s'.trans s2)⟩)⟩
  | true =>
    intro wh pins s σ H Q I ⟨h1, q⟩
    refine isTrue_or (thn (h pins s σ H (fun c H1 => c = true ∧ Q true H1) I ⟨h1, fun H' s' => ⟨rfl, q H' s'⟩⟩) fun c s1 ⟨H1, I1, e1, q1⟩ => ?_)
    subst e1
    exact ⟨H1, I1, q1⟩
theorem tv_w {k : Bool} (h : WV X G e k) : TV X G e k := h.pt
theorem tv_not {k : Bool} (h : TV X G a k) : TV X G (.UnaryOp .Not a pos) (!k) := (pt_not h).imp fun σ H Q ⟨h, q⟩ => ⟨h, fun H' s' => q H' s'⟩
theorem ev_not {k : Bool} (h : EV X G a (.bool k)) : EV X G (.UnaryOp .Not a pos) (.bool (!k)) := (pe_not h).imp fun σ H Q ⟨h, q⟩ => ⟨h, fun v H' s' dv => ⟨k, dv.of_bl, q _ H' s' (.bl _)⟩⟩
theorem ev_one {op} (h : EV X G a d) : EV X G (.BoolOp op [a] pos) d := pe_one h
theorem ev_and {k : Bool} (h : EV X G a (.bool k)) (h2 : k = true → EV X G (.BoolOp .And (b :: rest) pos) d) (h3 : k = false → d = .bool false) : EV X G (.BoolOp .And (a :: b :: rest) pos) d := by
  cases k with
  | true => exact (pe_and h (h2 rfl)).imp fun σ H Q ⟨h, q⟩ => ⟨h, fun v H' s' dv => ⟨true, dv.of_bl, by simp only [if_true]; exact ⟨h.mono s', fun v2 H2 s2 d2 => q v2 H2 (s'.trans s2) d2⟩⟩⟩
  | false =>
    intro pins s σ H Q I ⟨h1, q⟩
    refine BoolOp_and (thn (h pins s σ H (fun v H1 => v = .bl false ∧ Q (.bl false) H1) I ⟨h1, fun v H' s' dv => ⟨dv.of_bl, q _ H' s' (by rw [h3 rfl]; exact .bl _)⟩⟩) fun v s1 ⟨x, H1, I1, r1, e1, q1⟩ => ?_)
    subst e1
    cases r1
    exact wpAny_truthy_bool ⟨.bl false, H1, I1, rfl, q1⟩
theorem ev_chain {op op' : CmpOp} {k k' : Bool} (ho : OD X (compareOp op) da db (.bool k)) (ho' : k = true → OD X (compareOp op') db dc (.bool k')) (ha : EV X G a da) (hb : EV X G b db) (hc : k = true → EV X G c dc)
    (hm : lastMarks [op, op'] [b, c] = false := by with_unfolding_all rfl) : EV X G (.Compare a [op, op'] [b, c] pos) (.bool (k && k')) := by
  cases k with
  | true =>
    refine (pe_chain ho (ho' rfl) ha hb (hc rfl) hm).imp fun σ H Q ⟨h, q⟩ => ⟨h, fun x H1 s1 d1 => ⟨h.mono s1, fun y H2 s2 d2 => ⟨d1.mono s2, d2, fun v H3 s3 d3 => ⟨true, d3.of_bl, ?_⟩⟩⟩⟩
    simp only [if_true]
    exact ⟨((h.mono s1).mono s2).mono s3, fun z H4 s4 d4 => ⟨(d2.mono s3).mono s4, d4, fun v H5 s5 d5 => q v H5 ((((s1.trans s2).trans s3).trans s4).trans s5) d5⟩⟩
  | false =>
    intro pins s σ H Q I ⟨h1, q⟩
    refine Compare_chain (thn (ha pins s σ H (fun x H1 => Same H H1 ∧ DV X.K H1 x da) I ⟨h1, fun v H' s' dv => ⟨s', dv⟩⟩) fun v s1 ⟨x, H1, I1, r1, z1, d1⟩ =>
      chain_link (thn (hb pins s1 σ H1 (fun y H2 => Same H H2 ∧ DV X.K H2 x da ∧ DV X.K H2 y db) I1 ⟨h1.mono z1, fun v H' s' dv => ⟨z1.trans s', d1.mono s', dv⟩⟩) fun u s2 ⟨y, H2, I2, r2, z2, d2, d3⟩ =>
      thn (ho pins s2 σ H2 x y v u (fun z H3 => z = .bl false ∧ Q (.bl false) H3) I2 r1 r2 ⟨d2, d3, fun v H3 s3 d3 => ⟨d3.of_bl, q _ H3 (z2.trans s3) (.bl false)⟩⟩) fun w s3 ⟨z, H3, I3, r3, e3, q3⟩ => ?_)) hm
    subst e3
    cases r3
    exact wpAny_truthy_bool (ite_ff ⟨.bl false, H3, I3, rfl, q3⟩)
theorem od_add {i j : Int} : OD X (binaryOp .Add) (.int i) (.int j) (.int (i + j)) := od_rI0 op_add fun H => .int _
theorem od_sub {i j : Int} : OD X (binaryOp .Sub) (.int i) (.int j) (.int (i - j)) := od_rI0 op_sub fun H => .int _
theorem od_mul {i j : Int} (h : CMul i j) : OD X (binaryOp .Mult) (.int i) (.int j) (.int (i * j)) := od_rI op_mul h fun H => .int _
theorem od_fdiv {i j : Int} (h : CDiv i j) : OD X (binaryOp .FloorDiv) (.int i) (.int j) (.int (i / j)) := od_rI op_fdiv h fun H => .int _
theorem od_mod {i j : Int} (h : 0 < j) : OD X (binaryOp .Mod) (.int i) (.int j) (.int (i % j)) := od_rI op_mod h fun H => .int _
theorem od_pow {i j : Int} (h : CPow i j) : OD X (binaryOp .Pow) (.int i) (.int j) (.int (i ^ j.toNat)) := od_rI op_pow h fun H => .int _
theorem od_xor {i j : Int} : OD X (binaryOp .BitXor) (.int i) (.int j) (.int (Builtin.bitXor i j)) := od_rI0 op_xor fun H => .int _
theorem od_lt {i j : Int} : OD X (compareOp .Lt) (.int i) (.int j) (.bool (decide (i < j))) := od_rI0 op_lt fun H => .bl _
theorem od_le {i j : Int} : OD X (compareOp .LtE) (.int i) (.int j) (.bool (decide (i ≤ j))) := od_rI0 op_le fun H => .bl _
theorem od_gt {i j : Int} : OD X (compareOp .Gt) (.int i) (.int j) (.bool (decide (j < i))) := od_rI0 op_gt fun H => .bl _
theorem od_ge {i j : Int} : OD X (compareOp .GtE) (.int i) (.int j) (.bool (decide (j ≤ i))) := od_rI0 op_ge fun H => .bl _
theorem od_catL {xs ys : List PyData} (hz : xs.length + ys.length ≤ sizeLine) : OD X (binaryOp .Add) (.list xs) (.list ys) (.list (xs ++ ys)) := by
  intro pins s σ H x y v u Q I rx ry ⟨h1, h2, q⟩
  obtain ⟨l, us, rfl, hl, d1⟩ := h1.of_lst
  obtain ⟨m, ws, rfl, hm, d2⟩ := h2.of_lst
  cases rx
  cases ry
  obtain ⟨its, r, pl, _⟩ := I.list hl
  obtain ⟨its2, r2, pl2, _⟩ := I.list hm
  obtain ⟨⟨cls, dd, data, sl⟩, ho, hc, n, hd⟩ := pl.isList
  obtain ⟨⟨cls2, dd2, data2, sl2⟩, ho2, hc2, n2, hd2⟩ := pl2.isList
  simp only at hc hd hc2 hd2
  subst hc hd hc2 hd2
  have hn : its.toArray.size + its2.toArray.size ≤ sizeLine := by rw [List.size_toArray, List.size_toArray, ← r.length, ← r2.length, d1.length, d2.length]; exact hz
  refine concat_meets ⟨_, ho, rfl⟩ ⟨_, ho2, rfl⟩ noFill_list_add seq_list_add PySem.F.slot_list_add PySem.F.entry_list_add (PySem.F.args_list_add_2 _ _) (list_addW l m its.toArray its2.toArray n n2 dd dd2 sl sl2 hn) ⟨ho, ho2, ?_⟩
  have ea : its.toArray ++ its2.toArray = (its ++ its2).toArray := by simp
  rw [ea]
  have hf := I.hok.fresh (Nat.le_refl _)
  refine ⟨.ref s.heap.objs.size, _, I.laid (t' := s.toks) (o := .lst (us ++ ws)) (fun b o e => Heap.get?_push_of_some _ e) (Nat.le_refl _) ⟨by rw [List.length_append, d1.length, d2.length]; exact hz, its ++ its2, 0, r.append r2, Heap.get?_push_size _ rfl⟩, rfl, q _ _ (Same.new hf) ?_⟩
  exact .lst (SqL.of upd_same) ((d1.append d2).mono (Same.new hf))
theorem od_catT {xs ys : List PyData} (hx : xs ≠ []) (hz : xs.length + ys.length ≤ sizeLine) : OD X (binaryOp .Add) (.tuple xs) (.tuple ys) (.tuple (xs ++ ys)) :=
  op_catT.imp fun x y H Q ⟨h1, h2, q⟩ => by
    obtain ⟨l, us, rfl, hl, d1⟩ := h1.of_tup
    obtain ⟨m, ws, rfl, hm, d2⟩ := h2.of_tup
    refine ⟨l, m, us, ws, rfl, rfl, hl, hm, fun z => hx ?_, by rw [d1.length, d2.length]; exact hz, fun z => ?_, fun z p hp => ?_⟩
    · subst z
      cases d1
      rfl
    · subst z
      cases d2
      rw [List.append_nil] at q
      exact q _ H (Same.refl H) (.tup hl d1)
    · exact q _ _ (Same.new hp) (.tup (SqT.of upd_same) ((d1.append d2).mono (Same.new hp)))
def flatD : PyData → Bool
  | .none => true
  | .bool _ => true
  | .int _ => true
  | .str _ => true
  | _ => false
theorem DV.flat {K : PySem.W.Frag} {H : Hp} {v : V} {d : PyData} (h : DV K H v d) (f : flatD d = true) : flatV v = true := by
  cases h <;> first | rfl | cases f
theorem DVs.flat {K : PySem.W.Frag} {H : Hp} : ∀ {vs : List V} {ds : List PyData}, DVs K H vs ds → ds.all flatD = true → vs.all flatV = true
  | _, _, .nil, _ => rfl
  | _, _, .cons h t, f => by
    rw [List.all_cons, Bool.and_eq_true] at f ⊢
    exact ⟨h.flat f.1, DVs.flat t f.2⟩
theorem DV.eqV_eqv {K : PySem.W.Frag} {H : Hp} {v w : V} {d e : PyData} (h : DV K H v d) (h' : DV K H w e) (f : flatD d = true) (f' : flatD e = true) : eqV v w = PyData.eqv d e := by
  cases h <;> cases h' <;> first | rfl | (simp [flatD] at f; done) | (simp [flatD] at f'; done)
theorem DVs.inV {K : PySem.W.Frag} {H : Hp} {v : V} {d : PyData} (h : DV K H v d) (f : flatD d = true) : ∀ {vs : List V} {ds : List PyData}, DVs K H vs ds → ds.all flatD = true → inV v vs = ds.any fun e => PyData.eqv e d
  | _, _, .nil, _ => rfl
  | _, _, .cons h' t, fs => by
    rw [List.all_cons, Bool.and_eq_true] at fs
    have ih := DVs.inV h f t fs.2
    unfold L2.inV at ih ⊢
    rw [List.any_cons, List.any_cons, ih, h'.eqV_eqv h fs.1 f]
theorem od_in {xs : List PyData} {k : Bool} (hs : db = .list xs ∨ db = .tuple xs) (f : flatD da = true) (fs : xs.all flatD = true) (hk : (xs.any fun e => PyData.eqv e da) = k) : OD X (compareOp .In) da db (.bool k) :=
  op_in_seq.imp fun x y H Q ⟨h1, h2, q⟩ => by
    have z : ∃ p us, y = .ref p ∧ (SqL X.K H p us ∨ SqT X.K H p us) ∧ DVs X.K H us xs := by
      rcases hs with rfl | rfl
      · obtain ⟨l, us, e, hl, d1⟩ := h2.of_lst
        exact ⟨l, us, e, .inl hl, d1⟩
      · obtain ⟨l, us, e, hl, d1⟩ := h2.of_tup
        exact ⟨l, us, e, .inr hl, d1⟩
    obtain ⟨p, us, e, hl, d1⟩ := z
    refine ⟨p, us, e, hl, h1.flat f, d1.flat fs, q _ H (Same.refl H) ?_⟩
    rw [if_neg (by simp), d1.inV h1 f fs, hk]
    exact .bl k
theorem od_notIn {xs : List PyData} {k : Bool} (hs : db = .list xs ∨ db = .tuple xs) (f : flatD da = true) (fs : xs.all flatD = true) (hk : (!xs.any fun e => PyData.eqv e da) = k) : OD X (compareOp .NotIn) da db (.bool k) :=
  op_notIn_seq.imp fun x y H Q ⟨h1, h2, q⟩ => by
    have z : ∃ p us, y = .ref p ∧ (SqL X.K H p us ∨ SqT X.K H p us) ∧ DVs X.K H us xs := by
      rcases hs with rfl | rfl
      · obtain ⟨l, us, e, hl, d1⟩ := h2.of_lst
        exact ⟨l, us, e, .inl hl, d1⟩
      · obtain ⟨l, us, e, hl, d1⟩ := h2.of_tup
        exact ⟨l, us, e, .inr hl, d1⟩
    obtain ⟨p, us, e, hl, d1⟩ := z
    refine ⟨p, us, e, hl, h1.flat f, d1.flat fs, q _ H (Same.refl H) ?_⟩
    rw [if_pos rfl, d1.inV h1 f fs, hk]
    exact .bl k
theorem av_nil : AV X G [] [] := pa_nil.imp fun σ H Q ⟨h, q⟩ => q [] H (Same.refl H) .nil
theorem av_cons {ds : List PyData} (h : EV X G e d) (hr : AV X G es ds) (hs : starEach (e :: es) X.env = (false, eval e X.env) :: starEach es X.env := by rfl) : AV X G (e :: es) (d :: ds) :=
  (pa_cons h hr hs).imp fun σ H Q ⟨h, q⟩ => ⟨h, fun v H1 s1 d1 => ⟨h.mono s1, fun vs H2 s2 d2 => q _ H2 (s1.trans s2) (.cons (d1.mono s2) d2)⟩⟩
theorem ev_tup {x1} {ds : List PyData} (h : AV X G es ds) (hz : ds.length ≤ sizeLine) : EV X G (.Tuple es x1 pos) (.tuple ds) :=
  (pe_tup h).imp fun σ H Q ⟨h, q⟩ => ⟨h, fun vs H1 s1 d1 => ⟨by rw [d1.length]; exact hz, fun p hp => q _ _ (s1.trans (Same.new hp)) (.tup (SqT.of upd_same) (d1.mono (Same.new hp)))⟩⟩
theorem ev_lst {ds : List PyData} (h : AV X G es ds) (hz : ds.length ≤ sizeLine) : EV X G (.List es pos) (.list ds) :=
  (pe_lst h).imp fun σ H Q ⟨h, q⟩ => ⟨h, fun vs H1 s1 d1 => ⟨by rw [d1.length]; exact hz, fun p hp => q _ _ (s1.trans (Same.new hp)) (.lst (SqL.of upd_same) (d1.mono (Same.new hp)))⟩⟩
theorem DVs.atI {K : PySem.W.Frag} {H : Hp} {vs : List V} {ds : List PyData} {i : Int} {d : PyData} (h : DVs K H vs ds) (e : atI ds i = some d) : ∃ v, L2.atI vs i = some v ∧ DV K H v d := by
  unfold L2.atI at e ⊢
  rw [h.length]
  cases q : ixN ds.length i with
  | none => rw [q] at e; cases e
  | some j =>
    rw [q] at e
    exact h.get e
theorem ev_ixL {ds : List PyData} {i : Int} (ha : EV X G a (.list ds)) (hb : EV X G b (.int i)) (he : atI ds i = some d) (hs : PlainIx b := by intro _ _; rfl) : EV X G (.Subscript a b pos) d :=
  (pe_ix ix_list ha hb hs).imp fun σ H Q ⟨h, q⟩ => tOp_D h fun x y H' s' d1 d2 => by
    obtain ⟨l, us, rfl, hl, d3⟩ := d1.of_lst
    obtain ⟨v, e1, e2⟩ := d3.atI he
    exact ⟨l, us, i, v, rfl, d2.of_int, hl, e1, q v H' s' e2⟩
theorem ev_ixT {ds : List PyData} {i : Int} (ha : EV X G a (.tuple ds)) (hb : EV X G b (.int i)) (he : atI ds i = some d) (hs : PlainIx b := by intro _ _; rfl) : EV X G (.Subscript a b pos) d :=
  (pe_ix ix_tup ha hb hs).imp fun σ H Q ⟨h, q⟩ => tOp_D h fun x y H' s' d1 d2 => by
    obtain ⟨l, us, rfl, hl, d3⟩ := d1.of_tup
    obtain ⟨v, e1, e2⟩ := d3.atI he
    exact ⟨l, us, i, v, rfl, d2.of_int, hl, e1, q v H' s' e2⟩
theorem ev_neg {i : Int} (ha : EV X G a (.int i)) : EV X G (.UnaryOp .USub a pos) (.int (-i)) :=
  (pe_un un_neg ha).imp fun σ H Q ⟨h, q⟩ => ⟨h, fun v H' s' dv => ⟨i, dv.of_int, q _ H' s' (.int _)⟩⟩
def tDO (K : PySem.W.Frag) (G : Gam) (o : Option Int) : TO := fun σ H Q => SD K H σ G ∧ ∀ H', Same H H' → Q o H'
abbrev OV (X : Cx) (G : Gam) (e : Option Expr) (o : Option Int) : Prop := PO X e (tDO X.K G o)
theorem ov_none : OV X G none none := fun pins s σ H Q I ⟨h, q⟩ => po_none pins s σ H Q I (q H (Same.refl H))
theorem ov_some {i : Int} (h : EV X G e (.int i)) : OV X G (some e) (some i) := fun pins s σ H Q I ⟨h1, q⟩ => po_some h pins s σ H Q I ⟨h1, fun v H' s' dv => ⟨i, dv.of_int, q H' s'⟩⟩
def cutD (xs : List PyData) (lo hi : Option Int) : List PyData := (xs.drop (HT.sIx xs.length 0 lo)).take (HT.sIx xs.length xs.length hi - HT.sIx xs.length 0 lo)
theorem DVs.cut {K : PySem.W.Frag} {H : Hp} {vs : List V} {ds : List PyData} (h : DVs K H vs ds) (lo hi : Option Int) : DVs K H (cutV vs lo hi) (cutD ds lo hi) := by
  unfold cutV cutD
  rw [h.length]
  exact (h.drop _).take _
theorem ev_slL {lo hi : Option Expr} {ol oh : Option Int} {p2 : Pos} {ds : List PyData} (ha : EV X G a (.list ds)) (hl : OV X G lo ol) (hh : OV X G hi oh) : EV X G (.Subscript a (.Slice lo hi none p2) pos) (.list (cutD ds ol oh)) :=
  (pe_slice sl_list ha hl hh).imp fun σ H Q ⟨h, q⟩ => ⟨h, fun v H1 s1 d1 => ⟨h.mono s1, fun H2 s2 => ⟨(h.mono s1).mono s2, fun H3 s3 => by
    obtain ⟨l, us, rfl, hl, d3⟩ := ((d1.mono s2).mono s3).of_lst
    exact ⟨l, us, rfl, hl, fun p hp => q _ _ (((s1.trans s2).trans s3).trans (Same.new hp)) (.lst (SqL.of upd_same) ((d3.cut ol oh).mono (Same.new hp)))⟩⟩⟩⟩
theorem ev_slT {lo hi : Option Expr} {ol oh : Option Int} {p2 : Pos} {ds : List PyData} (ha : EV X G a (.tuple ds)) (hl : OV X G lo ol) (hh : OV X G hi oh) (hw : ¬ (HT.sIx ds.length 0 ol = 0 ∧ HT.sIx ds.length ds.length oh = ds.length)) :
    EV X G (.Subscript a (.Slice lo hi none p2) pos) (.tuple (cutD ds ol oh)) :=
  (pe_slice sl_tup ha hl hh).imp fun σ H Q ⟨h, q⟩ => ⟨h, fun v H1 s1 d1 => ⟨h.mono s1, fun H2 s2 => ⟨(h.mono s1).mono s2, fun H3 s3 => by
    obtain ⟨l, us, rfl, hl, d3⟩ := ((d1.mono s2).mono s3).of_tup
    exact ⟨l, us, rfl, hl, by rw [d3.length]; exact hw, fun p hp => q _ _ (((s1.trans s2).trans s3).trans (Same.new hp)) (.tup (SqT.of upd_same) ((d3.cut ol oh).mono (Same.new hp)))⟩⟩⟩⟩
end
end L2
set_option maxRecDepth 100000
set_option maxHeartbeats 4000000
namespace L2
open PySem PySem.Spec PyProof.Rows
section
variable {κ : Type} [DecidableEq κ]
def valV (kvs : List (κ × V)) (k : κ) : Option V := (kvs.find? fun kv => decide (kv.1 = k)).map (·.2)
def putK (kvs : List (κ × V)) (k : κ) (v : V) : List (κ × V) :=
  if (kvs.any fun kv => decide (kv.1 = k)) = true then kvs.map (fun kv => if kv.1 = k then (kv.1, v) else kv) else kvs ++ [(k, v)]
def dropK (kvs : List (κ × V)) (k : κ) : List (κ × V) := kvs.filter fun kv => decide (kv.1 ≠ k)
theorem valV_pos {p : κ × V} {r : List (κ × V)} {k : κ} (e : p.1 = k) : valV (p :: r) k = some p.2 := by simp [valV, List.find?_cons, e]
theorem valV_neg {p : κ × V} {r : List (κ × V)} {k : κ} (e : ¬ p.1 = k) : valV (p :: r) k = valV r k := by simp [valV, List.find?_cons, e]
theorem valV_any (k : κ) : ∀ kvs : List (κ × V), (kvs.any fun kv => decide (kv.1 = k)) = (valV kvs k).isSome
  | [] => rfl
  | p :: r => by
    rw [List.any_cons]
    by_cases e : p.1 = k
    · simp only [valV_pos e, decide_eq_true e, Bool.true_or, Option.isSome_some]
    · rw [valV_neg e, decide_eq_false e, Bool.false_or]; exact valV_any k r
theorem RelO.getD {o : Option V} {u : Option Value} {d : V} {d' : Value} (r : RelO o u) (rd : RelV d d') : RelV (o.getD d) (u.getD d') := by
  cases o with
  | none => cases u with
    | none => exact rd
    | some _ => exact (show False from r).elim
  | some _ => cases u with
    | none => exact (show False from r).elim
    | some _ => exact r
theorem KV.any {kvs : List (κ × V)} {vs : List (κ × Value)} (r : KV kvs vs) (k : κ) : (kvs.any fun kv => decide (kv.1 = k)) = vs.any fun kv => decide (kv.1 = k) := by
  unfold KV at r
  induction r with
  | nil => rfl
  | cons h t ih => rw [List.any_cons, List.any_cons, ih, h.1]
theorem KV.drop {kvs : List (κ × V)} {vs : List (κ × Value)} (r : KV kvs vs) (k : κ) : KV (dropK kvs k) (without vs k) := by
  unfold KV at r ⊢
  unfold dropK without
  induction r with
  | nil => exact .nil
  | @cons p q ps qs h t ih =>
    obtain ⟨h1, h2⟩ := h
    rw [List.filter_cons, List.filter_cons]
    by_cases e : p.1 = k
    · have a : ¬ decide (p.1 ≠ k) = true := by simp [e]
      have b : ¬ decide (q.1 ≠ k) = true := by simp [h1.symm.trans e]
      rw [if_neg a, if_neg b]; exact ih
    · have e' : ¬ q.1 = k := fun z => e (h1.trans z)
      have a : decide (p.1 ≠ k) = true := by simp [e]
      have b : decide (q.1 ≠ k) = true := by simp [e']
      rw [if_pos a, if_pos b]; exact .cons ⟨h1, h2⟩ ih
theorem KV.keys {kvs : List (κ × V)} {vs : List (κ × Value)} (r : KV kvs vs) : kvs.map (·.1) = vs.map (·.1) := by
  unfold KV at r
  induction r with
  | nil => rfl
  | cons h t ih => rw [List.map_cons, List.map_cons, ih, h.1]
theorem KV.length {kvs : List (κ × V)} {vs : List (κ × Value)} (r : KV kvs vs) : kvs.length = vs.length := Paired.length r
end
theorem kV_is {P : Program} {w : World} {k : Key} {u : Value} (r : RelV (kV k) u) : (mixKind P w).is k u = true := by
  cases k with
  | inl i => obtain ⟨t, e⟩ := (show ∃ t, u = Value.int i t from r); subst e; exact mixKind_int P w i t
  | inr x => obtain ⟨t, e⟩ := (show ∃ t, u = Value.str x t from r); subst e; exact mixKind_str P w x t
theorem items_are {P : Program} {w : World} : ∀ {ks : List Key} {us : List Value}, Vals (ks.map kV) us → ItemsAre (mixKind P w) ks us
  | [], _, r => by rw [List.map_nil] at r; cases r; exact .nil
  | k :: ks, _, r => by
    rw [List.map_cons] at r
    cases r with
    | cons h t => exact .cons (kV_is h) (items_are t)
abbrev KT (H : Hp) : List (List Key × V) → List (List Key × Addr × Value) → Prop := Paired fun p q => p.1 = q.1 ∧ H q.2.1 = some (.tup (p.1.map kV)) ∧ RelV p.2 q.2.2
theorem KT.keeps {H H' : Hp} {kvs : List (List Key × V)} {xs : List (List Key × Addr × Value)} (r : KT H kvs xs) (ht : ∀ b ys, H b = some (.tup ys) → H' b = some (.tup ys)) : KT H' kvs xs :=
  Paired.mapP r fun _ _ z => ⟨z.1, ht _ _ z.2.1, z.2.2⟩
section
variable {P : Program} {w : World} {H : Hp} {h : Heap} {a : Addr}
theorem rd_of {u : HO} (ok : HOk P w H h) (e : Rd H a u) : ObjOk P w H h a u := e.ok ok
theorem dk_rd {kvs : List (Key × V)} (ok : HOk P w H h) (e : Rd H a (.dK kvs)) : kvs.length ≤ sizeLine ∧ (a == sysModules) = false ∧ ∃ vs, KV kvs vs ∧ h.DictOf (mixKind P w) a vs :=
  show ObjOk P w H h a (.dK kvs) from rd_of ok e
theorem key_of {ks : List Key} (ok : HOk P w H h) (e : H a = some (.tup (ks.map kV))) : (tupleKind (mixKind P w)).is h ks a := by
  obtain ⟨_, its, r, o, h1, h2, n, h3⟩ := (show ObjOk P w H h a (.tup (ks.map kV)) from ok a _ e)
  exact ⟨o, its.toArray, n, h1, h2, h3, by simpa using items_are r⟩
theorem dt_rd {kvs : List (List Key × V)} (ok : HOk P w H h) (e : Rd H a (.dT kvs)) : kvs.length ≤ sizeLine ∧ (a == sysModules) = false ∧
    ∃ xs, KT H kvs xs ∧ h.DictOfH (tupleKind (mixKind P w)) a xs := by
  obtain ⟨z, y, xs, r, o, es, ep, h1, h2, h3, h4, h5⟩ := (show ObjOk P w H h a (.dT kvs) from rd_of ok e)
  refine ⟨z, y, xs, r, o, es, ep, h1, h2, h3, h4, fun x hx => ?_, h5⟩
  have all : ∀ {l : List (List Key × V)} {m : List (List Key × Addr × Value)}, KT H l m → ∀ x ∈ m, (tupleKind (mixKind P w)).is h x.1 x.2.1 := by
    intro l m q
    induction q with
    | nil => intro x hx; exact nomatch hx
    | @cons p q ps qs hq t ih =>
      intro x hx
      rcases List.mem_cons.mp hx with e | hx
      · subst e
        exact key_of ok (by rw [← hq.1]; exact hq.2.1)
      · exact ih x hx
  exact all r x hx
end
def DGet (H : Hp) (a : Addr) (y : V) (r : Option V) : Prop :=
  (∃ kvs k, Rd H a (.dK kvs) ∧ y = kV k ∧ r = valV kvs k) ∨ ∃ kvs k b, Rd H a (.dT kvs) ∧ y = .ref b ∧ H b = some (.tup (k.map kV)) ∧ r = valV kvs k
def DPut (H : Hp) (a : Addr) (y v : V) (H' : Hp) : Prop :=
  (∃ kvs k, H a = some (.dK kvs) ∧ y = kV k ∧ kvs.length < sizeLine ∧ H' = upd H a (.dK (putK kvs k v))) ∨
  ∃ kvs k b, H a = some (.dT kvs) ∧ y = .ref b ∧ H b = some (.tup (k.map kV)) ∧ kvs.length < sizeLine ∧ H' = upd H a (.dT (putK kvs k v))
theorem DGet.k {H : Hp} {a : Addr} {kvs : List (Key × V)} {k : Key} (e : H a = some (.dK kvs)) : DGet H a (kV k) (valV kvs k) := .inl ⟨kvs, k, .inl e, rfl, rfl⟩
theorem DGet.t {H : Hp} {a b : Addr} {kvs : List (List Key × V)} {k : List Key} (e : H a = some (.dT kvs)) (eb : H b = some (.tup (k.map kV))) : DGet H a (.ref b) (valV kvs k) := .inr ⟨kvs, k, b, .inl e, rfl, eb, rfl⟩
theorem DPut.k {H : Hp} {a : Addr} {kvs : List (Key × V)} {k : Key} {v : V} (e : H a = some (.dK kvs)) (hl : kvs.length < sizeLine) : DPut H a (kV k) v (upd H a (.dK (putK kvs k v))) := .inl ⟨kvs, k, e, rfl, hl, rfl⟩
theorem DPut.t {H : Hp} {a b : Addr} {kvs : List (List Key × V)} {k : List Key} {v : V} (e : H a = some (.dT kvs)) (eb : H b = some (.tup (k.map kV))) (hl : kvs.length < sizeLine) :
    DPut H a (.ref b) v (upd H a (.dT (putK kvs k v))) := .inr ⟨kvs, k, b, e, rfl, eb, hl, rfl⟩
section
variable {X : Cx} {pins : List (Addr × Obj)} {σ : St} {H : Hp} {s : Shared} {a : Addr} {y v : V} {u r : Value} {o : Option V} {A : Around} {E : Value → Shared → Prop}
end
section
variable {X : Cx} {pins : List (Addr × Obj)} {σ : St} {H : Hp} {s : Shared} {a : Addr} {kvs : List (Key × V)} {k : Key} {u : Value} {A : Around} {E : Value → Shared → Prop}
end
section
variable {X : Cx} {o i e value : Expr} {pos pos' tpos : Pos} {td ty tv : TE}
end
section
variable {X : Cx} {pos : Pos}
end
structure M1 (X : Cx) (o : Expr) (m : Str) (apos : Pos) (e : Expr) (cpos : Pos) : Prop where
  base : attributeBase o m X.env (eval o X.env) = eval o X.env
  few : ((backTo cpos (starEach [e] X.env)).all (fun x => !x.1) && (backToKw cpos (keywordEach [] X.env)).all (fun x => x.1.isSome)
    && decide (([e] : List Expr).length + ([] : List Keyword).length + (if ([] : List Keyword).isEmpty then 0 else 1) < 30)) = true
  line : (apos.endLine == cpos.line) = true
  trees : backTo cpos (starEach [e] X.env) = [(false, eval e X.env)]
structure M2 (X : Cx) (o : Expr) (m : Str) (apos : Pos) (e f : Expr) (cpos : Pos) : Prop where
  base : attributeBase o m X.env (eval o X.env) = eval o X.env
  few : ((backTo cpos (starEach [e, f] X.env)).all (fun x => !x.1) && (backToKw cpos (keywordEach [] X.env)).all (fun x => x.1.isSome)
    && decide (([e, f] : List Expr).length + ([] : List Keyword).length + (if ([] : List Keyword).isEmpty then 0 else 1) < 30)) = true
  line : (apos.endLine == cpos.line) = true
  trees : backTo cpos (starEach [e, f] X.env) = [(false, eval e X.env), (false, eval f X.env)]
def IsD (H : Hp) (a : Addr) : Prop := (∃ kvs, Rd H a (.dK kvs)) ∨ ∃ kvs, Rd H a (.dT kvs)
theorem isD_at {X : Cx} {pins : List (Addr × Obj)} {σ : St} {H : Hp} {s : Shared} {a : Addr} (I : Inv X pins σ H s) (d : IsD H a) :
    s.TypeIs (.ref a) "dict" ∧ (∀ b, Value.ref a = .ref b → ∃ ob, s.heap.get? b = some ob ∧ ob.dict = none) ∧ (a == sysModules) = false := by
  rcases d with ⟨kvs, e⟩ | ⟨kvs, e⟩
  · obtain ⟨_, hd, vs, _, dd⟩ := dk_rd I.hok e
    refine ⟨dd.typeIs, fun b q => ?_, hd⟩
    cases q
    obtain ⟨ob, _, _, h1, h2, _⟩ := dd
    exact ⟨ob, h1, h2.2.1⟩
  · obtain ⟨_, hd, xs, _, dd⟩ := dt_rd I.hok e
    refine ⟨dd.typeIs, fun b q => ?_, hd⟩
    cases q
    obtain ⟨ob, _, _, h1, h2, _⟩ := dd
    exact ⟨ob, h1, h2.2.1⟩
section
variable {X : Cx} {pins : List (Addr × Obj)} {σ : St} {H : Hp} {s : Shared} {a : Addr} {y d : V} {u r : Value} {o : Option V} {A : Around} {E : Value → Shared → Prop}
end
section
variable {X : Cx} {o e f : Expr} {apos cpos : Pos} {td ty tx : TE}
end
section
variable {X : Cx} {pins : List (Addr × Obj)} {σ : St} {H : Hp} {s : Shared} {a : Addr} {kvs : List (Key × V)} {A : Around} {E : Value → Shared → Prop}
end
section
variable {X : Cx} {pins : List (Addr × Obj)} {σ : St} {H : Hp} {s : Shared} {a : Addr} {y : V} {u : Value} {A : Around} {E : Value → Shared → Prop}
end
end L2
set_option maxRecDepth 100000
set_option maxHeartbeats 4000000
namespace L2
open PySem PySem.Spec PyProof.Rows
def rDA (K : PySem.W.Frag) (ds : List PyData) (d : PyData) : List V → Hp → VK → Prop := fun xs H Q => DVs K H xs ds ∧ ∀ v H', Same H H' → DV K H' v d → Q v H'
abbrev CD (X : Cx) (f : Value) (ds : List PyData) (d : PyData) : Prop := CallR X f (rDA X.K ds d)
section
variable {X : Cx} {G : Gam} {a b c e : Expr} {es rest : List Expr} {pos p p2 : Pos} {d da db dc : PyData} {ds : List PyData} {x : Str} {id T : String}
theorem ev_callB (hc : CD X (.builtin id) ds d) (hg : Gl X x) (hm : X.mg x = none) (hv : bootBuiltins x = some (.builtin id)) (ha : AV X G (e :: es) ds) (hn : x ≠ "__name__" := by decide) (hdb : (x == ("__debug__" : Str)) = false := by decide)
    (he : starEach (e :: es) X.env = (false, eval e X.env) :: starEach es X.env := by rfl) (hpl : (backTo pos (starEach es X.env)).any (·.1) = false := by rfl) : EV X G (.Call (.Name x p) (e :: es) [] pos) d :=
  (pe_callB hc hg hm hv ha hn hdb he hpl).imp fun σ H Q ⟨h, q⟩ => ⟨h, fun vs H1 s1 d1 => ⟨d1, fun v H2 s2 d2 => q v H2 (s1.trans s2) d2⟩⟩
theorem ev_callTy (hc : CD X (.type T) ds d) (hg : Gl X x) (hm : X.mg x = none) (hv : bootBuiltins x = some (.type T)) (ha : AV X G (e :: es) ds) (hn : x ≠ "__name__" := by decide) (hdb : (x == ("__debug__" : Str)) = false := by decide)
    (he : starEach (e :: es) X.env = (false, eval e X.env) :: starEach es X.env := by rfl) (hpl : (backTo pos (starEach es X.env)).any (·.1) = false := by rfl) : EV X G (.Call (.Name x p) (e :: es) [] pos) d :=
  (pe_callTy hc hg hm hv ha hn hdb he hpl).imp fun σ H Q ⟨h, q⟩ => ⟨h, fun vs H1 s1 d1 => ⟨d1, fun v H2 s2 d2 => q v H2 (s1.trans s2) d2⟩⟩
theorem DVs.one {K : PySem.W.Frag} {H : Hp} {vs : List V} (h : DVs K H vs [d]) : ∃ v, vs = [v] ∧ DV K H v d := by
  cases h with
  | cons h t => cases t; exact ⟨_, rfl, h⟩
theorem DVs.two {K : PySem.W.Frag} {H : Hp} {vs : List V} (h : DVs K H vs [da, db]) : ∃ v w, vs = [v, w] ∧ DV K H v da ∧ DV K H w db := by
  cases h with
  | cons h t =>
    obtain ⟨w, rfl, h2⟩ := t.one
    exact ⟨_, w, rfl, h, h2⟩
theorem cd_lenL : CD X (.builtin "len") [.list ds] (.int ds.length) := call_len_seq.imp fun xs H Q ⟨h, q⟩ => by
  obtain ⟨v, rfl, dv⟩ := h.one
  obtain ⟨l, us, rfl, hl, d1⟩ := dv.of_lst
  exact ⟨l, us, rfl, .inl hl, q _ H (Same.refl H) (by rw [d1.length]; exact .int _)⟩
theorem cd_lenT : CD X (.builtin "len") [.tuple ds] (.int ds.length) := call_len_seq.imp fun xs H Q ⟨h, q⟩ => by
  obtain ⟨v, rfl, dv⟩ := h.one
  obtain ⟨l, us, rfl, hl, d1⟩ := dv.of_tup
  exact ⟨l, us, rfl, .inr hl, q _ H (Same.refl H) (by rw [d1.length]; exact .int _)⟩
theorem cd_lenS {z : Str} (hz : z.length ≤ sizeLine) : CD X (.builtin "len") [.str z] (.int z.length) := call_len_str.imp fun xs H Q ⟨h, q⟩ => by
  obtain ⟨v, rfl, dv⟩ := h.one
  exact ⟨z, by rw [dv.of_str], hz, q _ H (Same.refl H) (.int _)⟩
theorem cd_tupleL : CD X (.type "tuple") [.list ds] (.tuple ds) := call_tuple_of.imp fun xs H Q ⟨h, q⟩ => by
  obtain ⟨v, rfl, dv⟩ := h.one
  obtain ⟨l, us, rfl, hl, d1⟩ := dv.of_lst
  exact ⟨l, us, rfl, .inl ⟨hl, fun p hp => q _ _ (Same.new hp) (.tup (SqT.of upd_same) (d1.mono (Same.new hp)))⟩⟩
theorem cd_listL : CD X (.type "list") [.list ds] (.list ds) := call_list_of.imp fun xs H Q ⟨h, q⟩ => by
  obtain ⟨v, rfl, dv⟩ := h.one
  obtain ⟨l, us, rfl, hl, d1⟩ := dv.of_lst
  exact ⟨l, us, rfl, .inl hl, fun p hp => q _ _ (Same.new hp) (.lst (SqL.of upd_same) (d1.mono (Same.new hp)))⟩
theorem cd_listT : CD X (.type "list") [.tuple ds] (.list ds) := call_list_of.imp fun xs H Q ⟨h, q⟩ => by
  obtain ⟨v, rfl, dv⟩ := h.one
  obtain ⟨l, us, rfl, hl, d1⟩ := dv.of_tup
  exact ⟨l, us, rfl, .inr hl, fun p hp => q _ _ (Same.new hp) (.lst (SqL.of upd_same) (d1.mono (Same.new hp)))⟩
theorem cd_intB {k : Bool} : CD X (.type "int") [.bool k] (.int (if k then 1 else 0)) := call_int1.imp fun xs H Q ⟨h, q⟩ => by
  obtain ⟨v, rfl, dv⟩ := h.one
  exact .inr ⟨k, by rw [dv.of_bl], q _ H (Same.refl H) (.int _)⟩
theorem cd_max {i j : Int} (hc : X.calm = true) : CD X (.builtin "max") [.int i, .int j] (.int (if j > i then j else i)) := (call_max2 hc).imp fun xs H Q ⟨h, q⟩ => by
  obtain ⟨v, w, rfl, dv, dw⟩ := h.two
  exact ⟨i, j, by rw [dv.of_int, dw.of_int], q _ H (Same.refl H) (.int _)⟩
theorem all_range_eq (bs : List Bool) : (List.range bs.length).all (fun i => bs.getD i false) = bs.all (fun z => z) := by
  rw [Bool.eq_iff_iff, List.all_eq_true, List.all_eq_true]
  constructor
  · intro h x hx
    obtain ⟨i, hi, e⟩ := List.mem_iff_getElem.mp hx
    have := h i (List.mem_range.mpr hi)
    simp only [List.getD_eq_getElem?_getD, List.getElem?_eq_getElem hi, Option.getD_some] at this
    rw [← e]
    exact this
  · intro h i hi
    have hi := List.mem_range.mp hi
    simp only [List.getD_eq_getElem?_getD, List.getElem?_eq_getElem hi, Option.getD_some]
    exact h _ (List.getElem_mem hi)
theorem cd_all (hc : X.calm = true) {bs : List Bool} : CD X (.builtin "all") [.list (bs.map PyData.bool)] (.bool (bs.all fun z => z)) := by
  intro pins s σ H xs us Q I rs ⟨h, q⟩
  obtain ⟨v, rfl, dv⟩ := h.one
  obtain ⟨l, vs, rfl, hl, d1⟩ := dv.of_lst
  obtain ⟨u, rfl, ru⟩ := vals1 rs
  cases ru
  have e1 := d1.of_bools
  subst e1
  obtain ⟨its, r, pl, hz⟩ := I.list hl
  have hlt : l < s.heap.objs.size := by
    obtain ⟨o, ho, _⟩ := pl.isList
    exact Heap.lt_size ho
  have hh : X.A.in1.handled = none := I.ok.hd hc
  have hlen : its.toArray.size = bs.length := by rw [List.size_toArray, ← r.length, List.length_map]
  refine call_all_walk (wpAny_pyIter_list pl.isList ⟨s.heap.objs.size, _, _, its.toArray.size, _, _, fun i => bs.getD i false, rfl, Walks.list hh s.heap.objs.size l (Nat.ne_of_lt hlt) its.toArray,
    ⟨⟨_, Heap.get?_push_size _ rfl, rfl, rfl⟩, let ⟨o, e, r⟩ := pl.isList; ⟨o, Heap.get?_push_of_some _ e, r⟩⟩, fun i v s2 Q2 E2 hP hQ => ?_, fun h' tk hk => ?_⟩)
  · have hP : its.toArray[i]? = some v := hP
    have hP : its[i]? = some v := by simpa using hP
    have hi : i < bs.length := by
      have := (List.getElem?_eq_some_iff.mp hP).1
      rw [← r.length, List.length_map] at this
      exact this
    have hb : (bs.map V.bl)[i]? = some (V.bl bs[i]) := by simp [hi]
    obtain ⟨u, e2, r2⟩ := r.get hb
    rw [hP] at e2
    cases e2
    cases r2
    refine wpAny_truthy_bool ?_
    have : bs.getD i false = bs[i] := by simp [List.getD_eq_getElem?_getD, hi]
    exact this ▸ hQ
  · rw [hlen, all_range_eq]
    have I1 : Inv X pins σ H { s with heap := h', toks := tk } := I.kept fun b o e => hk b o (by
      intro z
      have z : b = s.heap.objs.size := by simpa using z
      exact absurd (Heap.lt_size e) (by rw [z]; exact Nat.lt_irrefl _)) (Heap.get?_push_of_some _ e)
    exact ⟨.bl _, H, I1, rfl, q _ H (Same.refl H) (.bl _)⟩
theorem cd_sum (hc : X.calm = true) {ns : List Int} : CD X (.builtin "sum") [.list (ns.map PyData.int)] (.int ns.sum) := by
  intro pins s σ H xs us Q I rs ⟨h, q⟩
  obtain ⟨v, rfl, dv⟩ := h.one
  obtain ⟨l, vs, rfl, hl, d1⟩ := dv.of_lst
  obtain ⟨u, rfl, ru⟩ := vals1 rs
  cases ru
  have e1 := d1.of_ints
  subst e1
  obtain ⟨its, r, pl, hz⟩ := I.list hl
  have hi : IntsAre its ns := intsAre_of r
  obtain ⟨ys, ey⟩ := (hi.allInts : AllInts its.toArray).items
  have hh : X.A.handled = none := I.ok.hd hc
  have hl' : s.heap.IsList l (intItems ys) := ey ▸ pl.isList
  refine sum_intListG hh hl' fun h' tk t' hk => ?_
  have I1 : Inv X pins σ H { s with heap := h', toks := tk } := I.kept hk
  have en : ns = numsOf its := hi.numsOf.symm
  have es : preSum (numAt ys) ys.size = ns.sum := by
    rw [preSum_eq, List.take_of_length_le (by simp), en, ← nums_intItems ys]
    congr 2
    have := congrArg Array.toList ey
    simpa using this.symm
  rw [es]
  exact ⟨.int _, H, I1, ⟨_, rfl⟩, q _ H (Same.refl H) (.int _)⟩
def tyD : PyData → Value
  | .none => .type "NoneType"
  | .bool _ => .type "bool"
  | .int _ => .type "int"
  | .str _ => .type "str"
  | .list _ => .type "list"
  | .tuple _ => .type "tuple"
  | .dict es => match excC es with
    | some C => .ref C
    | none => .type "dict"
def ExcIsi (K : PySem.W.Frag) (C : Addr) : Prop := ∀ (a : Addr) (φ : Heap → Prop), (∀ h, φ h → ∃ o, h.get? a = some o ∧ o.cls = .ref C) → PySem.W.KitX K (.ref a) (.ref C) φ
theorem isinst_D {pins : List (Addr × Obj)} {σ : St} {H : Hp} {s : Shared} {A : Around} {E : Value → Shared → Prop} {Q : Value → Shared → Prop} {c : Value} {k : Bool} {v : V} {u : Value} (I : Inv X pins σ H s) (h : DV X.K H v d) (rv : RelV v u)
    (e : PySem.W.kitOne X.K (tyD d) c = some k) (hq : ∀ tk, Q (.bool k) { s with toks := tk }) (hX : ∀ C, d = excD C → ExcIsi X.K C := by intro _ z; cases z) (hX2 : ∀ C n, d = excRD C n → ExcIsi X.K C := by intro _ _ z; first | cases z | (unfold excD at z; cases z)) : wpAny (model X.prog X.w) A (call (.builtin "isinstance") [u, c]) Q E s := by
  cases h with
  | non => exact isinst_ok I rv .non e hq
  | bl b => exact isinst_ok I rv (.bl b) e hq
  | int i => exact isinst_ok I rv (.int i) e hq
  | str x => exact isinst_ok I rv (.str x) e hq
  | @tup a xs ds h t =>
    cases rv
    obtain ⟨its, _, ⟨o, h1, h2, _⟩, _⟩ := I.tuple h
    exact PySem.W.kia_one PySem.W.kitx_tuple I.kIn ⟨o, h1, h2⟩ e (fun z => nomatch z) hq
  | @lst a xs ds h t =>
    cases rv
    obtain ⟨its, _, pl, _⟩ := I.list h
    obtain ⟨o, h1, h2, _⟩ := pl.isList
    exact PySem.W.kia_one PySem.W.kitx_list I.kIn ⟨o, h1, h2⟩ e (fun z => nomatch z) hq
  | @dct a kvs es h t =>
    cases rv
    have e' : PySem.W.kitOne X.K (.type "dict") c = some k := by
      have z : tyD (.dict es) = (match excC es with | some C => Value.ref C | none => .type "dict") := rfl
      rw [z, excC_dvk t] at e
      exact e
    exact PySem.W.kia_one PySem.W.kitx_dict I.kIn (isD_at I (.inl ⟨kvs, .inl h⟩)).1 e' (fun z => nomatch z) hq
  | @exc a C h =>
    cases rv
    have e' : PySem.W.kitOne X.K (.ref C) c = some k := e
    exact PySem.W.kia_one (hX C rfl a _ fun h p => let ⟨o, _, h1, h2, _⟩ := p; ⟨o, h1, h2⟩) I.kIn (I.hok a _ h).1 e' (fun z => nomatch z) hq
  | @exr a C dx n h h' =>
    cases rv
    have e' : PySem.W.kitOne X.K (.ref C) c = some k := e
    exact PySem.W.kia_one (hX2 C n rfl a _ fun h p => let ⟨o, _, h1, h2, _⟩ := p; ⟨o, h1, h2⟩) I.kIn (I.hok a _ h).1 e' (fun z => nomatch z) hq
theorem ev_isi {k : Bool} {n : String} {x1 : Str} (ha : EV X G a da) (hg : Gl X "isinstance") (hm : X.mg "isinstance" = none) (hg1 : Gl X x1) (hm1 : X.mg x1 = none) (hv1 : bootBuiltins x1 = some (.type n)) (e : PySem.W.kitOne X.K (tyD da) (.type n) = some k)
    (hX : ∀ C, da = excD C → ExcIsi X.K C := by intro _ z; cases z) (hX2 : ∀ C n, da = excRD C n → ExcIsi X.K C := by intro _ _ z; first | cases z | (unfold excD at z; cases z)) (hn : x1 ≠ "__name__" := by decide) (hd1 : (x1 == ("__debug__" : Str)) = false := by decide) (hv : bootBuiltins "isinstance" = some (.builtin "isinstance") := by decide +kernel)
    (he : starEach [a, .Name x1 p2] X.env = (false, eval a X.env) :: starEach [.Name x1 p2] X.env := by rfl) (he2 : starEach [.Name x1 p2] X.env = (false, eval (.Name x1 p2) X.env) :: starEach [] X.env := by rfl)
    (hpl : (backTo pos (starEach [.Name x1 p2] X.env)).any (·.1) = false := by rfl) :
    EV X G (.Call (.Name "isinstance" p) [a, .Name x1 p2] [] pos) (.bool k) := by
  have cr : CallR X (.builtin "isinstance") (fun xs H Q => ∃ v, xs = [v, .ty n] ∧ DV X.K H v da ∧ Q (.bl k) H) := by
    intro pins s σ H xs us Q I rs ⟨v, ex, dv, q⟩
    subst ex
    obtain ⟨u, w, rfl, ru, rw'⟩ := vals2 rs
    cases rw'
    exact isinst_D I dv ru e (fun tk => ⟨.bl k, H, I.tok tk, rfl, q⟩) hX hX2
  refine (pe_callB cr hg hm hv (pa_cons ha (pa_cons (pe_bltn (v := .ty n) hg1 hm1 hv1 rfl hn hd1) pa_nil he2) he) (by decide) (by decide) he hpl).imp fun σ H Q ⟨h, q⟩ => ⟨h, fun v H1 s1 d1 => ⟨v, rfl, d1, q _ H1 s1 (.bl k)⟩⟩
def spD (K : PySem.W.Frag) (F : List PyData → PyData → Prop) : Sp := fun vs H Q _ => ∃ ds d, DVs K H vs ds ∧ F ds d ∧ ∀ v H', Same H H' → DV K H' v d → Q v H'
def DFn (P : Program) (w : World) (K : PySem.W.Frag) (mg : Str → Option Value) (base : Heap) (k : Nat) (x : Str) (F : List PyData → PyData → Prop) : Prop :=
  ∃ f fd ps, FnOk P w K mg base CX0 k f fd ps (spD K F) ∧ mg x = some (.ref f) ∧ PySem.W.keepIn K (.ref f) = true ∧ Binds K fd ps []
theorem ev_call {k : Nat} {F : List PyData → PyData → Prop} (D : DFn X.prog X.w X.K X.mg X.base k x F) (hr : Room k X.A) (hg : Gl X x) (ha : AV X G (e :: es) ds) (hF : F ds d) (hdb : (x == ("__debug__" : Str)) = false := by decide)
    (he : starEach (e :: es) X.env = (false, eval e X.env) :: starEach es X.env := by rfl) (hpl : (backTo pos (starEach es X.env)).any (·.1) = false := by rfl) : EV X G (.Call (.Name x p) (e :: es) [] pos) d := by
  obtain ⟨f, fd, ps, ok, hm, hk, hb⟩ := D
  refine (pe_call ok hr hg hm hk hb .nil pass0 ha hdb he hpl).imp fun σ H Q ⟨h, q⟩ => ⟨h, fun vs H1 s1 d1 => ?_⟩
  show spD X.K F (vs ++ []) H1 Q E0
  rw [List.append_nil]
  exact ⟨ds, d, d1, hF, fun v H2 s2 d2 => q v H2 (s1.trans s2) d2⟩
theorem ev_globI {i : Int} {t : Tok} (hg : Gl X x) (hm : X.mg x = some (.int i t)) (hd : (x == ("__debug__" : Str)) = false := by decide) : EV X G (.Name x pos) (.int i) :=
  (pe_glob (v := .int i) hg hm ⟨t, rfl⟩ hd).imp fun σ H Q ⟨h, q⟩ => q _ H (Same.refl H) (.int i)
theorem svs_nil : SVs X G [] (.next G) := pss_nil.imp fun D σ H ⟨h, q⟩ => q σ H (Same.refl H) h
theorem svs_cons {st : Stmt} {sts : List Stmt} {G1 : Gam} {o : Out} (h1 : SV X G st (.next G1)) (h2 : SVs X G1 sts o) : SVs X G (st :: sts) o :=
  (pss_cons h1 h2).imp fun D σ H ⟨h, q⟩ => ⟨h, fun σ' H' s' h' => ⟨h', by
    cases o with
    | next G2 => exact fun σ2 H2 s2 h2 => q σ2 H2 (s'.trans s2) h2
    | ret d => exact fun v H2 s2 h2 => q v H2 (s'.trans s2) h2⟩⟩
theorem svs_ret {st : Stmt} {sts : List Stmt} (h1 : SV X G st (.ret d)) : SVs X G (st :: sts) (.ret d) := by
  intro pins s σ H D I ⟨h, q⟩
  have z : PSs X (st :: sts) (fun D σ H => tDS X.K G (.ret d) D σ H) := by
    refine (pss_cons (t := fun D σ H => tDS X.K G (.ret d) D σ H) (u := tNever) h1 pss_never).imp fun D σ H ⟨h, q⟩ => ⟨h, q⟩
  exact z pins s σ H D I ⟨h, q⟩
theorem sv_ret (h : EV X G e d) : SV X G (.Return (some e) pos) (.ret d) := (ps_ret h).imp fun D σ H ⟨h, q⟩ => ⟨h, q⟩
theorem sv_set {i : Nat} (hN : X.N.Nodup) (hi : X.N[i]? = some x) (hx : Loc X.env.scope x) (h : EV X G e d) (hs : swapsWith e (some (.Name x p)) pos.line X.env = pure false := by rfl)
    (hf : X.fn x = true ∨ X.env.scope.names.lookup x = some .local := by first | exact .inl rfl | exact .inr rfl | assumption) : SV X G (.Assign [.Name x p] e pos) (.next (G.set i (some d))) :=
  (ps_set hN hi hx h hs hf).imp fun D σ H ⟨h, q⟩ => ⟨h, fun v H1 s1 d1 => q _ H1 s1 ((h.mono s1).set d1)⟩
theorem sv_if {k : Bool} {A B : List Stmt} {o : Out} (hc : TV X G c k) (h1 : k = true → SVs X G A o) (h2 : k = false → SVs X G B o) : SV X G (.If c A B pos) o := by
  have hA : PSs X A (fun D σ H => k = true ∧ tDS X.K G o D σ H) := fun pins s σ H D I ⟨e, q⟩ => h1 e pins s σ H D I q
  have hB : PSs X B (fun D σ H => k = false ∧ tDS X.K G o D σ H) := fun pins s σ H D I ⟨e, q⟩ => h2 e pins s σ H D I q
  refine (ps_if hc hA hB).imp fun D σ H ⟨h, q⟩ => ⟨h, fun H1 s1 => ?_⟩
  have fin : tDS X.K G o D σ H1 := ⟨h.mono s1, by
    cases o with
    | next G2 => exact fun σ2 H2 s2 h2 => q σ2 H2 (s1.trans s2) h2
    | ret d => exact fun v H2 s2 h2 => q v H2 (s1.trans s2) h2⟩
  cases k with
  | true => exact iteT ⟨rfl, fin⟩
  | false => exact iteF ⟨rfl, fin⟩
theorem svs_forget {sts : List Stmt} {G1 G2 : Gam} (h : SVs X G sts (.next G1)) (hl : G2.length = G1.length) (hw : ∀ (i : Nat) d, G2[i]? = some (some d) → G1[i]? = some (some d)) : SVs X G sts (.next G2) :=
  h.imp fun D σ H ⟨h, q⟩ => ⟨h, fun σ' H' s' h' => q σ' H' s' (h'.forget hl hw)⟩
structure ItD (K : PySem.W.Frag) (J : It) (ds : List PyData) (H0 : Hp) : Prop where
  go : ∀ i H, Same H0 H → i < ds.length → J.go i H
  yld : ∀ i H v H', Same H0 H → i < ds.length → J.yld i H v H' → Same H H' ∧ ∃ d, ds[i]? = some d ∧ DV K H' v d
  stop : ∀ i H, Same H0 H → ds.length ≤ i → J.stop i H
def tDI (K : PySem.W.Frag) (G : Gam) (ds : List PyData) : TI := fun σ H R => SD K H σ G ∧ ∀ J H', Same H H' → ItD K J ds H' → R J H'
abbrev IV (X : Cx) (G : Gam) (tg iter : Expr) (ds : List PyData) : Prop := PI X tg iter (tDI X.K G ds)
theorem PI.imp {tg : Expr} {t t' : TI} (h : PI X tg e t) (m : ∀ σ H R, t' σ H R → t σ H R) : PI X tg e t' := fun pins s σ H R I q => h pins s σ H R I (m σ H R q)
theorem iv_list {tg : Expr} (h : EV X G e (.list ds)) : IV X G tg e ds := (pi_list h).imp fun σ H R ⟨h, q⟩ => ⟨h, fun v H1 s1 d1 => by
  obtain ⟨l, us, rfl, hl, d2⟩ := d1.of_lst
  refine ⟨l, rfl, ⟨us, hl⟩, q _ H1 s1 ⟨fun i H2 s2 hi => ?_, fun i H2 v H3 s2 _ ⟨e, y⟩ => ?_, fun i H2 s2 hi => ⟨us, s2.seq hl, by rw [d2.length]; exact hi⟩⟩⟩
  · obtain ⟨v, e, _⟩ := d2.get (i := i) (d := ds[i]) (by simp [hi])
    exact ⟨us, v, s2.seq hl, e⟩
  · subst e
    obtain ⟨d, e1, e2⟩ := d2.get' (y us (s2.seq hl))
    exact ⟨Same.refl _, d, e1, e2.mono s2⟩⟩
abbrev rangeD (lo : Int) (n : Nat) : List PyData := (List.range n).map fun (i : Nat) => PyData.int (lo + (i : Int))
theorem rangeD_len {lo : Int} {n : Nat} : (rangeD lo n).length = n := by simp [rangeD]
theorem rangeD_get {lo : Int} {n i : Nat} (h : i < n) : (rangeD lo n)[i]? = some (.int (lo + (i : Int))) := by simp [rangeD, h]
theorem itd_range {K : PySem.W.Frag} {lo : Int} {n : Nat} {H : Hp} : ItD K (Itr lo n) (rangeD lo n) H where
  go := fun i H s h => by rw [rangeD_len] at h; exact h
  yld := fun i H v H' s h ⟨e, y⟩ => by
    rw [rangeD_len] at h
    subst e y
    exact ⟨Same.refl _, _, rangeD_get h, .int _⟩
  stop := fun i H s h => by rw [rangeD_len] at h; exact h
theorem iv_range1 {tg : Expr} {n : Int} (ha : EV X G a (.int n)) (h1 : -(2 ^ 62) ≤ n) (h2 : n < 2 ^ 62) (hg : Gl X "range") (hm : X.mg "range" = none) (hs : starEach [a] X.env = [(false, eval a X.env)] := by rfl) :
    IV X G tg (.Call (.Name "range" p) [a] [] pos) (rangeD 0 n.toNat) :=
  (pi_range1 hg hm (av_cons ha av_nil hs) hs).imp fun σ H R ⟨h, q⟩ => ⟨h, fun vs H1 s1 d1 => by
    obtain ⟨v, rfl, dv⟩ := d1.one
    exact ⟨n, by rw [dv.of_int], h1, h2, q _ H1 s1 itd_range⟩⟩
end
end L2
set_option maxRecDepth 100000
set_option maxHeartbeats 4000000
namespace L2
open PySem PySem.Spec PyProof.Rows
def outG (ix : List Nat) (G : Gam) : Gam := ix.map fun i => (G[i]?).getD none
theorem SD.comp {K : PySem.W.Frag} {H : Hp} {σ : St} {G : Gam} (h : SD K H σ G) (k : Nat) (ix : List Nat) : SD K H (List.replicate k none ++ outS ix σ) (List.replicate k none ++ outG ix G) := by
  refine ⟨by simp [outS, outG], fun i d e => ?_⟩
  rcases Nat.lt_or_ge i k with hi | hi
  · rw [List.getElem?_append_left (by simpa using hi), List.getElem?_replicate, if_pos hi] at e
    cases e
  · rw [List.getElem?_append_right (by simpa using hi), List.length_replicate] at e ⊢
    unfold outG at e
    unfold outS
    rw [List.getElem?_map] at e ⊢
    cases q : ix[i - k]? with
    | none => rw [q] at e; cases e
    | some j =>
      rw [q] at e
      have e : (G[j]?).getD none = some d := Option.some.inj e
      have e' : G[j]? = some (some d) := by
        cases z : G[j]? with
        | none => rw [z] at e; cases e
        | some w => rw [z] at e; have e : w = some d := e; rw [e]
      obtain ⟨v, a, b⟩ := h.2 j d e'
      exact ⟨v, by rw [Option.map_some, a]; rfl, b⟩
section
variable {X : Cx} {G : Gam} {elt target iter : Expr} {ifs : List Expr} {scope : Scope} {pos : Pos} {N : List Str} {ix : List Nat} {ds : List PyData}
theorem PE.ex {ι : Type} {e : Expr} {t : ι → TE} {p : ι → Prop} (h : ∀ i, p i → PE X e (t i)) : PE X e (fun σ H Q => ∃ i, p i ∧ t i σ H Q) := fun pins s σ H Q I ⟨i, hi, q⟩ => h i hi pins s σ H Q I q
theorem PF.ex {ι : Type} {es : List Expr} {t : ι → TT} {p : ι → Prop} (h : ∀ i, p i → PF X es (t i)) : PF X es (fun σ H Q => ∃ i, p i ∧ t i σ H Q) := fun pins s σ H Q I ⟨i, hi, q⟩ => h i hi pins s σ H Q I q
theorem pf_D0 : PF X [] (tDT X.K G true) := fun pins s σ H Q I ⟨h, q⟩ => pf_nil pins s σ H Q I (q H (Same.refl H))
structure BindD (K : PySem.W.Frag) (k : Nat) (g : TG) (B : PyData → Gam → Gam) (d : PyData) : Prop where
  to : ∀ (v : V) σ H G (Q : St → Hp → Prop), SD K H σ G → DV K H v d → (∀ σ2, SD K H σ2 (B d G) → Q σ2 H) → g v σ H Q
def bind1 (d : PyData) (G : Gam) : Gam := G.set 0 (some d)
theorem bindD1 {K : PySem.W.Frag} (d : PyData) : BindD K 1 (gName 0) bind1 d := ⟨fun v σ H G Q h dv q => q _ (h.set dv)⟩
theorem compW_D {α : Type} {as : List α} {D : α → PyData} {k : Nat} {g : TG} {B : PyData → Gam → Gam} {σ : St} {J : It} {H1 : Hp} {Q : List V → Hp → Prop} (K : PySem.W.Frag) (Pd : α → Bool) (F : α → PyData) (hz : as.length ≤ sizeLine) (og : OwnG k g)
    (hb : ∀ a ∈ as, BindD K k g B (D a)) (hσ : SD K H1 σ G) (hJ : ItD K J (as.map D) H1) (q : ∀ ys H', Same H1 H' → DVs K H' ys ((as.filter Pd).map F) → Q ys H') :
    CompW k ix g (fun σ H Q => ∃ a, a ∈ as ∧ tDT K (B (D a) (List.replicate k none ++ outG ix G)) (Pd a) σ H Q) (fun σ H Q => ∃ a, (a ∈ as ∧ Pd a = true) ∧ tD K (B (D a) (List.replicate k none ++ outG ix G)) (F a) σ H Q) σ J H1 Q := by
  refine ⟨fun i m ys H => i ≤ as.length ∧ m = as.length - i ∧ Same H1 H ∧ DVs K H ys (((as.take i).filter Pd).map F), ⟨_, Nat.zero_le _, rfl, Same.refl _, .nil⟩, ?_⟩
  rintro i m ys H ⟨hi, rfl, sm, dy⟩
  have hyl : ys.length ≤ as.length := by
    rw [dy.length, List.length_map]
    refine Nat.le_trans (List.length_filter_le _ _) ?_
    rw [List.length_take]
    omega
  refine ⟨Nat.le_trans hyl hz, ?_⟩
  by_cases hlt : i < as.length
  · refine .inr ⟨hJ.go i H sm (by rw [List.length_map]; exact hlt), fun v H' y => ?_⟩
    obtain ⟨s2, d, ed, dv⟩ := hJ.yld i H v H' sm (by rw [List.length_map]; exact hlt) y
    have ea : as[i]? = some as[i] := List.getElem?_eq_getElem hlt
    have ed' : d = D as[i] := by
      rw [List.getElem?_map, ea] at ed
      exact (Option.some.inj ed).symm
    subst ed'
    have hd : as[i] ∈ as := List.getElem_mem hlt
    have tk : (as.take (i + 1)).filter Pd = (as.take i).filter Pd ++ (if Pd as[i] then [as[i]] else []) := take_succ_filter Pd as i as[i] ea
    refine (hb _ hd).to v _ H' _ _ (((hσ.mono sm).mono s2).comp k ix) dv fun σ2 h2 => ⟨as[i], hd, h2, fun H3 s3 => ?_⟩
    cases hp : Pd as[i] with
    | true =>
      refine iteT ⟨as[i], ⟨hd, hp⟩, h2.mono s3, fun w H4 s4 dw => ⟨as.length - (i + 1), by omega, hlt, rfl, ((sm.trans s2).trans s3).trans s4, ?_⟩⟩
      rw [tk, hp, if_pos rfl, List.map_append]
      exact (((dy.mono s2).mono s3).mono s4).append (.cons dw .nil)
    | false =>
      refine iteF ⟨as.length - (i + 1), by omega, hlt, rfl, (sm.trans s2).trans s3, ?_⟩
      rw [tk, hp, if_neg Bool.false_ne_true, List.append_nil]
      exact (dy.mono s2).mono s3
  · have e : i = as.length := by omega
    subst e
    rw [List.take_length] at dy
    exact .inl ⟨hJ.stop _ H sm (by rw [List.length_map]; exact Nat.le_refl _), q ys H sm dy⟩
theorem ev_comp {α : Type} {as : List α} {D : α → PyData} {k : Nat} {g : TG} {B : PyData → Gam → Gam} (Pd : α → Bool) (F : α → PyData) (hcalm : X.calm = true) (hc : CompOk X.env.scope X.N k ix N scope) (og : OwnG k g) (hi : IV X G target iter (as.map D)) (hz : as.length ≤ sizeLine)
    (hb : ∀ a ∈ as, BindD X.K k g B (D a)) (hg : ∀ cl C s H fp, PG (cxComp X scope cl C N s H fp) target g)
    (ht : ∀ a ∈ as, ∀ cl C s H fp, PF (cxComp X scope cl C N s H fp) ifs (tDT X.K (B (D a) (List.replicate k none ++ outG ix G)) (Pd a)))
    (he : ∀ a ∈ as, Pd a = true → ∀ cl C s H fp, EV (cxComp X scope cl C N s H fp) (B (D a) (List.replicate k none ++ outG ix G)) elt (F a))
    (hs : ∀ x, foldedSetIterable iter X.env x = pure x := by intro _; rfl) : EV X G (.ListComp elt [⟨target, iter, ifs, 0⟩] scope pos) (.list ((as.filter Pd).map F)) := by
  refine (pe_comp hcalm hc og hi (fun cl C s H fp => ⟨hg cl C s H fp, PF.ex (t := fun a => tDT X.K (B (D a) (List.replicate k none ++ outG ix G)) (Pd a)) (p := fun a => a ∈ as) fun d hd => ht d hd cl C s H fp, PE.ex (t := fun a => tD X.K (B (D a) (List.replicate k none ++ outG ix G)) (F a)) (p := fun a => a ∈ as ∧ Pd a = true) fun d hd => he d hd.1 hd.2 cl C s H fp⟩) hs).imp fun σ H Q ⟨h, q⟩ => ⟨h, fun J H1 s1 hJ => ?_⟩
  refine compW_D X.K Pd F hz og hb (h.mono s1) hJ fun ys H2 s2 dy D hD => ?_
  exact q _ _ ((s1.trans s2).trans (Same.new hD)) (.lst (SqL.of upd_same) (dy.mono (Same.new hD)))
theorem sv_setComp {α : Type} {as : List α} {D : α → PyData} {k i : Nat} {x : Str} {pos' spos : Pos} {g : TG} {B : PyData → Gam → Gam} (Pd : α → Bool) (F : α → PyData) (hcalm : X.calm = true) (hN : X.N.Nodup) (hx0 : X.N[i]? = some x) (hx : X.env.scope.names.lookup x = some .local)
    (hc : CompOk X.env.scope X.N k ix N scope) (og : OwnG k g) (hi : IV X G target iter (as.map D)) (hz : as.length ≤ sizeLine)
    (hb : ∀ a ∈ as, BindD X.K k g B (D a)) (hg : ∀ cl C s H fp, PG (cxComp X scope cl C N s H fp) target g)
    (ht : ∀ a ∈ as, ∀ cl C s H fp, PF (cxComp X scope cl C N s H fp) ifs (tDT X.K (B (D a) (List.replicate k none ++ outG ix G)) (Pd a)))
    (he : ∀ a ∈ as, Pd a = true → ∀ cl C s H fp, EV (cxComp X scope cl C N s H fp) (B (D a) (List.replicate k none ++ outG ix G)) elt (F a))
    (hsw : swapsWith (.ListComp elt [⟨target, iter, ifs, 0⟩] scope pos) (some (.Name x pos')) spos.line X.env = pure true := by rfl)
    (hs : ∀ x, foldedSetIterable iter X.env x = pure x := by intro _; rfl) : SV X G (.Assign [.Name x pos'] (.ListComp elt [⟨target, iter, ifs, 0⟩] scope pos) spos) (.next (G.set i (some (.list ((as.filter Pd).map F))))) := by
  refine (ps_setComp hcalm hN hx0 hx hc og hi (fun cl C s H fp => ⟨hg cl C s H fp, PF.ex (t := fun a => tDT X.K (B (D a) (List.replicate k none ++ outG ix G)) (Pd a)) (p := fun a => a ∈ as) fun d hd => ht d hd cl C s H fp, PE.ex (t := fun a => tD X.K (B (D a) (List.replicate k none ++ outG ix G)) (F a)) (p := fun a => a ∈ as ∧ Pd a = true) fun d hd => he d hd.1 hd.2 cl C s H fp⟩) hsw hs).imp fun Dn σ H ⟨h, q⟩ => ⟨h, fun J H1 s1 hJ => ?_⟩
  refine compW_D X.K Pd F hz og hb (h.mono s1) hJ fun ys H2 s2 dy D hD => ?_
  have s3 := (s1.trans s2).trans (Same.new (o := .lst ys) hD)
  exact q _ _ s3 ((h.mono s3).set (.lst (SqL.of upd_same) (dy.mono (Same.new hD))))
theorem sv_for {α : Type} {as : List α} {D : α → PyData} {tg : Expr} {body : List Stmt} {k : Nat} {g : TG} {B : PyData → Gam → Gam} (J : Nat → Gam) (hp : PassesOwn (model X.prog X.w) X.A X.env X.xe) (hcalm : X.calm = true) (hi : IV X (J 0) tg iter (as.map D)) (hg : PG X tg g) (hb : ∀ a ∈ as, BindD X.K k g B (D a))
    (hs : ∀ (i : Nat) a, as[i]? = some a → SVs X (B (D a) (J i)) body (.next (J (i + 1)))) (hfs : ∀ x, foldedSetIterable iter X.env x = pure x := by intro _; rfl) : SV X (J 0) (.For tg iter body [] pos) (.next (J as.length)) := by
  have hbody : PSs X body (fun Dn σ H => ∃ p : Nat × α, as[p.1]? = some p.2 ∧ tDS X.K (B (D p.2) (J p.1)) (.next (J (p.1 + 1))) Dn σ H) := fun pins s σ H Dn I ⟨p, hp, q⟩ => hs p.1 p.2 hp pins s σ H Dn I q
  refine (ps_for hp hcalm hi hg hbody hfs).imp fun Dn σ H ⟨h, q⟩ => ⟨h, fun It0 H1 s1 hJ => ?_⟩
  refine ⟨fun i m σ H => i ≤ as.length ∧ m = as.length - i ∧ Same H1 H ∧ SD X.K H σ (J i), ⟨_, Nat.zero_le _, rfl, Same.refl _, h.mono s1⟩, ?_⟩
  rintro i m σ H ⟨hi, rfl, sm, hσ⟩
  by_cases hlt : i < as.length
  · refine .inr ⟨hJ.go i H sm (by rw [List.length_map]; exact hlt), fun σ' H' => Same H1 H' ∧ SD X.K H' σ' (J (i + 1)), fun σ' H' ⟨a, b⟩ => ⟨as.length - (i + 1), by omega, hlt, rfl, a, b⟩, fun v H' y => ?_⟩
    obtain ⟨s2, d, ed, dv⟩ := hJ.yld i H v H' sm (by rw [List.length_map]; exact hlt) y
    have ea : as[i]? = some as[i] := List.getElem?_eq_getElem hlt
    have ed' : d = D as[i] := by
      rw [List.getElem?_map, ea] at ed
      exact (Option.some.inj ed).symm
    subst ed'
    refine (hb _ (List.getElem_mem hlt)).to v _ H' _ _ (hσ.mono s2) dv fun σ2 h2 => ⟨(i, as[i]), ea, h2, fun σ3 H3 s3 h3 => ⟨(sm.trans s2).trans s3, h3⟩⟩
  · have e : i = as.length := by omega
    subst e
    exact .inl ⟨hJ.stop _ H sm (by rw [List.length_map]; exact Nat.le_refl _), q σ H (s1.trans sm) hσ⟩
def bindAt (i : Nat) (d : PyData) (G : Gam) : Gam := G.set i (some d)
theorem bindDAt {K : PySem.W.Frag} {k : Nat} (i : Nat) (d : PyData) : BindD K k (gName i) (bindAt i) d := ⟨fun v σ H G Q h dv q => q _ (h.set dv)⟩
end
def startG (N : List Str) (ds : List PyData) : Gam := ds.map some ++ List.replicate (N.length - ds.length) none
theorem SD.start {K : PySem.W.Frag} {H : Hp} {N : List Str} {vs : List V} {ds : List PyData} (h : DVs K H vs ds) : SD K H (start N vs) (startG N ds) := by
  refine ⟨by simp [L2.start, startG, h.length], fun i d e => ?_⟩
  unfold startG at e
  unfold L2.start
  rcases Nat.lt_or_ge i ds.length with hi | hi
  · rw [List.getElem?_append_left (by simpa using hi), List.getElem?_map] at e
    rw [List.getElem?_append_left (by simpa [h.length] using hi), List.getElem?_map]
    cases q : ds[i]? with
    | none => rw [q] at e; cases e
    | some d' =>
      rw [q] at e
      have e : d' = d := by
        have := Option.some.inj e
        exact Option.some.inj this
      subst e
      obtain ⟨v, a, b⟩ := h.get q
      exact ⟨v, by rw [a]; rfl, b⟩
  · rw [List.getElem?_append_right (by simpa using hi), List.getElem?_replicate] at e
    split at e <;> cases e
section
variable {P : Program} {w : World} {K : PySem.W.Frag} {mg : Str → Option Value} {base : Heap}
theorem Fun.data {x qual : Str} {st : Stmt} {f : Addr} {fd : FuncData} {N ps : List Str} {k : Nat} {F : List PyData → PyData → Prop} (F0 : Fun K x qual st f fd) (hm : mg x = some (.ref f)) (hb : Binds K fd ps []) (S : FnScope N ps (defScope st)) (len : ∀ ds d, F ds d → ds.length = ps.length)
    (hbody : ∀ (cdv : Value) (A : Around) (outer : List Env) (s : Shared) (H : Hp) (E : XK) (ds : List PyData) (d : PyData), Room k (A.deeper (envOfC qual (defScope st) s.heap.objs.size f cdv)) → F ds d →
      SVs (cxOf CX0 P w K mg base N qual (defScope st) f cdv A outer s H E).nox (startG N ds) (defBody st) (.ret d)) : DFn P w K mg base (k + 1) x F := by
  refine ⟨f, fd, ps, F0.ok S (fun vs H Q E ⟨ds, d, h1, h2, _⟩ => h1.length.trans (len ds d h2)) (fun cdv A outer s H vs Q E hr ⟨ds, d, h1, h2, q⟩ => ⟨_, hbody cdv A outer s H E ds d hr h2, SD.start h1, q⟩), hm, F0.kp, hb⟩
end
theorem DFn.mono {P : Program} {w : World} {K : PySem.W.Frag} {mg : Str → Option Value} {base : Heap} {j k : Nat} {x : Str} {F : List PyData → PyData → Prop} (D : DFn P w K mg base j x F) (h : j ≤ k) : DFn P w K mg base k x F := by
  obtain ⟨f, fd, ps, ok, r⟩ := D
  exact ⟨f, fd, ps, ok.mono h, r⟩
end L2
set_option maxRecDepth 100000
set_option maxHeartbeats 4000000
namespace L2
open PySem PySem.Spec PyProof.Rows
mutual
def noL : PyData → Bool
  | .none => true
  | .bool _ => true
  | .int _ => true
  | .str _ => true
  | .tuple xs => noLs xs
  | .list _ => false
  | .dict _ => false
def noLs : List PyData → Bool
  | [] => true
  | x :: r => noL x && noLs r
end
def dele (H : Hp) (p : Addr) : Hp := fun b => if b = p then none else H b
theorem dele_same {H : Hp} {p : Addr} : dele H p p = none := by unfold dele; rw [if_pos rfl]
theorem dele_ne {H : Hp} {p b : Addr} (h : b ≠ p) : dele H p b = H b := by unfold dele; rw [if_neg h]
theorem upd_dele {H : Hp} {p : Addr} {o : HO} (h : H p = some o) : upd (dele H p) p o = H := by
  funext b
  by_cases hb : b = p
  · subst hb; rw [upd_same, h]
  · rw [upd_ne hb, dele_ne hb]
mutual
theorem DV.dele {K : PySem.W.Frag} {H : Hp} {p : Addr} {ws : List V} (hp : H p = some (.lst ws)) : ∀ {v : V} {d : PyData}, DV K H v d → noL d = true → DV K (L2.dele H p) v d
  | _, _, .non, _ => .non
  | _, _, .bl b, _ => .bl b
  | _, _, .int i, _ => .int i
  | _, _, .str x, _ => .str x
  | _, _, .tup (a := a) h t, f => by
    refine .tup ?_ (DVs.dele hp t (by unfold noL at f; exact f))
    rcases h with (h | ⟨o, h⟩) | h
    · have : a ≠ p := fun z => by subst z; rw [hp] at h; cases h
      exact .inl (.inl (by rw [dele_ne this]; exact h))
    · have : a ≠ p := fun z => by subst z; rw [hp] at h; cases h
      exact .inl (.inr ⟨o, by rw [dele_ne this]; exact h⟩)
    · exact .inr h
  | _, _, .lst h t, f => by unfold noL at f; cases f
  | _, _, .dct h t, f => by unfold noL at f; cases f
  | _, _, .exc h, f => by unfold noL at f; cases f
  | _, _, .exr h h', f => by unfold noL at f; cases f
theorem DVs.dele {K : PySem.W.Frag} {H : Hp} {p : Addr} {ws : List V} (hp : H p = some (.lst ws)) : ∀ {vs : List V} {ds : List PyData}, DVs K H vs ds → noLs ds = true → DVs K (L2.dele H p) vs ds
  | _, _, .nil, _ => .nil
  | _, _, .cons h t, f => by
    unfold noLs at f
    rw [Bool.and_eq_true] at f
    exact .cons (DV.dele hp h f.1) (DVs.dele hp t f.2)
end
def OSt (K : PySem.W.Frag) (H0 : Hp) (p : Addr) (i : Nat) (G : Gam) (ds : List PyData) (σ : St) (H : Hp) : Prop :=
  ∃ Hb vs, H = upd Hb p (.lst vs) ∧ Hb p = none ∧ Same H0 Hb ∧ SD K Hb σ G ∧ σ[i]? = some (some (.ref p)) ∧ DVs K Hb vs ds
abbrev plusL (G : Gam) (i : Nat) (ds : List PyData) : Gam := G.set i (some (.list ds))
theorem OSt.sd {K : PySem.W.Frag} {H0 : Hp} {p : Addr} {i : Nat} {G : Gam} {ds : List PyData} {σ : St} {H : Hp} (h : OSt K H0 p i G ds σ H) : SD K H σ (plusL G i ds) := by
  obtain ⟨Hb, vs, rfl, hn, _, hσ, hi, dv⟩ := h
  have h1 := hσ.mono (Same.new (o := .lst vs) hn)
  have h2 := h1.set (i := i) (v := .ref p) (d := .list ds) (.lst (SqL.of upd_same) (dv.mono (Same.new hn)))
  have e : σ.set i (some (V.ref p)) = σ := by
    refine List.ext_getElem? fun j => ?_
    by_cases hj : i = j
    · subst hj
      rw [List.getElem?_set_self (List.getElem?_eq_some_iff.mp hi).1, hi]
    · rw [List.getElem?_set_ne hj]
  rw [e] at h2
  exact h2
theorem OSt.step {K : PySem.W.Frag} {H0 : Hp} {p : Addr} {i : Nat} {G : Gam} {ds : List PyData} {σ : St} {H H' : Hp} (h : OSt K H0 p i G ds σ H) (s : Same H H') :
    OSt K H0 p i G ds σ H' ∧ ∀ v d, DV K H' v d → noL d = true → ∃ Hb vs, H' = upd Hb p (.lst vs) ∧ Hb p = none ∧ Same H0 Hb ∧ SD K Hb σ G ∧ σ[i]? = some (some (.ref p)) ∧ DVs K Hb vs ds ∧ DV K Hb v d := by
  obtain ⟨Hb, vs, rfl, hn, s0, hσ, hi, dv⟩ := h
  have hp : H' p = some (.lst vs) := s p _ upd_same
  have sb : Same Hb (dele H' p) := fun b o e => by
    have hb : b ≠ p := ne_of_none e hn
    rw [dele_ne hb]
    exact s b o (by rw [upd_ne hb]; exact e)
  refine ⟨⟨dele H' p, vs, (upd_dele hp).symm, dele_same, s0.trans sb, hσ.mono sb, hi, dv.mono sb⟩, fun v d q f => ⟨dele H' p, vs, (upd_dele hp).symm, dele_same, s0.trans sb, hσ.mono sb, hi, dv.mono sb, DV.dele hp q f⟩⟩
def tH (K : PySem.W.Frag) (H0 : Hp) (p : Addr) (i : Nat) (Pre Post : Gam → List PyData → Prop) : TS := fun D σ H => (∃ G ds, Pre G ds ∧ OSt K H0 p i G ds σ H) ∧ ∀ σ' H' G ds, Post G ds → OSt K H0 p i G ds σ' H' → D.nx σ' H'
abbrev HT1 (X : Cx) (H0 : Hp) (p : Addr) (i : Nat) (Pre : Gam → List PyData → Prop) (st : Stmt) (Post : Gam → List PyData → Prop) : Prop := PS X st (tH X.K H0 p i Pre Post)
abbrev HTs (X : Cx) (H0 : Hp) (p : Addr) (i : Nat) (Pre : Gam → List PyData → Prop) (sts : List Stmt) (Post : Gam → List PyData → Prop) : Prop := PSs X sts (tH X.K H0 p i Pre Post)
section
variable {X : Cx} {H0 : Hp} {p : Addr} {i j : Nat} {Pre Mid Post PreA PreB : Gam → List PyData → Prop} {e c : Expr} {pos pos' pos2 : Pos} {x : Str}
theorem hts_nil (h : ∀ G ds, Pre G ds → Post G ds) : HTs X H0 p i Pre [] Post := pss_nil.imp fun D σ H ⟨⟨G, ds, a, b⟩, q⟩ => q σ H G ds (h G ds a) b
theorem hts_cons {st : Stmt} {sts : List Stmt} (h1 : HT1 X H0 p i Pre st Mid) (h2 : HTs X H0 p i Mid sts Post) : HTs X H0 p i Pre (st :: sts) Post :=
  (pss_cons h1 h2).imp fun D σ H ⟨a, q⟩ => ⟨a, fun σ' H' G ds m o => ⟨⟨G, ds, m, o⟩, q⟩⟩
theorem ht_set (hN : X.N.Nodup) (hi : X.N[j]? = some x) (hij : j ≠ i) (hx : Loc X.env.scope x) (h : ∀ G ds, Pre G ds → ∃ d, EV X (plusL G i ds) e d ∧ noL d = true ∧ Post (G.set j (some d)) ds) (hs : swapsWith e (some (.Name x pos')) pos.line X.env = pure false := by rfl)
    (hf : X.fn x = true ∨ X.env.scope.names.lookup x = some .local := by first | exact .inl rfl | exact .inr rfl | assumption) : HT1 X H0 p i Pre (.Assign [.Name x pos'] e pos) Post := by
  intro pins s σ H D I ⟨⟨G, ds, a, o⟩, q⟩
  obtain ⟨d, ev, nl, po⟩ := h G ds a
  refine ps_set hN hi hx ev hs hf pins s σ H D I ⟨o.sd, fun v H1 s1 d1 => ?_⟩
  obtain ⟨_, k⟩ := o.step s1
  obtain ⟨Hb, vs, e1, e2, e3, e4, e5, e6, e7⟩ := k v d d1 nl
  exact q _ _ _ ds po ⟨Hb, vs, e1, e2, e3, e4.set e7, by rw [List.getElem?_set_ne hij]; exact e5, e6⟩
theorem ht_append (h : ∀ G ds, Pre G ds → ∃ d, EV X (plusL G i ds) e d ∧ noL d = true ∧ ds.length < sizeLine ∧ Post G (ds ++ [d])) (hv : PE X (.Name x pos2) (tVar i))
    (hs0 : starEach [e] X.env = (false, eval e X.env) :: starEach [] X.env := by rfl)
    (hb : attributeBase (.Name x pos2) "append" X.env (eval (.Name x pos2) X.env) = eval (.Name x pos2) X.env := by rfl)
    (hfew : ((backTo pos' (starEach [e] X.env)).all (fun x => !x.1) && (backToKw pos' (keywordEach [] X.env)).all (fun x => x.1.isSome)
      && decide ([e].length + ([] : List Keyword).length + (if ([] : List Keyword).isEmpty then 0 else 1) < 30)) = true := by rfl)
    {apos : Pos} (hline : (apos.endLine == pos'.line) = true := by rfl) (hpl : (backTo pos' (starEach [] X.env)).any (·.1) = false := by rfl)
    (hsw : swapsWith (.Call (.Attribute (.Name x pos2) "append" apos) [e] [] pos') none pos.line X.env = pure false := by rfl) :
    HT1 X H0 p i Pre (.Expr (.Call (.Attribute (.Name x pos2) "append" apos) [e] [] pos') pos) Post := by
  intro pins s σ H D I ⟨⟨G, ds, a, o⟩, q⟩
  obtain ⟨d, ev, nl, hz, po⟩ := h G ds a
  refine ps_expr (pe_bm PySem.F.plainAttrs_list PySem.F.slot_list_append PySem.F.type_list_append mt_append hv (av_cons ev av_nil hs0) hb hfew hline hs0 hpl) hsw pins s σ H D I ?_
  obtain ⟨Hb, vs, rfl, hn, s0, hσ, hi, dv⟩ := id o
  refine ⟨_, hi, .inl ⟨rfl, vs, SqL.of upd_same⟩, o.sd, fun ws H1 s1 d1 => ?_⟩
  obtain ⟨v, rfl, d2⟩ := d1.one
  obtain ⟨_, k⟩ := o.step s1
  obtain ⟨Hb', vs', e1, e2, e3, e4, e5, e6, e7⟩ := k v d d2 nl
  subst e1
  have hup : upd (upd Hb' p (.lst vs')) p (.lst (vs' ++ [v])) = upd Hb' p (.lst (vs' ++ [v])) := upd_upd
  refine ⟨p, vs', v, rfl, rfl, upd_same, by rw [e6.length]; exact hz, ?_⟩
  rw [hup]
  exact q _ _ G _ po ⟨Hb', vs' ++ [v], rfl, e2, e3, e4, e5, e6.append (.cons e7 .nil)⟩
theorem ht_ex {α : Type} {Pr : α → Gam → List PyData → Prop} {st : Stmt} (h : ∀ a, HT1 X H0 p i (Pr a) st Post) : HT1 X H0 p i (fun G ds => ∃ a, Pr a G ds) st Post := fun pins s σ H D I ⟨⟨G, ds, ⟨a, b⟩, o⟩, q⟩ => h a pins s σ H D I ⟨⟨G, ds, b, o⟩, q⟩
theorem pi_r1 {a : Expr} {G : Gam} {tg : Expr} {n : Int} (ha : EV X G a (.int n)) (h1 : -(2 ^ 62) ≤ n) (h2 : n < 2 ^ 62) (hg : Gl X "range") (hm : X.mg "range" = none) (hs : starEach [a] X.env = [(false, eval a X.env)] := by rfl) :
    PI X tg (.Call (.Name "range" pos') [a] [] pos) (fun σ H R => SD X.K H σ G ∧ ∀ H', Same H H' → R (Itr 0 n.toNat) H') :=
  (pi_range1 hg hm (av_cons ha av_nil hs) hs).imp fun σ H R ⟨h, q⟩ => ⟨h, fun vs H1 s1 d1 => by
    obtain ⟨v, rfl, dv⟩ := d1.one
    exact ⟨n, by rw [dv.of_int], h1, h2, q H1 s1⟩⟩
theorem pi_r2 {a b : Expr} {G : Gam} {tg : Expr} {m n : Int} (ha : EV X G a (.int m)) (hb : EV X G b (.int n)) (h0 : -(2 ^ 62) ≤ m ∧ m < 2 ^ 62 ∧ -(2 ^ 62) ≤ n ∧ n < 2 ^ 62) (hg : Gl X "range") (hm : X.mg "range" = none)
    (hs : starEach [a, b] X.env = [(false, eval a X.env), (false, eval b X.env)] := by rfl) (hs2 : starEach [b] X.env = [(false, eval b X.env)] := by rfl) :
    PI X tg (.Call (.Name "range" pos') [a, b] [] pos) (fun σ H R => SD X.K H σ G ∧ ∀ H', Same H H' → R (Itr m (n - m).toNat) H') :=
  (pi_range2 hg hm (av_cons ha (av_cons hb av_nil hs2) (by rw [hs, hs2])) hs hs2).imp fun σ H R ⟨h, q⟩ => ⟨h, fun vs H1 s1 d1 => by
    obtain ⟨v, w, rfl, dv, dw⟩ := d1.two
    exact ⟨m, n, by rw [dv.of_int, dw.of_int], h0, q H1 s1⟩⟩
theorem ht_if {A B : List Stmt} (h : ∀ G ds, Pre G ds → (TV X (plusL G i ds) c true ∧ PreA G ds) ∨ (TV X (plusL G i ds) c false ∧ PreB G ds)) (h1 : HTs X H0 p i PreA A Post) (h2 : HTs X H0 p i PreB B Post) : HT1 X H0 p i Pre (.If c A B pos) Post := by
  intro pins s σ H D I ⟨⟨G, ds, a, o⟩, q⟩
  rcases h G ds a with ⟨tv, pa⟩ | ⟨tv, pb⟩
  · exact ps_if tv h1 h2 pins s σ H D I ⟨o.sd, fun H1 s1 => iteT ⟨⟨G, ds, pa, (o.step s1).1⟩, q⟩⟩
  · exact ps_if tv h1 h2 pins s σ H D I ⟨o.sd, fun H1 s1 => iteF ⟨⟨G, ds, pb, (o.step s1).1⟩, q⟩⟩
theorem ht_forR {tg iter : Expr} {body : List Stmt} {lo : Int} {n : Nat} (W : Nat → Gam → List PyData → Prop) (hp : PassesOwn (model X.prog X.w) X.A X.env X.xe) (hcalm : X.calm = true) (hij : j ≠ i) (hg : PG X tg (gName j))
    (hpre : ∀ G ds, Pre G ds → W 0 G ds ∧ PI X tg iter (fun σ H R => SD X.K H σ (plusL G i ds) ∧ ∀ H', Same H H' → R (Itr lo n) H'))
    (hs : ∀ k, k < n → HTs X H0 p i (fun G ds => ∃ G', W k G' ds ∧ G = G'.set j (some (.int (lo + (k : Nat))))) body (W (k + 1))) (hpost : ∀ G ds, W n G ds → Post G ds)
    (hfs : ∀ x, foldedSetIterable iter X.env x = pure x := by intro _; rfl) : HT1 X H0 p i Pre (.For tg iter body [] pos) Post := by
  intro pins s σ H D I ⟨⟨G, ds, a, o⟩, q⟩
  obtain ⟨w0, hi⟩ := hpre G ds a
  have hbody : PSs X body (fun D σ H => ∃ k : Nat, k < n ∧ tH X.K H0 p i (fun G ds => ∃ G', W k G' ds ∧ G = G'.set j (some (.int (lo + (k : Nat))))) (W (k + 1)) D σ H) := fun pins s σ H D I ⟨k, hk, q⟩ => hs k hk pins s σ H D I q
  refine ps_for hp hcalm hi hg hbody hfs pins s σ H D I ⟨o.sd, fun H1 s1 => ?_⟩
  refine for_range (lo := lo) (n := n) (g := gName j) (tb := fun D σ H => ∃ k : Nat, k < n ∧ tH X.K H0 p i (fun G ds => ∃ G', W k G' ds ∧ G = G'.set j (some (.int (lo + (k : Nat))))) (W (k + 1)) D σ H) (fun k σ H => k ≤ n ∧ ∃ G ds, W k G ds ∧ OSt X.K H0 p i G ds σ H) ⟨Nat.zero_le _, G, ds, w0, (o.step s1).1⟩ (fun k σ2 H2 hk ⟨_, G2, ds2, w2, o2⟩ => ?_) (fun σ2 H2 ⟨_, G2, ds2, w2, o2⟩ => q σ2 H2 G2 ds2 (hpost _ _ w2) o2)
  obtain ⟨Hb, vs, rfl, hn, s0, hσ, hi2, dv⟩ := id o2
  refine ⟨k, hk, ⟨_, ds2, ⟨G2, w2, rfl⟩, Hb, vs, rfl, hn, s0, hσ.set (.int _), by rw [List.getElem?_set_ne hij]; exact hi2, dv⟩, fun σ3 H3 G3 ds3 w3 o3 => ⟨hk, G3, ds3, w3, o3⟩⟩
theorem ht_forL {tg : Expr} {y : Str} {body : List Stmt} {m : Nat} {xs : List PyData} (W : Nat → Gam → List PyData → Prop) (hp : PassesOwn (model X.prog X.w) X.A X.env X.xe) (hcalm : X.calm = true) (hij : j ≠ i) (hg : PG X tg (gName j)) (hv : PE X (.Name y pos') (tVar m))
    (hpre : ∀ G ds, Pre G ds → W 0 G ds ∧ G[m]? = some (some (.list xs)))
    (hs : ∀ (H1 : Hp) (k : Nat) d, xs[k]? = some d → HTs X H1 p i (fun G ds => ∃ G', W k G' ds ∧ G = G'.set j (some d)) body (W (k + 1))) (hpost : ∀ G ds, W xs.length G ds → Post G ds)
    (hfs : ∀ x, foldedSetIterable (.Name y pos') X.env x = pure x := by intro _; rfl) : HT1 X H0 p i Pre (.For tg (.Name y pos') body [] pos) Post := by
  intro pins s σ H D I ⟨⟨G, ds, a, o⟩, q⟩
  obtain ⟨w0, hm⟩ := hpre G ds a
  obtain ⟨Hb, vs, rfl, hn, s0, hσ, hi, dv⟩ := id o
  obtain ⟨v, e1, dl⟩ := hσ.2 m _ hm
  obtain ⟨l, us, rfl, hl, dus⟩ := dl.of_lst
  have hbody : PSs X body (fun D σ H => ∃ kd : Nat × PyData, xs[kd.1]? = some kd.2 ∧ tH X.K Hb p i (fun G ds => ∃ G', W kd.1 G' ds ∧ G = G'.set j (some kd.2)) (W (kd.1 + 1)) D σ H) := fun pins s σ H D I ⟨k, hk, q⟩ => hs Hb k.1 k.2 hk pins s σ H D I q
  have keyN : ∀ {G2 : Gam} {ds2 : List PyData} {σ2 : St} {H2 : Hp}, OSt X.K Hb p i G2 ds2 σ2 H2 → SqL X.K H2 l us := fun ⟨Hc, ws, e, nc, sc, _⟩ => by
    subst e
    exact (Same.new nc).seq (sc.seq hl)
  refine ps_for hp hcalm (pi_list hv) hg hbody hfs pins s σ _ D I ⟨_, e1, l, rfl, ⟨us, (Same.new hn).seq hl⟩, ?_⟩
  refine for_list (K := X.K) (a := l) (xs := us) (g := gName j) (tb := fun D σ H => ∃ kd : Nat × PyData, xs[kd.1]? = some kd.2 ∧ tH X.K Hb p i (fun G ds => ∃ G', W kd.1 G' ds ∧ G = G'.set j (some kd.2)) (W (kd.1 + 1)) D σ H)
    (fun k σ H => ∃ G ds, W k G ds ∧ OSt X.K Hb p i G ds σ H) ⟨G, ds, w0, Hb, vs, rfl, hn, Same.refl _, hσ, hi, dv⟩ (fun k σ2 H2 _ ⟨_, _, _, o2⟩ => keyN o2) (fun k z σ2 H2 hk ⟨G2, ds2, w2, o2⟩ => ?_)
    (fun σ2 H2 ⟨G2, ds2, w2, Hc, ws, e, nc, sc, r⟩ => q σ2 H2 G2 ds2 (hpost _ _ (by rw [← dus.length]; exact w2)) ⟨Hc, ws, e, nc, s0.trans sc, r⟩)
  obtain ⟨d, ed, dz⟩ := dus.get' hk
  obtain ⟨Hc, ws, e, nc, sc, hσ2, hi2, dv2⟩ := o2
  exact ⟨(k, d), ed, ⟨_, ds2, ⟨G2, w2, rfl⟩, Hc, ws, e, nc, sc, hσ2.set (dz.mono sc), by rw [List.getElem?_set_ne hij]; exact hi2, dv2⟩, fun σ3 H3 G3 ds3 w3 o3 => ⟨G3, ds3, w3, o3⟩⟩
def tR (K : PySem.W.Frag) (G : Gam) (R : PyData → Prop) : TS := fun D σ H => SD K H σ G ∧ ∀ d v H', R d → Same H H' → DV K H' v d → D.rt v H'
abbrev RVs (X : Cx) (G : Gam) (sts : List Stmt) (R : PyData → Prop) : Prop := PSs X sts (tR X.K G R)
def tHR (K : PySem.W.Frag) (H0 : Hp) (p : Addr) (i : Nat) (Pre : Gam → List PyData → Prop) (R : PyData → Prop) : TS := fun D σ H => (∃ G ds, Pre G ds ∧ OSt K H0 p i G ds σ H) ∧ ∀ d v H', R d → Same H0 H' → DV K H' v d → D.rt v H'
abbrev HRs (X : Cx) (H0 : Hp) (p : Addr) (i : Nat) (Pre : Gam → List PyData → Prop) (sts : List Stmt) (R : PyData → Prop) : Prop := PSs X sts (tHR X.K H0 p i Pre R)
variable {R : PyData → Prop} {G : Gam} {d : PyData}
theorem hrs_cons {st : Stmt} {sts : List Stmt} (h1 : HT1 X H0 p i Pre st Mid) (h2 : HRs X H0 p i Mid sts R) : HRs X H0 p i Pre (st :: sts) R :=
  (pss_cons h1 h2).imp fun D σ H ⟨a, q⟩ => ⟨a, fun σ' H' G ds m o => ⟨⟨G, ds, m, o⟩, q⟩⟩
theorem hrs_ret {sts : List Stmt} (hv : PE X (.Name x pos2) (tVar i)) (h : ∀ G ds, Pre G ds → R (.list ds)) : HRs X H0 p i Pre (.Return (some (.Name x pos2)) pos :: sts) R :=
  (pss_cons (ps_ret hv) (pss_never (sts := sts))).imp fun D σ H ⟨⟨G, ds, a, Hb, vs, e, n, s0, hσ, hi, dv⟩, q⟩ => by
    subst e
    exact ⟨_, hi, q _ _ _ (h G ds a) (s0.trans (Same.new n)) (.lst (SqL.of upd_same) (dv.mono (Same.new n)))⟩
theorem rvs_own {sts : List Stmt} (hN : X.N.Nodup) (hi : X.N[i]? = some x) (hx : Loc X.env.scope x) (hG : i < G.length) (h : ∀ H0 p, HRs X H0 p i (fun G' ds => G' = G.set i none ∧ ds = []) sts R)
    (hs : swapsWith (.List [] pos2) (some (.Name x pos')) pos.line X.env = pure false := by rfl) (hf : X.fn x = true ∨ X.env.scope.names.lookup x = some .local := by first | exact .inl rfl | exact .inr rfl | assumption) :
    RVs X G (.Assign [.Name x pos'] (.List [] pos2) pos :: sts) R := by
  intro pins s σ H D I ⟨hσ, q⟩
  have h2 : PSs X sts (fun D σ H => ∃ hp : Hp × Addr, tHR X.K hp.1 hp.2 i (fun G' ds => G' = G.set i none ∧ ds = []) R D σ H) := fun pins s σ H D I ⟨hp, q⟩ => h hp.1 hp.2 pins s σ H D I q
  refine pss_cons (ps_set hN hi hx (pe_lst pa_nil) hs hf) h2 pins s σ H D I ⟨Nat.zero_le _, fun p hp => ⟨(H, p), ⟨_, [], ⟨rfl, rfl⟩, H, [], rfl, hp, Same.refl _, ⟨by rw [List.length_set, List.length_set, hσ.1], fun j d e => ?_⟩, List.getElem?_set_self (by rw [hσ.1]; exact hG), .nil⟩, fun d v H' r s' dv => q d v H' r s' dv⟩⟩
  by_cases hj : i = j
  · subst hj
    rw [List.getElem?_set_self hG] at e
    cases e
  · rw [List.getElem?_set_ne hj] at e ⊢
    exact hσ.2 j d e
theorem rvs_cons {st : Stmt} {sts : List Stmt} {G1 : Gam} (h1 : SV X G st (.next G1)) (h2 : RVs X G1 sts R) : RVs X G (st :: sts) R :=
  (pss_cons h1 h2).imp fun D σ H ⟨h, q⟩ => ⟨h, fun σ' H' s' h' => ⟨h', fun d v H2 r s2 dv => q d v H2 r (s'.trans s2) dv⟩⟩
theorem rvs_of {sts : List Stmt} (h : SVs X G sts (.ret d)) (hr : R d) : RVs X G sts R := h.imp fun D σ H ⟨h, q⟩ => ⟨h, fun v H' s' dv => q d v H' hr s' dv⟩
def spR (K : PySem.W.Frag) (F : List PyData → PyData → Prop) (pre : List PyData → Prop) : Sp := fun vs H Q _ => ∃ ds, DVs K H vs ds ∧ pre ds ∧ ∀ d v H', F ds d → Same H H' → DV K H' v d → Q v H'
def RFn (P : Program) (w : World) (K : PySem.W.Frag) (mg : Str → Option Value) (base : Heap) (k : Nat) (x : Str) (F : List PyData → PyData → Prop) (pre : List PyData → Prop) : Prop :=
  ∃ f fd ps, FnOk P w K mg base CX0 k f fd ps (spR K F pre) ∧ mg x = some (.ref f) ∧ PySem.W.keepIn K (.ref f) = true ∧ Binds K fd ps []
def tDR (K : PySem.W.Frag) (G : Gam) (R : PyData → Prop) : TE := fun σ H Q => SD K H σ G ∧ ∀ d v H', R d → Same H H' → DV K H' v d → Q v H'
abbrev EVR (X : Cx) (G : Gam) (e : Expr) (R : PyData → Prop) : Prop := PE X e (tDR X.K G R)
theorem evr_call {k : Nat} {F : List PyData → PyData → Prop} {pre : List PyData → Prop} {es : List Expr} {ds : List PyData} (D : RFn X.prog X.w X.K X.mg X.base k x F pre) (hr : Room k X.A) (hg : Gl X x) (ha : AV X G (e :: es) ds) (hF : pre ds) (hdb : (x == ("__debug__" : Str)) = false := by decide)
    (he : starEach (e :: es) X.env = (false, eval e X.env) :: starEach es X.env := by rfl) (hpl : (backTo pos (starEach es X.env)).any (·.1) = false := by rfl) : EVR X G (.Call (.Name x pos2) (e :: es) [] pos) (F ds) := by
  obtain ⟨f, fd, ps, ok, hm, hk, hb⟩ := D
  refine (pe_call ok hr hg hm hk hb .nil pass0 ha hdb he hpl).imp fun σ H Q ⟨h, q⟩ => ⟨h, fun vs H1 s1 d1 => ?_⟩
  show spR X.K F pre (vs ++ []) H1 Q E0
  rw [List.append_nil]
  exact ⟨ds, d1, hF, fun d v H2 r s2 d2 => q d v H2 r (s1.trans s2) d2⟩
end
section
variable {P : Program} {w : World} {K : PySem.W.Frag} {mg : Str → Option Value} {base : Heap}
theorem Fun.dataR {x qual : Str} {st : Stmt} {f : Addr} {fd : FuncData} {N ps : List Str} {k : Nat} {F : List PyData → PyData → Prop} {pre : List PyData → Prop} (F0 : Fun K x qual st f fd) (hm : mg x = some (.ref f)) (hb : Binds K fd ps []) (S : FnScope N ps (defScope st)) (len : ∀ ds, pre ds → ds.length = ps.length)
    (hbody : ∀ (cdv : Value) (A : Around) (outer : List Env) (s : Shared) (H : Hp) (E : XK) (ds : List PyData), Room k (A.deeper (envOfC qual (defScope st) s.heap.objs.size f cdv)) → pre ds →
      RVs (cxOf CX0 P w K mg base N qual (defScope st) f cdv A outer s H E).nox (startG N ds) (defBody st) (F ds)) : RFn P w K mg base (k + 1) x F pre := by
  refine ⟨f, fd, ps, F0.ok S (fun vs H Q E ⟨ds, h1, h2, _⟩ => h1.length.trans (len ds h2)) (fun cdv A outer s H vs Q E hr ⟨ds, h1, h2, q⟩ => ⟨_, hbody cdv A outer s H E ds hr h2, SD.start h1, q⟩), hm, F0.kp, hb⟩
end
end L2
set_option maxRecDepth 100000
set_option maxHeartbeats 4000000
namespace L2
open PySem PySem.Spec PyProof.Rows
section
variable {X : Cx} {G : Gam} {a b c e : Expr} {es rest : List Expr} {pos p p2 p3 : Pos} {d d' da db dc : PyData} {ds : List PyData} {x : Str}
theorem ev_eq (h : EV X G e d) (q : d = d') : EV X G e d' := q ▸ h
theorem tv_eq {k k' : Bool} (h : TV X G e k) (q : k = k') : TV X G e k' := q ▸ h
end
mutual
theorem eqv_self : ∀ (d : PyData), d.canLay0 = true → PyData.eqv d d = true
  | .none, _ => rfl
  | .bool b, _ => by simp [PyData.eqv]
  | .int i, _ => by simp [PyData.eqv]
  | .str x, _ => by simp [PyData.eqv]
  | .list xs, h => by unfold PyData.eqv; exact eqvAll_self xs (by simpa [PyData.canLay0] using h)
  | .tuple xs, h => by unfold PyData.eqv; exact eqvAll_self xs (by simpa [PyData.canLay0] using h)
  | .dict _, h => by simp [PyData.canLay0] at h
theorem eqvAll_self : ∀ (ds : List PyData), PyData.canLayAll0 ds = true → PyData.eqvAll ds ds = true
  | [], _ => rfl
  | d :: r, h => by
    have h' : d.canLay0 = true ∧ PyData.canLayAll0 r = true := by simpa [PyData.canLayAll0] using h
    unfold PyData.eqvAll
    rw [eqv_self d h'.1, eqvAll_self r h'.2]
    rfl
end
theorem canLayAll_map {α : Type} {f : α → PyData} : ∀ (l : List α), (∀ a ∈ l, (f a).canLay0 = true) → PyData.canLayAll0 (l.map f) = true
  | [], _ => rfl
  | a :: r, h => by
    rw [List.map_cons]
    unfold PyData.canLayAll0
    rw [h a List.mem_cons_self, canLayAll_map r fun b hb => h b (List.mem_cons_of_mem _ hb)]
    rfl
theorem depthAll_map {α : Type} {f : α → PyData} {n : Nat} : ∀ (l : List α), (∀ a ∈ l, (f a).depth ≤ n) → PyData.depthAll (l.map f) ≤ n
  | [], _ => Nat.zero_le _
  | a :: r, h => by
    rw [List.map_cons]
    unfold PyData.depthAll
    exact Nat.max_le.mpr ⟨h a List.mem_cons_self, depthAll_map r fun b hb => h b (List.mem_cons_of_mem _ hb)⟩
theorem filter_true {α : Type} (l : List α) : l.filter (fun _ => true) = l := List.filter_eq_self.mpr fun _ _ => rfl
theorem atI_of {xs : List PyData} {i : Int} {d : PyData} (h0 : 0 ≤ i) (h : xs[i.toNat]? = some d) : atI xs i = some d := by
  have := atI_nat h
  rwa [Int.toNat_of_nonneg h0] at this
section
variable {X : Cx} {G : Gam} {a b c e : Expr} {es : List Expr} {pos p : Pos} {d da db dc : PyData} {ds : List PyData} {x : Str}
theorem ev_callB2 (id : String) (ha : AV X G (e :: es) ds) (hc : CD X (.builtin id) ds d) (hg : Gl X x) (hm : X.mg x = none) (hv : bootBuiltins x = some (.builtin id)) (hn : x ≠ "__name__" := by decide) (hdb : (x == ("__debug__" : Str)) = false := by decide)
    (he : starEach (e :: es) X.env = (false, eval e X.env) :: starEach es X.env := by rfl) (hpl : (backTo pos (starEach es X.env)).any (·.1) = false := by rfl) : EV X G (.Call (.Name x p) (e :: es) [] pos) d := ev_callB hc hg hm hv ha hn hdb he hpl
theorem ev_callTy2 (T : String) (ha : AV X G (e :: es) ds) (hc : CD X (.type T) ds d) (hg : Gl X x) (hm : X.mg x = none) (hv : bootBuiltins x = some (.type T)) (hn : x ≠ "__name__" := by decide) (hdb : (x == ("__debug__" : Str)) = false := by decide)
    (he : starEach (e :: es) X.env = (false, eval e X.env) :: starEach es X.env := by rfl) (hpl : (backTo pos (starEach es X.env)).any (·.1) = false := by rfl) : EV X G (.Call (.Name x p) (e :: es) [] pos) d := ev_callTy hc hg hm hv ha hn hdb he hpl
theorem ev_chain2 {op op' : CmpOp} {k k' : Bool} (ha : EV X G a da) (hb : EV X G b db) (ho : OD X (compareOp op) da db (.bool k)) (hc : EV X G c dc) (ho' : OD X (compareOp op') db dc (.bool k'))
    (hm : lastMarks [op, op'] [b, c] = false := by with_unfolding_all rfl) : EV X G (.Compare a [op, op'] [b, c] pos) (.bool (k && k')) := ev_chain ho (fun _ => ho') ha hb (fun _ => hc) hm
end
theorem at_ints {zs : List Int} {i : Int} (h0 : 0 ≤ i) (h : i < zs.length) : atI (zs.map PyData.int) i = some (.int (zs.getD i.toNat 0)) := by
  have hi : i.toNat < zs.length := by omega
  exact atI_of h0 (by simp [hi])
structure FnIn (K : PySem.W.Frag) (x : Str) (st : Stmt) (f : Addr) (fd : FuncData) : Prop where
  ns : PySem.W.nsIn K mainGlobals x = some (some (.ref f))
  fn : Fun K x x st f fd
theorem fnIn_mk {K : PySem.W.Frag} {x : Str} {st : Stmt} {f : Addr} {oc : Value} {od an : Option Addr} {osl : Array (Option Value)} {kV doc pm cdv ct : Value} (a : PySem.W.nsIn K mainGlobals x = some (some (.ref f)))
    (l : K.lookup f = some ⟨oc, od, .func (PySem.W.fnOf x x (defArgs st) (defBody st) (defScope st) .none kV doc pm an cdv ct), osl⟩) (c : PySem.W.codeIn K cdv x = true) (k : PySem.W.keepIn K (.ref f) = true) : ∃ f fd, FnIn K x st f fd :=
  ⟨f, _, a, fun_mk l c k⟩
section
variable {P : Program} {w : World} {K : PySem.W.Frag} {mg : Str → Option Value} {base : Heap}
theorem Fun.dataOk {x qual : Str} {st : Stmt} {f : Addr} {fd : FuncData} {N ps : List Str} {k : Nat} {F : List PyData → PyData → Prop} (F0 : Fun K x qual st f fd) (S : FnScope N ps (defScope st)) (len : ∀ ds d, F ds d → ds.length = ps.length)
    (hbody : ∀ (cdv : Value) (A : Around) (outer : List Env) (s : Shared) (H : Hp) (E : XK) (ds : List PyData) (d : PyData), Room k (A.deeper (envOfC qual (defScope st) s.heap.objs.size f cdv)) → F ds d →
      SVs (cxOf CX0 P w K mg base N qual (defScope st) f cdv A outer s H E).nox (startG N ds) (defBody st) (.ret d)) : FnOk P w K mg base CX0 (k + 1) f fd ps (spD K F) :=
  F0.ok S (fun vs H Q E ⟨ds, d, h1, h2, _⟩ => h1.length.trans (len ds d h2)) (fun cdv A outer s H vs Q E hr ⟨ds, d, h1, h2, q⟩ => ⟨_, hbody cdv A outer s H E ds d hr h2, SD.start h1, q⟩)
end
def F_law (ds : List PyData) (d : PyData) : Prop := ∃ ns : List Int, ds = [.list (ns.map PyData.int)] ∧ ns.length ≤ 63 ∧ d = .bool true
theorem walk_D {l : PySem.W.OpenLaw} {q : Program} {loose : List Str} {XP : (Str → Option Value) → Heap → Prop} {YP : World → Heap → Prop} {d : DefRec} {K : Params → PySem.W.Frag} (hn : l.most = some 63) (hdf : d.params.defaults = [])
    (hY : ∀ (w : World) (h : Heap), YP w h → (K w.params).In h)
    (F : ∀ (w : World) (mg : Str → Option Value) (fa : Addr) (h : Heap), (K w.params).In h → h.Ns mainGlobals mg → mg d.name = some (.ref fa) →
      ∃ fd : FuncData, (∀ (s : Shared) (u : Value), BindsTo s fd ⟨[u], []⟩ [("script", u)]) ∧ ∀ base : Heap, (K w.params).In base → base.Ns mainGlobals mg → FnOk l.prog w (K w.params) mg base CX0 20 fa fd ["script"] (spD (K w.params) F_law)) :
    PySem.W.WalkO q loose XP YP l.row.toRowW d [] (fun f vs => PySem.call f vs) :=
  L2.walk_of (n := 63) (k := 20) (x := "script") (CX := fun _ => CX0) (sp := fun w => spD (K w.params) F_law) hn (by decide) hdf ⟨rfl, by decide, by decide⟩ hY F
    (fun _ _ a ns hl _ hS => ⟨_, _, .cons (.lst hS (DVs.ints ns)) .nil, ⟨ns, rfl, hl, rfl⟩, fun v H' _ dv => dv.of_bl⟩) fun _ _ _ _ _ z => z
end L2
set_option maxRecDepth 100000
set_option maxHeartbeats 4000000
namespace L2
open PySem PySem.Spec PyProof.Rows
open Builtin.SmallTypes (nextOf)
section
variable {prog : Program} {w : World} {A : Around} {E : Value → Shared → Prop} {s : Shared}
structure ZAp (z a b i j t : Addr) : Prop where
  az : a ≠ z
  bz : b ≠ z
  iz : i ≠ z
  jz : j ≠ z
  ab : a ≠ b
  ai : a ≠ i
  aj : a ≠ j
  bi : b ≠ i
  bj : b ≠ j
  ij : i ≠ j
  tz : t ≠ z
  tb : t ≠ b
  ti : t ≠ i
  tj : t ≠ j
end
end L2
set_option maxRecDepth 100000
set_option maxHeartbeats 4000000
namespace L2
open PySem PySem.Spec PyProof.Rows
structure ZAp0 (z a b i j : Addr) : Prop where
  az : a ≠ z
  bz : b ≠ z
  iz : i ≠ z
  jz : j ≠ z
  ab : a ≠ b
  ai : a ≠ i
  aj : a ≠ j
  bi : b ≠ i
  bj : b ≠ j
  ij : i ≠ j
end L2
set_option maxRecDepth 100000
set_option maxHeartbeats 4000000
namespace L2
open PySem PySem.Spec PyProof.Rows
section
variable {X : Cx} {G : Gam} {a b : Expr} {pos p : Pos}
end
end L2
namespace PySem.SeqAt
open AutoSeq1 (wpAny_loadPart')
open MeetsSeq MeetsSeq2 MeetsSeq3 SeqRoads2
end PySem.SeqAt
set_option maxRecDepth 100000
set_option maxHeartbeats 4000000
namespace L2
open PySem PySem.Spec PyProof.Rows
theorem DVs.strs {K : PySem.W.Frag} {H : Hp} : ∀ (ss : List Str), DVs K H (ss.map V.str) (ss.map PyData.str)
  | [] => .nil
  | x :: r => .cons (.str x) (DVs.strs r)
section
variable {X : Cx} {G : Gam} {a b e : Expr} {pos p p2 : Pos} {d : PyData} {x : Str}
end
end L2
set_option maxRecDepth 100000
set_option maxHeartbeats 4000000
namespace L2
open PySem PySem.Spec PyProof.Rows
def spFL (K : PySem.W.Frag) (F : List PyData → List PyData → Prop) : Sp := fun vs H Q _ => ∃ ds ws, DVs K H vs ds ∧ F ds ws ∧ ∀ p us H', H p = none → Same H H' → H' p = some (.lst us) → DVs K H' us ws → Q (.ref p) H'
def FFn (P : Program) (w : World) (K : PySem.W.Frag) (mg : Str → Option Value) (base : Heap) (k : Nat) (x : Str) (F : List PyData → List PyData → Prop) : Prop :=
  ∃ f fd ps, FnOk P w K mg base CX0 k f fd ps (spFL K F) ∧ mg x = some (.ref f) ∧ PySem.W.keepIn K (.ref f) = true ∧ Binds K fd ps []
theorem FFn.data {P : Program} {w : World} {K : PySem.W.Frag} {mg : Str → Option Value} {base : Heap} {k : Nat} {x : Str} {F : List PyData → List PyData → Prop} (h : FFn P w K mg base k x F) : DFn P w K mg base k x (fun ds d => ∃ ws, F ds ws ∧ d = .list ws) := by
  obtain ⟨f, fd, ps, ok, r⟩ := h
  exact ⟨f, fd, ps, ok.imp fun vs H Q E ⟨ds, d, h1, ⟨ws, h2, e⟩, q⟩ => ⟨ds, ws, h1, h2, fun p us H' hp s' hl dv => q _ H' s' (by rw [e]; exact .lst (SqL.of hl) dv)⟩, r⟩
section
variable {X : Cx} {G : Gam} {c e : Expr} {es : List Expr} {pos pos' pos2 : Pos} {ws : List PyData} {sts A B : List Stmt}
end
section
variable {P : Program} {w : World} {K : PySem.W.Frag} {mg : Str → Option Value} {base : Heap}
end
section
variable {X : Cx} {G G2 : Gam} {e : Expr} {es : List Expr} {pos pos' pos2 : Pos} {ws ds : List PyData} {sts : List Stmt} {i : Nat} {x y : Str}
end
section
variable {X : Cx} {G : Gam} {a : Expr} {pos : Pos} {da : PyData}
end
end L2
set_option maxRecDepth 100000
set_option maxHeartbeats 4000000
namespace L2
open PySem PySem.Spec PyProof.Rows
end L2
set_option maxRecDepth 100000
set_option maxHeartbeats 4000000
namespace L2
open PySem PySem.Spec PyProof.Rows
def TabV (K : PySem.W.Frag) (H : Hp) : List (Key × V) → List (Str × PyData) → Prop
  | [], [] => True
  | kv :: r, q :: t => kv.1 = .inr q.1 ∧ DV K H kv.2 q.2 ∧ TabV K H r t
  | _, _ => False
mutual
def noK : PyData → Bool
  | .none => true
  | .bool _ => true
  | .int _ => true
  | .str _ => true
  | .tuple xs => noKs xs
  | .list xs => noKs xs
  | .dict _ => false
def noKs : List PyData → Bool
  | [] => true
  | x :: r => noK x && noKs r
end
theorem dict_ne {H : Hp} {p a : Addr} {kvs : List (Key × V)} {o : HO} (hp : H p = some (.dK kvs)) (e : H a = some o) (n : ∀ k, o ≠ .dK k) : a ≠ p := fun c => by subst c; rw [hp] at e; cases e; exact n _ rfl
mutual
theorem DV.noDict {K : PySem.W.Frag} {H H' : Hp} {p : Addr} {kvs : List (Key × V)} (hp : H p = some (.dK kvs)) (hH : ∀ a, a ≠ p → H' a = H a) : ∀ {v : V} {d : PyData}, DV K H v d → noK d = true → DV K H' v d
  | _, _, .non, _ => .non
  | _, _, .bl b, _ => .bl b
  | _, _, .int i, _ => .int i
  | _, _, .str x, _ => .str x
  | _, _, .tup (a := a) h t, f => by
    refine .tup ?_ (DVs.noDict hp hH t (by unfold noK at f; exact f))
    rcases h with (h | ⟨o, h⟩) | h
    · exact .inl (.inl (by rw [hH a (dict_ne hp h fun _ c => by cases c)]; exact h))
    · exact .inl (.inr ⟨o, by rw [hH a (dict_ne hp h fun _ c => by cases c)]; exact h⟩)
    · exact .inr h
  | _, _, .lst (a := a) h t, f => by
    refine .lst ?_ (DVs.noDict hp hH t (by unfold noK at f; exact f))
    rcases h with (h | ⟨o, h⟩) | h
    · exact .inl (.inl (by rw [hH a (dict_ne hp h fun _ c => by cases c)]; exact h))
    · exact .inl (.inr ⟨o, by rw [hH a (dict_ne hp h fun _ c => by cases c)]; exact h⟩)
    · exact .inr h
  | _, _, .dct h t, f => by unfold noK at f; cases f
  | _, _, .exc h, f => by unfold noK at f; cases f
  | _, _, .exr h h', f => by unfold noK at f; cases f
theorem DVs.noDict {K : PySem.W.Frag} {H H' : Hp} {p : Addr} {kvs : List (Key × V)} (hp : H p = some (.dK kvs)) (hH : ∀ a, a ≠ p → H' a = H a) : ∀ {v : List V} {d : List PyData}, DVs K H v d → noKs d = true → DVs K H' v d
  | _, _, .nil, _ => .nil
  | _, _, .cons h t, f => by
    unfold noKs at f
    rw [Bool.and_eq_true] at f
    exact .cons (DV.noDict hp hH h f.1) (DVs.noDict hp hH t f.2)
end
theorem TabV.noDict {K : PySem.W.Frag} {H H' : Hp} {p : Addr} {kvs : List (Key × V)} (hp : H p = some (.dK kvs)) (hH : ∀ a, a ≠ p → H' a = H a) : ∀ {r : List (Key × V)} {t : List (Str × PyData)}, TabV K H r t → (t.all fun q => noK q.2) = true → TabV K H' r t
  | [], [], _, _ => True.intro
  | _ :: _, q :: t, ⟨a, b, c⟩, f => by
    rw [List.all_cons, Bool.and_eq_true] at f
    exact ⟨a, b.noDict hp hH f.1, TabV.noDict hp hH c f.2⟩
  | [], _ :: _, h, _ => h
  | _ :: _, [], h, _ => h
theorem TabV.mono {K : PySem.W.Frag} {H H' : Hp} (e : Same H H') : ∀ {r : List (Key × V)} {t : List (Str × PyData)}, TabV K H r t → TabV K H' r t
  | [], [], _ => True.intro
  | _ :: _, _ :: _, ⟨a, b, c⟩ => ⟨a, b.mono e, TabV.mono e c⟩
  | [], _ :: _, h => h
  | _ :: _, [], h => h
theorem TabV.length {K : PySem.W.Frag} {H : Hp} : ∀ {r : List (Key × V)} {t : List (Str × PyData)}, TabV K H r t → r.length = t.length
  | [], [], _ => rfl
  | _ :: _, _ :: _, ⟨_, _, c⟩ => by rw [List.length_cons, List.length_cons, TabV.length c]
  | [], _ :: _, h => h.elim
  | _ :: _, [], h => h.elim
theorem TabV.keys {K : PySem.W.Frag} {H : Hp} : ∀ {r : List (Key × V)} {t : List (Str × PyData)}, TabV K H r t → r.map (·.1) = t.map fun q => .inr q.1
  | [], [], _ => rfl
  | _ :: _, _ :: _, ⟨a, _, c⟩ => by rw [List.map_cons, List.map_cons, TabV.keys c, a]
  | [], _ :: _, h => h.elim
  | _ :: _, [], h => h.elim
section
variable {X : Cx} {G : Gam} {e f : Expr} {pos p p2 apos : Pos} {d d0 : PyData} {x : Str} {keys : List (Option Expr)} {values : List Expr} {tab : List (Str × PyData)}
end
end L2
set_option maxRecDepth 100000
set_option maxHeartbeats 4000000
namespace L2
open PySem PySem.Spec PyProof.Rows
section
variable {X : Cx} {G : Gam} {o e : Expr} {pos p p2 : Pos} {d : PyData} {x : Str}
end
end L2
set_option maxRecDepth 100000
set_option maxHeartbeats 1000000
namespace L2
open PySem PySem.Spec PyProof.Rows
section
variable {X : Cx} {G : Gam} {H0 : Hp} {p : Addr} {i j : Nat} {Pre Mid Post : Gam → List PyData → Prop} {a b e c : Expr} {es : List Expr} {pos pos' pos2 : Pos} {x : Str} {ws xs ys : List PyData} {d : PyData}
end
end L2
set_option maxRecDepth 100000
set_option maxHeartbeats 1000000
namespace L2
open PySem PySem.Spec PyProof.Rows
def hasK (es : List (PyData × PyData)) (k : Key) : Bool := es.any fun q => PyData.eqv q.1 (keyD k)
theorem keyD_eqv (a b : Key) : PyData.eqv (keyD a) (keyD b) = decide (a = b) := by
  cases a <;> cases b <;> simp [keyD, PyData.eqv] <;> (rw [Bool.eq_iff_iff]; simp)
theorem DVk.has {K : PySem.W.Frag} {H : Hp} {k : Key} : ∀ {kvs : List (Key × V)} {es : List (PyData × PyData)}, DVk K H kvs es → (valV kvs k).isSome = hasK es k
  | _, _, .nil => rfl
  | _, _, .cons (k := a) (x := x) (xs := xs) (ds := ds) h t => by
    have ih := DVk.has (k := k) t
    rw [← valV_any] at ih ⊢
    unfold hasK at ih ⊢
    rw [List.any_cons, List.any_cons, ih, keyD_eqv]
theorem DVk.length {K : PySem.W.Frag} {H : Hp} : ∀ {kvs : List (Key × V)} {es : List (PyData × PyData)}, DVk K H kvs es → kvs.length = es.length
  | _, _, .nil => rfl
  | _, _, .cons _ t => by rw [List.length_cons, List.length_cons, DVk.length t]
section
variable {X : Cx} {G : Gam} {H0 : Hp} {p : Addr} {i j : Nat} {a b e c : Expr} {pos pos' pos2 : Pos} {x : Str} {d : PyData} {es : List (PyData × PyData)}
end
mutual
theorem DVk.noDict {K : PySem.W.Frag} {H H' : Hp} {p : Addr} {kvs : List (Key × V)} (hp : H p = some (.dK kvs)) (hH : ∀ a, a ≠ p → H' a = H a) : ∀ {v : List (Key × V)} {d : List (PyData × PyData)}, DVk K H v d → (d.all fun q => noK q.2) = true → DVk K H' v d
  | _, _, .nil, _ => .nil
  | _, _, .cons h t, f => by
    rw [List.all_cons, Bool.and_eq_true] at f
    exact .cons (DV.noDict hp hH h f.1) (DVk.noDict hp hH t f.2)
end
abbrev plusD (G : Gam) (i : Nat) (es : List (PyData × PyData)) : Gam := G.set i (some (.dict es))
def ODt (K : PySem.W.Frag) (H0 : Hp) (p : Addr) (i : Nat) (G : Gam) (es : List (PyData × PyData)) (σ : St) (H : Hp) : Prop :=
  ∃ Hb kvs, H = upd Hb p (.dK kvs) ∧ Hb p = none ∧ Same H0 Hb ∧ SD K Hb σ G ∧ σ[i]? = some (some (.ref p)) ∧ DVk K Hb kvs es
theorem ODt.sd {K : PySem.W.Frag} {H0 : Hp} {p : Addr} {i : Nat} {G : Gam} {es : List (PyData × PyData)} {σ : St} {H : Hp} (h : ODt K H0 p i G es σ H) : SD K H σ (plusD G i es) := by
  obtain ⟨Hb, kvs, rfl, hn, s0, hσ, hi, dv⟩ := h
  have h1 := hσ.mono (Same.new (o := .dK kvs) hn)
  have h2 := h1.set (i := i) (v := .ref p) (d := .dict es) (.dct upd_same (dv.mono (Same.new hn)))
  have e : σ.set i (some (V.ref p)) = σ := by
    refine List.ext_getElem? fun j => ?_
    by_cases hj : i = j
    · subst hj
      rw [List.getElem?_set_self (List.getElem?_eq_some_iff.mp hi).1, hi]
    · rw [List.getElem?_set_ne hj]
  rw [e] at h2
  exact h2
theorem upd_deleO {H : Hp} {p : Addr} {o : HO} (h : H p = some o) : upd (dele H p) p o = H := by
  funext b
  by_cases hb : b = p
  · subst hb; rw [upd_same, h]
  · rw [upd_ne hb, dele_ne hb]
theorem ODt.step {K : PySem.W.Frag} {H0 : Hp} {p : Addr} {i : Nat} {G : Gam} {es : List (PyData × PyData)} {σ : St} {H H' : Hp} (h : ODt K H0 p i G es σ H) (s : Same H H') :
    ODt K H0 p i G es σ H' ∧ ∀ v d, DV K H' v d → noK d = true → ∃ Hb kvs, H' = upd Hb p (.dK kvs) ∧ Hb p = none ∧ Same H0 Hb ∧ SD K Hb σ G ∧ σ[i]? = some (some (.ref p)) ∧ DVk K Hb kvs es ∧ DV K Hb v d := by
  obtain ⟨Hb, kvs, rfl, hn, s0, hσ, hi, dv⟩ := h
  have hp : H' p = some (.dK kvs) := s p _ upd_same
  have sb : Same Hb (dele H' p) := fun b o e => by
    have hb : b ≠ p := ne_of_none e hn
    rw [dele_ne hb]
    exact s b o (by rw [upd_ne hb]; exact e)
  refine ⟨⟨dele H' p, kvs, (upd_deleO hp).symm, dele_same, s0.trans sb, hσ.mono sb, hi, dv.mono sb⟩, fun v d q f => ⟨dele H' p, kvs, (upd_deleO hp).symm, dele_same, s0.trans sb, hσ.mono sb, hi, dv.mono sb, DV.noDict hp (fun a ha => dele_ne ha) q f⟩⟩
section
variable {X : Cx} {H0 : Hp} {p : Addr} {i j : Nat} {Pre Mid Post PreA PreB : Gam → List (PyData × PyData) → Prop} {e c : Expr} {pos pos' pos2 : Pos} {x : Str}
variable {G : Gam} {d : PyData}
end
end L2
set_option maxRecDepth 100000
set_option maxHeartbeats 1000000
namespace L2
open PySem PySem.Spec PyProof.Rows
section
variable {X : Cx} {G : Gam} {H0 : Hp} {p : Addr} {i j : Nat} {Pre Mid Post : Gam → List PyData → Prop} {a b e c tg : Expr} {es : List Expr} {pos pos' pos2 : Pos} {x : Str} {ws xs ys : List PyData} {d : PyData} {R : PyData → Prop}
def bindN : List Nat → List PyData → Gam → Gam
  | i :: is, d :: ds, G => bindN is ds (G.set i (some d))
  | _, _, G => G
def bindT (is : List Nat) (d : PyData) (G : Gam) : Gam := match d with
  | .tuple ds => bindN is ds G
  | _ => G
def gNames : List Nat → TGs
  | [] => gNil
  | i :: is => gCons (gName i) (gNames is)
theorem bindN_to {K : PySem.W.Frag} {H : Hp} : ∀ (is : List Nat) (ds : List PyData) (vs : List V) (σ : St) (G : Gam) (Q : St → Hp → Prop), is.length = ds.length → SD K H σ G → DVs K H vs ds → (∀ σ2, SD K H σ2 (bindN is ds G) → Q σ2 H) → gNames is vs σ H Q
  | [], [], _, σ, G, Q, _, h, .nil, q => ⟨rfl, q σ h⟩
  | i :: is, d :: ds, _, σ, G, Q, hl, h, .cons (x := v) (xs := vs) dv t, q => ⟨v, vs, rfl, bindN_to is ds vs _ _ Q (Nat.succ.inj hl) (h.set dv) t q⟩
theorem bindDT {K : PySem.W.Frag} {k : Nat} (is : List Nat) (ds : List PyData) (hl : is.length = ds.length) : BindD K k (gTup K is.length (gNames is)) (bindT is) (.tuple ds) := ⟨fun v σ H G Q h dv q => by
  obtain ⟨l, us, rfl, hs, d1⟩ := dv.of_tup
  exact ⟨l, us, rfl, hs, by rw [d1.length, hl], bindN_to is ds us σ G Q hl h d1 q⟩⟩
theorem cd_min {i j : Int} (hc : X.calm = true) : CD X (.builtin "min") [.int i, .int j] (.int (if j < i then j else i)) := (call_min2 hc).imp fun xs H Q ⟨h, q⟩ => by
  obtain ⟨v, w, rfl, dv, dw⟩ := h.two
  exact ⟨i, j, by rw [dv.of_int, dw.of_int], q _ H (Same.refl H) (.int _)⟩
end
end L2
set_option maxRecDepth 100000
set_option maxHeartbeats 1000000
namespace L2
open PySem PySem.Spec PyProof.Rows
def TrAll {α : Type} (N : Nat) (R : α → Prop) : PySem.W.KasT α → Prop
  | .ret a => R a
  | .ask i j k => i < N ∧ j < N ∧ ∀ b, TrAll N R (k b)
theorem TrAll.imp {α : Type} {N : Nat} {R T : α → Prop} (m : ∀ a, R a → T a) : ∀ {t : PySem.W.KasT α}, TrAll N R t → TrAll N T t
  | .ret a, h => m a h
  | .ask i j k, ⟨a, b, h⟩ => ⟨a, b, fun c => TrAll.imp m (h c)⟩
theorem TrAll.bind {α β : Type} {N : Nat} {R : α → Prop} {T : β → Prop} {f : α → PySem.W.KasT β} (hf : ∀ a, R a → TrAll N T (f a)) : ∀ {t : PySem.W.KasT α}, TrAll N R t → TrAll N T (t.bind f)
  | .ret a, h => hf a h
  | .ask i j k, ⟨a, b, h⟩ => ⟨a, b, fun c => TrAll.bind hf (h c)⟩
def PmN (N : Nat) (p : Array Nat) : Prop := p.Perm (List.toArray (List.range N))
theorem PmN.lt {N : Nat} {p : Array Nat} (h : PmN N p) (hN : 0 < N) (i : Nat) : p.getD i 0 < N := by
  by_cases hi : i < p.size
  · have e : p.getD i 0 = p[i] := by simp [Array.getD, hi]
    rw [e]
    have : p[i] ∈ List.range N := by
      have := (Array.perm_iff_toList_perm.mp h).mem_iff (a := p[i])
      simpa using this.mp (by simp)
    exact List.mem_range.mp this
  · have e : p.getD i 0 = 0 := by simp [Array.getD, hi]
    rw [e]
    exact hN
section
variable {N : Nat} (hN : 0 < N)
include hN
end
section
variable {prog : Program} {w : World} {A : Around} {E : Value → Shared → Prop} {s : Shared}
end
end L2
set_option maxRecDepth 100000
set_option maxHeartbeats 1000000
namespace L2
open PySem PySem.Spec PyProof.Rows
theorem DVk.ints {K : PySem.W.Frag} {H : Hp} : ∀ {kvs : List (Key × V)} {es : List (PyData × PyData)}, DVk K H kvs es → (∀ q ∈ es, ∃ i j : Int, q = (.int i, .int j)) → ∀ {j : Nat} {q : Key × V}, kvs[j]? = some q → ∃ i v : Int, q = (.inl i, .int v) ∧ ((PyData.int i, PyData.int v) ∈ es)
  | _, _, .nil, _, _, _, h => by simp at h
  | _, _, .cons (k := k) (x := x) (d := d) (ds := ds) dv t, he, 0, q, h => by
    simp at h
    subst h
    obtain ⟨i, v, e⟩ := he _ (List.mem_cons_self ..)
    have e1 := (Prod.mk.inj e).1
    have e2 := (Prod.mk.inj e).2
    cases k with
    | inr s => cases e1
    | inl z =>
      cases e1
      subst e2
      exact ⟨i, v, by rw [dv.of_int], List.mem_cons_self ..⟩
  | _, _, .cons dv t, he, j + 1, q, h => by
    obtain ⟨i, v, h1, h2⟩ := DVk.ints t (fun q hq => he q (List.mem_cons_of_mem _ hq)) (j := j) (q := q) (by simpa using h)
    exact ⟨i, v, h1, List.mem_cons_of_mem _ h2⟩
section
variable {X : Cx} {G : Gam} {o : Expr} {pos p apos cpos : Pos} {es : List (PyData × PyData)}
end
end L2
set_option maxRecDepth 100000
set_option maxHeartbeats 1000000
namespace L2
open PySem PySem.Spec PyProof.Rows
section
variable {X : Cx} {H0 : Hp} {p : Addr} {i j : Nat} {Pre Mid Post PreA PreB : Gam → List (PyData × PyData) → Prop} {e c : Expr} {es : List Expr} {pos pos' pos2 p1 : Pos} {x : Str} {G : Gam} {d : PyData} {R : PyData → Prop} {Rs : List PyData → Prop} {ds : List PyData}
def tDAR (K : PySem.W.Frag) (G : Gam) (Rs : List PyData → Prop) : TA := fun σ H Q => SD K H σ G ∧ ∀ ds vs H', Rs ds → Same H H' → DVs K H' vs ds → Q vs H'
abbrev AVR (X : Cx) (G : Gam) (es : List Expr) (Rs : List PyData → Prop) : Prop := PA X es (tDAR X.K G Rs)
theorem avr_of (h : AV X G es ds) : AVR X G es (fun z => z = ds) := h.imp fun σ H Q ⟨h, q⟩ => ⟨h, fun vs H' s' dv => q ds vs H' rfl s' dv⟩
theorem avr_cons (h : EVR X G e R) (hr : AVR X G es Rs) (hs : starEach (e :: es) X.env = (false, eval e X.env) :: starEach es X.env := by rfl) : AVR X G (e :: es) (fun z => ∃ d r, z = d :: r ∧ R d ∧ Rs r) :=
  (pa_cons h hr hs).imp fun σ H Q ⟨h, q⟩ => ⟨h, fun d v H1 r s1 d1 => ⟨h.mono s1, fun ds vs H2 r2 s2 d2 => q (d :: ds) (v :: vs) H2 ⟨d, ds, rfl, r, r2⟩ (s1.trans s2) (.cons (d1.mono s2) d2)⟩⟩
theorem evr_callR {k : Nat} {F : List PyData → PyData → Prop} {pre : List PyData → Prop} (D : RFn X.prog X.w X.K X.mg X.base k x F pre) (hr : Room k X.A) (hg : Gl X x) (ha : AVR X G (e :: es) Rs) (hF : ∀ ds, Rs ds → pre ds) (hdb : (x == ("__debug__" : Str)) = false := by decide)
    (he : starEach (e :: es) X.env = (false, eval e X.env) :: starEach es X.env := by rfl) (hpl : (backTo pos (starEach es X.env)).any (·.1) = false := by rfl) : EVR X G (.Call (.Name x pos2) (e :: es) [] pos) (fun d => ∃ ds, Rs ds ∧ F ds d) := by
  obtain ⟨f, fd, ps, ok, hm, hk, hb⟩ := D
  refine (pe_call ok hr hg hm hk hb .nil pass0 ha hdb he hpl).imp fun σ H Q ⟨h, q⟩ => ⟨h, fun ds vs H1 rs s1 d1 => ?_⟩
  show spR X.K F pre (vs ++ []) H1 Q E0
  rw [List.append_nil]
  exact ⟨ds, d1, hF ds rs, fun d v H2 r s2 d2 => q d v H2 ⟨ds, rs, r⟩ (s1.trans s2) d2⟩
end
end L2
set_option maxRecDepth 100000
set_option maxHeartbeats 1000000
namespace L2
open PySem PySem.Spec PyProof.Rows
section
variable {X : Cx} {G : Gam} {a b e : Expr} {pos p p2 : Pos} {d : PyData} {x : Str}
end
end L2
set_option maxRecDepth 100000
set_option maxHeartbeats 1000000
namespace L2
open PySem PySem.Spec PyProof.Rows
end L2
set_option maxRecDepth 100000
set_option maxHeartbeats 1000000
namespace L2
open PySem PySem.Spec PyProof.Rows
section
variable {X : Cx} {G : Gam} {a : Expr} {pos p : Pos}
end
theorem ins_ne {H : Hp} {p a : Addr} {C dx : Addr} {fs : List (Str × V)} {o : HO} (hp : H p = some (.ins C dx fs)) (e : H a = some o) (n : ∀ C dx fs, o ≠ .ins C dx fs) : a ≠ p := fun c => by subst c; rw [hp] at e; cases e; exact n _ _ _ rfl
mutual
theorem DV.upIns {K : PySem.W.Frag} {H H' : Hp} {p : Addr} {C dx : Addr} {fs : List (Str × V)} (hp : H p = some (.ins C dx fs)) (hH : ∀ a, a ≠ p → H' a = H a) : ∀ {v : V} {d : PyData}, DV K H v d → DV K H' v d
  | _, _, .non => .non
  | _, _, .bl b => .bl b
  | _, _, .int i => .int i
  | _, _, .str x => .str x
  | _, _, .tup (a := a) h t => by
    refine .tup ?_ (DVs.upIns hp hH t)
    rcases h with (h | ⟨o, h⟩) | h
    · exact .inl (.inl (by rw [hH a (ins_ne hp h fun _ _ _ c => by cases c)]; exact h))
    · exact .inl (.inr ⟨o, by rw [hH a (ins_ne hp h fun _ _ _ c => by cases c)]; exact h⟩)
    · exact .inr h
  | _, _, .lst (a := a) h t => by
    refine .lst ?_ (DVs.upIns hp hH t)
    rcases h with (h | ⟨o, h⟩) | h
    · exact .inl (.inl (by rw [hH a (ins_ne hp h fun _ _ _ c => by cases c)]; exact h))
    · exact .inl (.inr ⟨o, by rw [hH a (ins_ne hp h fun _ _ _ c => by cases c)]; exact h⟩)
    · exact .inr h
  | _, _, .dct (a := a) h t => .dct (by rw [hH a (ins_ne hp h fun _ _ _ c => by cases c)]; exact h) (DVk.upIns hp hH t)
  | _, _, .exc (a := a) h => .exc (by rw [hH a (ins_ne hp h fun _ _ _ c => by cases c)]; exact h)
  | _, _, .exr (a := a) (dx := dx) h h' => .exr (by rw [hH a (ins_ne hp h fun _ _ _ c => by cases c)]; exact h) (by rw [hH dx (ins_ne hp h' fun _ _ _ c => by cases c)]; exact h')
theorem DVs.upIns {K : PySem.W.Frag} {H H' : Hp} {p : Addr} {C dx : Addr} {fs : List (Str × V)} (hp : H p = some (.ins C dx fs)) (hH : ∀ a, a ≠ p → H' a = H a) : ∀ {v : List V} {d : List PyData}, DVs K H v d → DVs K H' v d
  | _, _, .nil => .nil
  | _, _, .cons h t => .cons (DV.upIns hp hH h) (DVs.upIns hp hH t)
theorem DVk.upIns {K : PySem.W.Frag} {H H' : Hp} {p : Addr} {C dx : Addr} {fs : List (Str × V)} (hp : H p = some (.ins C dx fs)) (hH : ∀ a, a ≠ p → H' a = H a) : ∀ {v : List (Key × V)} {d : List (PyData × PyData)}, DVk K H v d → DVk K H' v d
  | _, _, .nil => .nil
  | _, _, .cons h t => .cons (DV.upIns hp hH h) (DVk.upIns hp hH t)
end
theorem SD.upIns {K : PySem.W.Frag} {H H' : Hp} {p : Addr} {C dx : Addr} {fs : List (Str × V)} {σ : St} {G : Gam} (h : SD K H σ G) (hp : H p = some (.ins C dx fs)) (hH : ∀ a, a ≠ p → H' a = H a) : SD K H' σ G := ⟨h.1, fun i d z => let ⟨v, a, b⟩ := h.2 i d z; ⟨v, a, b.upIns hp hH⟩⟩
end L2
set_option maxRecDepth 100000
set_option maxHeartbeats 1000000
namespace L2
open PySem PySem.Spec PyProof.Rows
section
variable {P : Program} {w : World} {K : PySem.W.Frag} {mg : Str → Option Value} {base : Heap}
end
section
variable {X : Cx} {G : Gam} {e : Expr} {pos pos' pos2 : Pos} {x f : Str} {d : PyData}
theorem sv_expr (h : EV X G e d) (hs : swapsWith e none pos.line X.env = pure false := by rfl) : SV X G (.Expr e pos) (.next G) :=
  (ps_expr h hs).imp fun D σ H ⟨h, q⟩ => ⟨h, fun v H' s' _ => q σ H' s' (h.mono s')⟩
def Flds (K : PySem.W.Frag) (H : Hp) (fs : List (Str × V)) (fd : List (Str × PyData)) : Prop := ∀ q ∈ fd, ∃ v, fs.lookup q.1 = some v ∧ DV K H v q.2
structure OI (K : PySem.W.Frag) (a C dx : Addr) (H0 : Hp) (n : Nat) (fd : List (Str × PyData)) (σ : St) (G : Gam) (fs : List (Str × V)) (H : Hp) : Prop where
  slot : σ[0]? = some (some (.ref a))
  obj : H a = some (.ins C dx fs)
  sd : SD K H σ G
  keep : ∀ b, b ≠ a → ∀ o, H0 b = some o → H b = some o
  flds : Flds K H fs fd
  few : fs.length ≤ n
theorem OI.step {K : PySem.W.Frag} {a C dx : Addr} {H0 : Hp} {n : Nat} {fd : List (Str × PyData)} {σ : St} {fs : List (Str × V)} {H H' : Hp} (o : OI K a C dx H0 n fd σ G fs H) (s : Same H H') : OI K a C dx H0 n fd σ G fs H' :=
  ⟨o.slot, s _ _ o.obj, o.sd.mono s, fun b hb u e => s _ _ (o.keep b hb u e), fun q hq => let ⟨v, h1, h2⟩ := o.flds q hq; ⟨v, h1, h2.mono s⟩, o.few⟩
end
end L2
set_option maxRecDepth 100000
set_option maxHeartbeats 1000000
namespace L2
open PySem PySem.Spec PyProof.Rows
theorem mulW (l : Addr) (items : Array Value) (n : Nat) (dd : Option Addr) (sl : Array (Option Value)) (x : Int) (u : Tok) (hc0 : ¬(!Builtin.List.listFitsIndex x) = true) (hc1 : ¬items.size * x.toNat > (2 ^ 63 - 1) / 8) (hc2 : ¬Builtin.List.listTooLong (items.size * x.toNat) = true) :
    Meets (Builtin.«list.__mul__» ⟨[.ref l, .int x u], []⟩) (fun _ R s => s.heap.get? l = some { cls := .type "list", dict := dd, data := .seq items n, slots := sl } ∧ R (.ok (.ret (Value.ref s.heap.objs.size))) { s with heap := s.heap.push { cls := Value.type "list", data := Data.seq (List.foldl (fun x1 x2 => x1 ++ x2) #[] (List.replicate (if items.isEmpty = true then 0 else x.toNat) items)) }, toks := s.toks }) :=
  .of_wp fun prog w A R s h => by
    obtain ⟨hp, g, d, tk, os⟩ := s; obtain ⟨hl, h⟩ := h
    have hsz := PySem.AutoListH.joined_fits hc2
    wp_walk using wpAny_loadPart' hl; refine wpAny_ite_false (decide_eq_false (Nat.not_lt.mpr hsz)) ?_; wp_walk; exact ⟨_, rfl, h⟩
theorem rmulW (a : Int) (t : Tok) (l : Addr) (items : Array Value) (n : Nat) (dd : Option Addr) (sl : Array (Option Value)) :
    Meets (Builtin.«int.__rmul__» ⟨[.int a t, .ref l], []⟩) (fun _ R s => s.heap.get? l = some { cls := .type "list", dict := dd, data := .seq items n, slots := sl } ∧ R (.ok (.ret Value.notImplemented)) s) :=
  .of_wp fun prog w A R s h => by obtain ⟨hp, g, d, tk, os⟩ := s; obtain ⟨hl, h⟩ := h; wp_walk using wpAny_loadPart' hl; exact ⟨_, rfl, h⟩
theorem DVs.rep {K : PySem.W.Frag} {H : Hp} {vs : List V} {ds : List PyData} (h : DVs K H vs ds) : ∀ k : Nat, DVs K H (List.replicate k vs).flatten (List.replicate k ds).flatten
  | 0 => .nil
  | k + 1 => by
    rw [List.replicate_succ, List.replicate_succ, List.flatten_cons, List.flatten_cons]
    exact h.append (DVs.rep h k)
section
variable {X : Cx}
theorem od_repL {xs : List PyData} {k : Int} (h1 : -(2 ^ 63) ≤ k) (h2 : k < 2 ^ 63) (hz : xs.length * k.toNat ≤ sizeLine) : OD X (binaryOp .Mult) (.list xs) (.int k) (.list (List.replicate k.toNat xs).flatten) := by
  intro pins s σ H x y v u Q I rx ry ⟨d1, d2, q⟩
  obtain ⟨l, us, rfl, hl, du⟩ := d1.of_lst
  cases d2.of_int
  cases rx
  obtain ⟨t, rfl⟩ := ry
  obtain ⟨its, r, pl, _⟩ := I.list hl
  obtain ⟨⟨cls, dd, data, sl⟩, e, hc, n, hd⟩ := pl.isList
  simp only at hc hd
  subst hc hd
  have hus : us.length = xs.length := du.length
  have hil : its.length = xs.length := by rw [← hus]; exact r.length.symm
  have hlen : its.toArray.size * k.toNat ≤ sizeLine := by rw [List.size_toArray, hil]; exact hz
  have hcap : ¬ its.toArray.size * k.toNat > (2 ^ 63 - 1) / 8 := by
    have : (sizeLine : Nat) ≤ (2 ^ 63 - 1) / 8 := by decide
    omega
  have hfit : ¬ (!Builtin.List.listFitsIndex k) = true := by
    rw [fitsIndex_both h1 h2]
    exact Bool.false_ne_true
  have hlong : ¬ Builtin.List.listTooLong (its.toArray.size * k.toNat) = true := by
    rw [notLongL hlen]
    exact Bool.false_ne_true
  have hnew : List.foldl (fun x1 x2 => x1 ++ x2) #[] (List.replicate (if its.toArray.isEmpty = true then 0 else k.toNat) its.toArray) = (List.replicate k.toNat its).flatten.toArray := by
    have f0 : ∀ m : Nat, List.foldl (fun x1 x2 => x1 ++ x2) #[] (List.replicate m its.toArray) = (List.replicate m its).flatten.toArray := fun m => by
      have := foldl_rep its m []
      rw [List.nil_append] at this
      exact this
    rw [f0]
    cases its with
    | nil => simp
    | cons a r' => rw [if_neg (by simp)]
  refine wpAny_binaryOp_repeat_ref (T := "list") (U := "int") (by decide) ⟨_, e, rfl⟩ (fun s' => typeIs_int s' k t) noFill_list_mul F.fills_int_mul F.slot_int_rmul repeat_list F.slot_int_index.lookup
    (call_meets F.slot_int_rmul (typeIs_int s k t) F.entry_int_rmul (F.args_int_rmul_2 _ _) (rmulW k t l its.toArray n dd sl)
      ⟨e, rfl, ⟨_, e, rfl⟩, call_meets F.slot_list_mul ⟨_, e, rfl⟩ F.entry_list_mul (F.args_list_mul_2 _ _) (mulW l its.toArray n dd sl k t hfit hcap hlong) ⟨e, ?_⟩⟩)
  rw [hnew]
  have hf := I.hok.fresh (Nat.le_refl _)
  exact ⟨.ref _, _, I.lnew (t' := s.toks) (r.rep k.toNat) (by rw [len_rep, Nat.mul_comm, hus]; exact hz), rfl, q _ _ (Same.new hf) (.lst (SqL.of upd_same) ((du.rep k.toNat).mono (Same.new hf)))⟩
end
end L2
namespace L2
open PySem PySem.Spec PyProof.Rows
theorem star_tuple {a j pos} {es : List Expr} {env : Env} : starEach (.Tuple a j pos :: es) env = (false, eval (.Tuple a j pos) env) :: starEach es env := rfl
theorem star_name {a pos} {es : List Expr} {env : Env} : starEach (.Name a pos :: es) env = (false, eval (.Name a pos) env) :: starEach es env := rfl
section
variable {X : Cx} {G : Gam} {i : Nat} {x : Str} {es : List Expr} {pos pos' pos2 : Pos} {sts : List Stmt} {o : Out} {ds : List PyData}
end
end L2
set_option maxRecDepth 100000
set_option maxHeartbeats 1000000
namespace L2
open PySem PySem.Spec PyProof.Rows
theorem ObjOk.ex {P : Program} {w : World} {H : Hp} {h : Heap} {a : Addr} {o : HO} (x : ObjOk P w H h a o) : ∃ u, h.get? a = some u := by
  cases o with
  | lst xs => obtain ⟨_, _, _, _, e⟩ := x; exact ⟨_, e⟩
  | tup xs => obtain ⟨_, _, _, o, e, _⟩ := x; exact ⟨_, e⟩
  | dK kvs => obtain ⟨_, _, _, _, o, _, _, e, _⟩ := x; exact ⟨_, e⟩
  | dT kvs => obtain ⟨_, _, _, _, o, _, _, e, _⟩ := x; exact ⟨_, e⟩
  | set S n => obtain ⟨o, _, _, _, e, _⟩ := x; exact ⟨_, e⟩
  | ins C dx fs => obtain ⟨_, _, _, e, _⟩ := x; exact ⟨_, e⟩
  | own y => exact x
  | xd fs => obtain ⟨_, ⟨_, _, _, e, _⟩, _⟩ := x; exact ⟨_, e⟩
  | rng lo hi => obtain ⟨_, _, _, e⟩ := x; exact ⟨_, e⟩
  | frz ob u => obtain ⟨e, _⟩ := x; exact ⟨_, e⟩
  | tbl ps => exact ⟨_, show h.get? a = some _ from x⟩
  | met f y => exact ⟨_, show h.get? a = some _ from x⟩
  | ext φ => obtain ⟨_, e, _⟩ := x; exact e
structure Lies (P : Program) (w : World) (l : List Env) (H H' : Hp) (h h' B : Heap) : Prop where
  un : Un (frs l) [] H H' h h'
  hok : HOk P w H' h'
  trk : ∀ b o, h'.get? b = some o → H' b ≠ none → B.get? b = some o
  old : ∀ b o, h.get? b = some o → H b = none → b ∉ frs l → B.get? b = some o
  has : ∀ b o, h.get? b = some o → b ∉ frs l → ∃ o', B.get? b = some o'
theorem Lies.step {P : Program} {w : World} {l : List Env} {H H' : Hp} {h h' h2 B : Heap} (L : Lies P w l H H' h h' B) (st : B.StaysIn h2) (up : h'.UpToSlots h2) (fr : ∀ b ∈ frs l, (∃ o, h.get? b = some o ∧ ∀ vs, o.data ≠ .fields vs) ∧ H b = none) : Lies P w l H H' h h2 B where
  un := by
    have sl : ∀ b o, h.get? b = some o → b ∈ frs l → ∃ sl, h2.get? b = some { o with slots := sl } := fun b o e hb => by
      obtain ⟨⟨o', e', nf⟩, n⟩ := fr b hb
      rw [e] at e'; cases e'
      obtain ⟨sl, e1⟩ := L.un.slot b o e n hb (by simp)
      obtain ⟨sl', e2⟩ := up b _ e1 nf
      exact ⟨sl', e2⟩
    refine ⟨fun b o e n hb _ => st b o (L.old b o e n hb), fun b o e _ hb _ => sl b o e hb, L.un.free, fun b o e _ => ?_, L.un.tups, L.un.frzs, L.un.tbls⟩
    by_cases hb : b ∈ frs l
    · obtain ⟨s, e1⟩ := sl b o e hb
      exact ⟨_, e1⟩
    · obtain ⟨o', e1⟩ := L.has b o e hb
      exact ⟨o', st b o' e1⟩
  hok := fun a o e => (L.hok a o e).stay (fun b u hb q => st b u (L.trk b u q (by
      rcases hb with rfl | hb
      · rw [e]; simp
      · rw [hb]; simp))) (fun _ q => q) fun _ _ q => q
  trk := fun b o e n => by
    cases q : H' b with
    | none => exact absurd q n
    | some u =>
      obtain ⟨o1, e1⟩ := (L.hok b u q).ex
      have e2 := L.trk b o1 e1 n
      have e3 := st b o1 e2
      rw [e] at e3; cases e3
      exact e2
  old := L.old
  has := L.has
section
variable {X : Cx} {pins : List (Addr × Obj)} {σ : St} {H H' : Hp} {s s' : Shared} {h' B : Heap}
theorem Inv.frs_ok (I : Inv X pins σ H s) : ∀ b ∈ frs X.stack, (∃ o, s.heap.get? b = some o ∧ ∀ vs, o.data ≠ .fields vs) ∧ H b = none := fun b hb => ⟨(I.stack.mem hb).2, I.stkFree b hb⟩
theorem Inv.notStack (I : Inv X pins σ H s) {b : Addr} {o : Obj} (e : X.s₀.heap.get? b = some o) (hb : b ∉ X.fs) : b ∉ frs X.stack := fun z => by
  rcases List.mem_cons.mp (I.stkSub b z) with q | q
  · exact absurd (Nat.lt_of_lt_of_le (Heap.lt_size e) I.ok.above) (by rw [q]; exact Nat.lt_irrefl _)
  · exact hb q
theorem Lies.back (I : Inv X pins σ H s) (hex : X.ex = []) (L : Lies X.prog X.w X.stack H H' s.heap h' B) : Lies X.prog X.w X.outer X.H₀ H' X.s₀.heap h' B where
  un := by
    have nx : ∀ b, b ∉ X.ex := fun b => by rw [hex]; simp
    refine ⟨fun b o e n hb _ => ?_, fun b o e n hb _ => ?_, fun b o e n _ => ?_, fun b o e _ => ?_, fun b xs e => L.un.tups b xs (I.base.tups b xs e), fun b o u e => L.un.frzs b o u (I.base.frzs b o u e), fun b ps e => ?_⟩
    · exact L.un.keep b o (I.base.keep b o e n hb (nx b)) (I.base.free b o e n (nx b)) (I.notStack e hb) (by simp)
    · obtain ⟨sl, e1⟩ := I.base.slot b o e n hb (nx b)
      obtain ⟨sl', e2⟩ := L.un.any e1 (I.base.free b o e n (nx b)) (by simp)
      exact ⟨sl', e2⟩
    · obtain ⟨o', e1⟩ := I.base.there b o e (nx b)
      exact L.un.free b o' e1 (I.base.free b o e n (nx b)) (by simp)
    · obtain ⟨o', e1⟩ := I.base.there b o e (nx b)
      exact L.un.there b o' e1 (by simp)
    · obtain ⟨m1, e1⟩ := I.base.tbls b ps e
      obtain ⟨m2, e2⟩ := L.un.tbls b _ e1
      exact ⟨m1 ++ m2, by rw [e2, Array.append_assoc]⟩
  hok := L.hok
  trk := L.trk
  old := fun b o e n hb => L.old b o (I.base.keep b o e n hb (by rw [hex]; simp)) (I.base.free b o e n (by rw [hex]; simp)) (I.notStack e hb)
  has := fun b o e hb => by
    obtain ⟨o', e1⟩ := I.base.there b o e (by rw [hex]; simp)
    exact L.has b o' e1 (I.notStack e hb)
end
def CXr (P : Program) (w : World) : CXT := fun l H s E e s' => ∃ (a t : Addr) (cls : Value) (H' : Hp) (B : Heap), e = .ref a ∧ s'.os = s.os ∧ AllBare s'.gens ∧ Lies P w l H H' s.heap s'.heap B ∧ Heap.FlyingW B l a cls (.ref t) s'.heap ∧ E cls none H'
section
variable {P : Program} {w : World} {K : PySem.W.Frag} {mg : Str → Option Value} {base : Heap} {N : List Str} {qual : Str} {scope : Scope} {f : Addr} {cd : Value} {A : Around} {outer : List Env} {s0 : Shared} {H0 : Hp} {E : XK}
theorem passes_r : Passes (CXr P w) (cxOf (CXr P w) P w K mg base N qual scope f cd A outer s0 H0 E) E := by
  intro pins σ H s e s' I z
  obtain ⟨a, t, cls, H', B, ee, os, bare, L, F, q⟩ := z
  subst ee
  show wpAny _ _ (leaving _ _) _ _ _
  refine wpAny_leaves_onW I.ok.frames rfl F fun h' F' up => ⟨a, t, cls, H', B, rfl, os.trans I.os, bare, ?_, F', q⟩
  exact Lies.back I rfl (L.step F'.1 up I.frs_ok)
def Raises (X : Cx) (E : XK) : Prop := ∀ (pins : List (Addr × Obj)) (σ : St) (H : Hp) (s : Shared) (a : Addr) (cls : Value) (args : List Value) (h' : Heap), Inv X pins σ H s → Heap.MadeExcOf s.heap h' a cls args → E cls none H → X.xe (.ref a) { s with heap := h' }
theorem raises_r : Raises (cxOf (CXr P w) P w K mg base N qual scope f cd A outer s0 H0 E) E := by
  intro pins σ H s a cls args h' I hx q
  show wpAny _ _ (leaving _ _) _ _ _
  have hin : ∀ env ∈ (cxOf (CXr P w) P w K mg base N qual scope f cd A outer s0 H0 E).stack, ∀ b, env.frame = some b → b ∈ frs (cxOf (CXr P w) P w K mg base N qual scope f cd A outer s0 H0 E).stack := fun env he b hb => List.mem_filterMap.mpr ⟨env, he, hb⟩
  refine wpAny_leaves_madeW (base := PySem.W.hideAll s.heap (frs (cxOf (CXr P w) P w K mg base N qual scope f cd A outer s0 H0 E).stack)) I.ok.frames rfl (fun b o e => PySem.W.of_hideAll _ e) (PySem.W.funFrames_hide I.stack hin) hx fun h2 t F' _ _ up => ⟨a, t, cls, H, _, rfl, I.os, I.bare, ?_, F', q⟩
  have kB : ∀ b o, s.heap.get? b = some o → b ∉ frs (cxOf (CXr P w) P w K mg base N qual scope f cd A outer s0 H0 E).stack → (PySem.W.hideAll s.heap (frs (cxOf (CXr P w) P w K mg base N qual scope f cd A outer s0 H0 E).stack)).get? b = some o := fun b o e hb => PySem.W.hideAll_get _ e hb
  have nS : ∀ b, H b ≠ none → b ∉ frs (cxOf (CXr P w) P w K mg base N qual scope f cd A outer s0 H0 E).stack := fun b n hb => n (I.stkFree b hb)
  have sl : ∀ b o, s.heap.get? b = some o → b ∈ frs (cxOf (CXr P w) P w K mg base N qual scope f cd A outer s0 H0 E).stack → ∃ sl, h2.get? b = some { o with slots := sl } := fun b o e hb => by
    obtain ⟨⟨o', e', nf⟩, _⟩ := I.frs_ok b hb
    rw [e] at e'; cases e'
    exact up b o (hx.keeps b o e) nf
  refine Lies.back I rfl ⟨⟨fun b o e n hb _ => F'.1 b o (kB b o e hb), fun b o e n hb _ => sl b o e hb, fun _ _ _ n _ => n, fun b o e _ => ?_, fun _ _ e => e, fun _ _ _ e => e, fun b ps e => ⟨#[], by rw [e]; simp⟩⟩, fun c o e => ?_, fun b o e n => ?_, fun b o e n hb => kB b o e hb, fun b o e hb => ⟨o, kB b o e hb⟩⟩
  · by_cases hb : b ∈ frs (cxOf (CXr P w) P w K mg base N qual scope f cd A outer s0 H0 E).stack
    · obtain ⟨z, e1⟩ := sl b o e hb
      exact ⟨_, e1⟩
    · exact ⟨o, F'.1 b o (kB b o e hb)⟩
  · refine (I.hok c o e).stay (fun b u hb q => F'.1 b u (kB b u q (nS b ?_))) (fun _ q => q) fun _ _ q => q
    rcases hb with rfl | hb
    · rw [e]; simp
    · rw [hb]; simp
  · cases q : H b with
    | none => exact absurd q n
    | some u =>
      obtain ⟨o1, e1⟩ := (I.hok b u q).ex
      have e2 := kB b o1 e1 (nS b n)
      have e3 := F'.1 b o1 e2
      rw [e] at e3; cases e3
      exact e2
end
end L2
set_option maxRecDepth 100000
set_option maxHeartbeats 1000000
namespace L2
open PySem PySem.Spec PyProof.Rows
abbrev bmV : List Value := [.type "ValueError", .type "Exception", .type "BaseException", .type "object"]
structure ExcCls (K : PySem.W.Frag) (C : Addr) : Prop where
  ok : PySem.W.excIn K C bmV "ValueError.__new__" = true
theorem ExcCls.ex {K : PySem.W.Frag} {C : Addr} (O : ExcCls K C) : ∃ (nm q : Str) (N : Addr) (bs bm : List Value) (hdct : Bool) (sn : List Str) (sub : List Value) (ab : Bool) (col : Option Bool) (dd : Option Addr) (k0 k1 k2 k3 k5 : Option Value),
    K.lookup C = some (excClassObj nm q C N bs bm hdct sn sub ab col dd k0 k1 k2 k3 k5 "ValueError.__new__") ∧ (∀ h, K.In h → ∃ mN, h.Ns N mN ∧ mN "__init__" = none) ∧ ∀ h, K.In h → OwnTail h bmV bm := by
  have z := O.ok
  unfold PySem.W.excIn at z
  split at z
  · rename_i d0 c0 s0 lk
    split at z
    · rename_i C' tl x0 x1 x2 x3 nid x5 em es
      simp only [Bool.and_eq_true, beq_iff_eq, Bool.not_eq_true'] at z
      obtain ⟨⟨⟨⟨⟨z1, z2⟩, z3⟩, z4⟩, z5⟩, z6⟩ := z
      subst z1 z2
      cases c0 with
      | mk c1 c2 c3 c4 c5 c6 c7 c8 c9 c10 c11 =>
        dsimp only at em z3 z5 z6
        subst em z3
        cases s0 with
        | mk l0 =>
          dsimp only at es
          subst es
          exact ⟨_, _, _, _, _, _, _, _, _, _, _, _, _, _, _, _, lk, fun h X => ⟨_, .of_isNs (PySem.W.isNs_of_in X z5), PySem.W.nsMap_none_of_in X z5 z6⟩, fun h X => PySem.W.tail_of_in X z4⟩
    · cases z
  · cases z
section
variable {X : Cx} {pins : List (Addr × Obj)} {σ : St} {H H' : Hp} {s s' : Shared}
structure XW (X : Cx) (Ex : St → Hp → Addr → Prop) : Prop where
  pass : ∀ (pins : List (Addr × Obj)) (σ : St) (H : Hp) (s : Shared) (e : Value) (s' : Shared), Inv X pins σ H s → CXr X.prog X.w X.stack H s (fun cls _ H' => ∃ C, cls = .ref C ∧ Ex σ H' C) e s' → X.xe e s'
theorem CXr.imp {P : Program} {w : World} {l : List Env} {E E' : XK} {e : Value} (h : CXr P w l H s E e s') (m : ∀ cls od H', E cls od H' → E' cls od H') : CXr P w l H s E' e s' := by
  obtain ⟨a, t, cls, H', B, r1, r2, r3, r4, r5, q⟩ := h
  exact ⟨a, t, cls, H', B, r1, r2, r3, r4, r5, m _ _ _ q⟩
theorem xw_cx {P : Program} {w : World} {K : PySem.W.Frag} {mg : Str → Option Value} {base : Heap} {N : List Str} {qual : Str} {scope : Scope} {f : Addr} {cd : Value} {A : Around} {outer : List Env} {s0 : Shared} {H0 : Hp} {E : XK} :
    XW (cxOf (CXr P w) P w K mg base N qual scope f cd A outer s0 H0 E) (fun _ H' C => E (.ref C) none H') := ⟨fun pins σ H s e s' I h => by
  obtain ⟨a, t, cls, H', B, r1, r2, r3, r4, r5, C, rfl, q⟩ := h
  exact passes_r pins σ H s e s' I ⟨a, t, .ref C, H', B, r1, r2, r3, r4, r5, q⟩⟩
def tEX (K : PySem.W.Frag) (Ex : St → Hp → Addr → Prop) (G : Gam) (C : Addr) : TE := fun σ H _ => SD K H σ G ∧ ∀ H', Same H H' → Ex σ H' C
def tSX (K : PySem.W.Frag) (Ex : St → Hp → Addr → Prop) (G G' : Gam) (C : Addr) : TS := fun _ σ H => SD K H σ G ∧ ∀ σ' H', Same H H' → SD K H' σ' G' → Ex σ' H' C
abbrev EXv (X : Cx) (Ex : St → Hp → Addr → Prop) (G : Gam) (e : Expr) (C : Addr) : Prop := PE X e (tEX X.K Ex G C)
abbrev SXv (X : Cx) (Ex : St → Hp → Addr → Prop) (G : Gam) (st : Stmt) (G' : Gam) (C : Addr) : Prop := PS X st (tSX X.K Ex G G' C)
abbrev SXvs (X : Cx) (Ex : St → Hp → Addr → Prop) (G : Gam) (st : List Stmt) (G' : Gam) (C : Addr) : Prop := PSs X st (tSX X.K Ex G G' C)
end
section
variable {X : Cx} {Ex : St → Hp → Addr → Prop} {G G' G1 : Gam} {C : Addr} {e c a : Expr} {es : List Expr} {st : Stmt} {sts A B : List Stmt} {pos p cpos np : Pos} {x : Str} {ds : List PyData} {d : PyData}
theorem sx_expr (h : EXv X Ex G e C) (hs : swapsWith e none pos.line X.env = pure false := by rfl) : SXv X Ex G (.Expr e pos) G C := (ps_expr h hs).imp fun D σ H ⟨h, q⟩ => ⟨h, fun H' s' => q σ H' s' (h.mono s')⟩
theorem sx_set {i : Nat} (hN : X.N.Nodup) (hi : X.N[i]? = some x) (hx : Loc X.env.scope x) (h : EXv X Ex G e C) (hs : swapsWith e (some (.Name x p)) pos.line X.env = pure false := by rfl)
    (hf : X.fn x = true ∨ X.env.scope.names.lookup x = some .local := by first | exact .inl rfl | exact .inr rfl | assumption) : SXv X Ex G (.Assign [.Name x p] e pos) G C :=
  (ps_set hN hi hx h hs hf).imp fun D σ H ⟨h, q⟩ => ⟨h, fun H' s' => q σ H' s' (h.mono s')⟩
theorem sx_cons (h1 : SV X G st (.next G1)) (h2 : SXvs X Ex G1 sts G' C) : SXvs X Ex G (st :: sts) G' C :=
  (pss_cons h1 h2).imp fun D σ H ⟨h, q⟩ => ⟨h, fun σ1 H1 s1 h1 => ⟨h1, fun σ2 H2 s2 h2 => q σ2 H2 (s1.trans s2) h2⟩⟩
theorem sx_head (h1 : SXv X Ex G st G' C) : SXvs X Ex G (st :: sts) G' C :=
  (pss_cons h1 (pss_never (sts := sts))).imp fun D σ H ⟨h, q⟩ => ⟨h, q⟩
theorem sx_if {k : Bool} (hc : TV X G c k) (h1 : k = true → SXvs X Ex G A G' C) (h2 : k = false → SXvs X Ex G B G' C) : SXv X Ex G (.If c A B pos) G' C := by
  have hA : PSs X A (fun D σ H => k = true ∧ tSX X.K Ex G G' C D σ H) := fun pins s σ H D I ⟨e, q⟩ => h1 e pins s σ H D I q
  have hB : PSs X B (fun D σ H => k = false ∧ tSX X.K Ex G G' C D σ H) := fun pins s σ H D I ⟨e, q⟩ => h2 e pins s σ H D I q
  refine (ps_if hc hA hB).imp fun D σ H ⟨h, q⟩ => ⟨h, fun H1 s1 => ?_⟩
  have fin : tSX X.K Ex G G' C D σ H1 := ⟨h.mono s1, fun σ2 H2 s2 h2 => q σ2 H2 (s1.trans s2) h2⟩
  cases k with
  | true => exact iteT ⟨rfl, fin⟩
  | false => exact iteF ⟨rfl, fin⟩
inductive Res where
  | ok (d : PyData) | exc (C : Addr)
def spX (K : PySem.W.Frag) (F : List PyData → Res → Prop) : Sp := fun vs H Q E => ∃ ds r, DVs K H vs ds ∧ F ds r ∧ match r with
  | .ok d => ∀ v H', Same H H' → DV K H' v d → Q v H'
  | .exc C => ∀ H', Same H H' → E (.ref C) none H'
def XFn (P : Program) (w : World) (K : PySem.W.Frag) (mg : Str → Option Value) (base : Heap) (k : Nat) (x : Str) (F : List PyData → Res → Prop) : Prop :=
  ∃ f fd ps, FnOk P w K mg base (CXr P w) k f fd ps (spX K F) ∧ mg x = some (.ref f) ∧ PySem.W.keepIn K (.ref f) = true ∧ Binds K fd ps []
theorem run_fnX {CX : CXT} {k : Nat} {f : Addr} {fd : FuncData} {ps : List Str} {sp : Sp} {dvs : List V} {dvals : List Value} {E : XK} {pins : List (Addr × Obj)} {σ : St} {H : Hp} {s : Shared} {Q : VK} {us : List Value} {vs : List V} (F : FnOk X.prog X.w X.K X.mg X.base CX k f fd ps sp) (hr : Room k X.A) (hb : Binds X.K fd ps dvals) (hd : Vals dvs dvals)
    (hx : ∀ e s', CX X.stack H s E e s' → X.xe e s') (I : Inv X pins σ H s) (r : Vals vs us) (h : sp (vs ++ dvs) H Q E) : wpAny (model X.prog X.w) X.A (call (.ref f) us) (EP X pins σ Q) X.xe s := by
  have r2 : Vals (vs ++ dvs) (us ++ dvals) := r.append hd
  have hl : (us ++ dvals).length = ps.length := by rw [← r2.length]; exact F.len _ _ _ _ h
  refine wpAny_call (codeAny_mono (F.run X.A X.stack s H ⟨us, []⟩ (us ++ dvals) (vs ++ dvs) Q E hr I.env0 (hb s us I.kIn hl) r2 h) fun r s' hq => ?_)
  cases r with
  | error e => exact hx e s' hq
  | ok fl =>
    cases fl with
    | ret u => exact I.after hq
    | next => exact False.elim hq
    | brk => exact False.elim hq
    | cont => exact False.elim hq
theorem ex_call {k : Nat} {F : List PyData → Res → Prop} (W : XW X Ex) (D : XFn X.prog X.w X.K X.mg X.base k x F) (hr : Room k X.A) (hg : Gl X x) (ha : AV X G (e :: es) ds) (hF : F ds (.exc C)) (hdb : (x == ("__debug__" : Str)) = false := by decide)
    (he : starEach (e :: es) X.env = (false, eval e X.env) :: starEach es X.env := by rfl) (hpl : (backTo pos (starEach es X.env)).any (·.1) = false := by rfl) : EXv X Ex G (.Call (.Name x p) (e :: es) [] pos) C := by
  obtain ⟨f, fd, ps, ok, hm, hk, hb⟩ := D
  intro pins s σ H Q I ⟨h, q⟩
  refine wpAny_Call_Name_kw (ld_glob I hg hm ?_ hdb)
  refine PySem.W.callWith_K (h₀ := X.base) I.ok.mod.kin hk (thn (ha pos pins s σ H (fun vs H1 => Same H H1 ∧ DVs X.K H1 vs ds) I ⟨h, fun vs H1 s1 d1 => ⟨s1, d1⟩⟩) fun us s1 ⟨vs, H1, I1, r, sm, dv⟩ => ⟨I1.kIn, ?_⟩) he hpl
  refine run_fnX ok hr hb .nil (E := fun cls _ H' => ∃ C, cls = .ref C ∧ Ex σ H' C) (fun e s' z => W.pass pins σ H1 s1 e s' I1 z) I1 r ?_
  rw [List.append_nil]
  exact ⟨ds, .exc C, dv, hF, fun H2 s2 => ⟨C, rfl, q H2 (sm.trans s2)⟩⟩
theorem ev_callX {k : Nat} {F : List PyData → Res → Prop} (D : XFn X.prog X.w X.K X.mg X.base k x F) (hr : Room k X.A) (hg : Gl X x) (ha : AV X G (e :: es) ds) (hF : F ds (.ok d)) (hdb : (x == ("__debug__" : Str)) = false := by decide)
    (he : starEach (e :: es) X.env = (false, eval e X.env) :: starEach es X.env := by rfl) (hpl : (backTo pos (starEach es X.env)).any (·.1) = false := by rfl) : EV X G (.Call (.Name x p) (e :: es) [] pos) d := by
  obtain ⟨f, fd, ps, ok, hm, hk, hb⟩ := D
  refine (pe_call ok hr hg hm hk hb .nil (E := fun _ _ _ => False) (fun _ _ _ _ _ _ _ ⟨_, _, _, _, _, _, _, _, _, _, z⟩ => z.elim) ha hdb he hpl).imp fun σ H Q ⟨h, q⟩ => ⟨h, fun vs H1 s1 d1 => ?_⟩
  show spX X.K F (vs ++ []) H1 Q _
  rw [List.append_nil]
  exact ⟨ds, .ok d, d1, hF, fun v H2 s2 d2 => q v H2 (s1.trans s2) d2⟩
end
section
variable {P : Program} {w : World} {K : PySem.W.Frag} {mg : Str → Option Value} {base : Heap}
abbrev cxR (P : Program) (w : World) (K : PySem.W.Frag) (mg : Str → Option Value) (base : Heap) (N : List Str) (qual : Str) (sc : Scope) (f : Addr) (cdv : Value) (A : Around) (outer : List Env) (s : Shared) (H : Hp) (E : XK) : Cx := cxOf (CXr P w) P w K mg base N qual sc f cdv A outer s H E
abbrev exR (E : XK) : St → Hp → Addr → Prop := fun _ H' C => E (.ref C) none H'
theorem Fun.dataX {x qual : Str} {st : Stmt} {f : Addr} {fd : FuncData} {N ps : List Str} {k : Nat} {F : List PyData → Res → Prop} (F0 : Fun K x qual st f fd) (hm : mg x = some (.ref f)) (hb : Binds K fd ps []) (S : FnScope N ps (defScope st)) (len : ∀ ds r, F ds r → ds.length = ps.length)
    (hbody : ∀ (cdv : Value) (A : Around) (outer : List Env) (s : Shared) (H : Hp) (E : XK) (ds : List PyData) (r : Res), Room k (A.deeper (envOfC qual (defScope st) s.heap.objs.size f cdv)) → F ds r →
      match r with
      | .ok d => SVs (cxR P w K mg base N qual (defScope st) f cdv A outer s H E) (startG N ds) (defBody st) (.ret d) ∨ (d = .none ∧ ∃ G', SVs (cxR P w K mg base N qual (defScope st) f cdv A outer s H E) (startG N ds) (defBody st) (.next G'))
      | .exc C => ∃ G', SXvs (cxR P w K mg base N qual (defScope st) f cdv A outer s H E) (exR E) (startG N ds) (defBody st) G' C) : XFn P w K mg base (k + 1) x F := by
  obtain ⟨oc, od, kV, doc, pm, an, cdv, ct, osl, rfl, lk, hcd⟩ := F0.ex
  refine ⟨f, _, ps, fn_of lk hcd S (fun vs H Q E ⟨ds, r, h1, h2, _⟩ => h1.length.trans (len ds r h2)) (fun A outer s H vs Q E hr ⟨ds, r, h1, h2, q⟩ => ?_), hm, F0.kp, hb⟩
  have z := hbody cdv A outer s H E ds r hr h2
  cases r with
  | ok d =>
    rcases z with z | ⟨rfl, G', z⟩
    · exact ⟨_, z, SD.start h1, q⟩
    · exact ⟨_, z, SD.start h1, fun σ' H' s' h' => q .non H' s' .non⟩
  | exc C =>
    obtain ⟨G', z⟩ := z
    exact ⟨_, z, SD.start h1, fun σ' H' s' _ => q H' s'⟩
theorem sx_raise {N : List Str} {qual : Str} {scope : Scope} {f : Addr} {cd : Value} {A : Around} {outer : List Env} {s0 : Shared} {H0 : Hp} {E : XK} {G : Gam} {x : Str} {np cpos pos : Pos} {e : Expr} {es : List Expr} {ds : List PyData} {C : Addr}
    (X : Cx) (hX : X = cxR P w K mg base N qual scope f cd A outer s0 H0 E) (O : ExcCls K C) (hg : Gl X x) (hm : mg x = some (.ref C)) (ha : AV X G (e :: es) ds) (hz : ds.length ≤ sizeLine) (hdb : (x == ("__debug__" : Str)) = false := by decide)
    (he : starEach (e :: es) X.env = (false, eval e X.env) :: starEach es X.env := by rfl) (hpl : (backTo cpos (starEach es X.env)).any (·.1) = false := by rfl) : SXv X (exR E) G (.Raise (some (.Call (.Name x np) (e :: es) [] cpos)) none pos) G C := by
  subst hX
  intro pins s σ H D I ⟨h, q⟩
  obtain ⟨nm, qn, N', bs, bm, hdct, sn, sub, ab, col, dd, k0, k1, k2, k3, k5, lk, hN, T⟩ := O.ex
  have T0 := T _ I.kIn
  obtain ⟨mN, hNb, hni⟩ := hN _ I.mod.kin
  refine wpAny_Raise_call_subT (C := C) (nm := nm) (q := qn) (N := N') (bs := bs) (bm := bm) (hdct := hdct) (sn := sn) (sub := sub) (ab := ab) (col := col) (dd := dd) (k0 := k0) (k1 := k1) (k2 := k2) (k3 := k3) (k5 := k5)
    PySem.F.excBase_ValueError (mN := mN) (T0.hasType PySem.F.excBase_ValueError.hasBase) (I.ok.hd rfl) (by rw [he]; show (false || (backTo cpos (starEach es _)).any (·.1)) = false; rw [hpl]; rfl) hni (ld_glob I hg hm ⟨rfl, ?_⟩ hdb)
  have z := ha cpos pins s σ H (fun vs H1 => Same H H1 ∧ DVs K H1 vs ds) I ⟨h, fun vs H1 s1 d1 => ⟨s1, d1⟩⟩
  rw [he] at z ⊢
  refine Calls.evalArgs_plain (thn z fun us s1 ⟨vs, H1, I1, r, sm, dv⟩ => ⟨rfl, by rw [← r.length, dv.length]; exact hz, I1.kIn _ _ lk, hNb.keeps I1.bk, T _ I1.kIn, fun h' e' hm' => ?_⟩)
  exact raises_r pins σ H1 s1 e' (.ref C) us h' I1 hm' (q σ H1 sm (h.mono sm))
end
end L2
set_option maxRecDepth 100000
set_option maxHeartbeats 1000000
namespace L2
open PySem PySem.Spec PyProof.Rows
section
variable {X : Cx} {pins : List (Addr × Obj)} {σ : St} {H H' : Hp} {s s' : Shared}
theorem Inv.gone {M : Model} {A : Around} {E : Value → Shared → Prop} {i : Nat} {n : Str} {pos : Pos} {Q : Unit → Shared → Prop} (I : Inv X pins σ H s) (hN : X.N.Nodup) (hi : X.N[i]? = some n) (hk : X.env.scope.names.lookup n = some .local)
    (h : ∀ s', Inv X pins (σ.set i none) H s' → Q () s') : wpAny M A (do bindName X.env n .none; unbindBehindTheSuite X.env n pos) Q E s := by
  obtain ⟨m, hn, hl⟩ := id I.loc
  have hiσ : i < σ.length := by rw [I.len]; exact (List.getElem?_eq_some_iff.mp hi).1
  refine wpAny_nameGoes_keeps hk hn (by rw [I.ok.kind]; rfl) fun h' v hn' hs => ?_
  obtain ⟨oL, _, _, hoL, _⟩ := id hn
  have neL : ∀ b o, X.s₀.heap.get? b = some o → b ≠ X.env.locals := fun b o e => Nat.ne_of_lt (Nat.lt_of_lt_of_le (Heap.lt_size e) I.ok.above)
  refine h _ ⟨I.ok, I.os, I.bare, ⟨fun b o e n hb hx => ?_, fun b o e n hb hx => ?_, I.base.free, fun b o e hx => ?_, I.base.tups, I.base.frzs, I.base.tbls⟩, ⟨_, hn', fun j y v' e1 e2 e3 => ?_⟩, fun y c e => ?_, I.free, I.freeC, fun p hp => ?_, fun b ob e => ?_, by simpa using I.len⟩
  · exact (hs.2 b (neL b o e)).trans (I.base.keep b o e n hb hx)
  · obtain ⟨sl, e1⟩ := I.base.slot b o e n hb hx
    exact ⟨sl, (hs.2 b (neL b o e)).trans e1⟩
  · obtain ⟨o', e1⟩ := I.base.there b o e hx
    exact ⟨o', (hs.2 b (neL b o e)).trans e1⟩
  · by_cases hj : j = i
    · subst hj
      rw [List.getElem?_set_self hiσ] at e2
      cases e2
    · rw [List.getElem?_set_ne (Ne.symm hj)] at e2
      obtain ⟨u', r', q⟩ := hl j y v' e1 e2 e3
      refine ⟨u', r', ?_⟩
      rcases q with ⟨k, e⟩ | ⟨k, c, e, z⟩
      · refine .inl ⟨k, ?_⟩
        have : y ≠ n := fun e => hj (nodup_ix hN e1 (e ▸ hi))
        simp [this, e]
      · exact .inr ⟨k, c, e, z.sameBut hs (I.cne y c e)⟩
  · obtain ⟨w', z⟩ := I.cell y c e
    exact ⟨w', z.sameBut hs (I.cne y c e)⟩
  · obtain ⟨e, n, ne, nf, d⟩ := I.pin p hp
    exact ⟨(hs.2 p.1 ne).trans e, n, ne, nf, d⟩
  · refine (I.hok b ob e).stay (fun c w' hc q => (hs.2 c ?_).trans q) (fun _ q => q) fun _ _ q => q
    intro z
    subst z
    rcases hc with z | z
    · rw [← z, I.free] at e; cases e
    · rw [I.free] at z; cases z
def FlyX (X : Cx) (Ex : St → Hp → Addr → Prop) : Value → Shared → Prop := fun e s' => ∃ pins σ H1 s1, Inv X pins σ H1 s1 ∧ CXr X.prog X.w X.stack H1 s1 (fun cls _ H' => ∃ C, cls = .ref C ∧ Ex σ H' C) e s'
abbrev Cx.bd (X : Cx) (pn : List (Addr × Obj)) (E : Value → Shared → Prop) : Cx := { X with pn := pn, xe := E }
abbrev Cx.tr (X : Cx) (pn : List (Addr × Obj)) (Ex : St → Hp → Addr → Prop) : Cx := X.bd pn (FlyX (X.bd pn X.xe) Ex)
abbrev Cx.hs (X : Cx) (pn : List (Addr × Obj)) (a : Addr) : Cx := { X with A := X.A.mark (some (.ref a)), calm := false, pn := pn, xe := fun _ _ => False }
theorem Inv.bd (I : Inv X pins σ H s) (E : Value → Shared → Prop) : Inv (X.bd (X.pn ++ pins) E) [] σ H s :=
  ⟨⟨I.ok.mod, I.ok.kind, I.ok.glob, I.ok.blt, I.ok.above, I.ok.inj, I.ok.has, I.ok.cab, I.ok.hd, I.ok.frames, I.ok.stk, I.ok.exf, I.ok.bs, I.ok.bsz, I.ok.noex, I.ok.exfs, I.ok.funs, I.ok.frf⟩, I.os, I.bare, I.base, I.loc, I.cell, I.free, I.freeC, fun p hp => I.pin p (by simpa using hp), I.hok, I.len⟩
theorem Inv.hs {pn pins' : List (Addr × Obj)} {E : Value → Shared → Prop} (I : Inv (X.bd pn E) pins' σ H s) (a : Addr) : Inv (X.hs pn a) [] σ H s :=
  ⟨⟨I.ok.mod, I.ok.kind, I.ok.glob, I.ok.blt, I.ok.above, I.ok.inj, I.ok.has, I.ok.cab, (fun z => by cases z), I.ok.frames, I.ok.stk, I.ok.exf, I.ok.bs, I.ok.bsz, I.ok.noex, I.ok.exfs, I.ok.funs, I.ok.frf⟩, I.os, I.bare, I.base, I.loc, I.cell, I.free, I.freeC, fun p hp => I.pin p (List.mem_append_left _ (by simpa using hp)), I.hok, I.len⟩
theorem Inv.ofHs {a : Addr} (ok : X.Ok) (I : Inv (X.hs (X.pn ++ pins) a) [] σ H s) : Inv X pins σ H s :=
  ⟨ok, I.os, I.bare, I.base, I.loc, I.cell, I.free, I.freeC, fun p hp => I.pin p (by simpa using hp), I.hok, I.len⟩
theorem xw_tr {pn : List (Addr × Obj)} {Ex : St → Hp → Addr → Prop} : XW (X.tr pn Ex) Ex := ⟨fun pins σ H s e s' I h => ⟨pins, σ, H, s, ⟨I.ok.unwish, I.os, I.bare, I.base, I.loc, I.cell, I.free, I.freeC, I.pin, I.hok, I.len⟩, h⟩⟩
end
structure ExcCatch (K : PySem.W.Frag) (C D : Addr) : Prop where
  notTup : PySem.W.instIn K (.ref D) (.type "tuple") = some false
  isT : (PySem.W.clsIn K D).isSome = true
  isE : PySem.W.subIn K (.ref D) (.type "BaseException") = some true
  sub : PySem.W.subIn K (.ref C) (.ref D) = some true
theorem exc_matches {K : PySem.W.Frag} {M : Model} {A : Around} {E : Value → Shared → Prop} {s : Shared} {a C D : Addr} {Q : Bool → Shared → Prop} (X : K.In s.heap) (O : ExcCatch K C D) (p : ∃ o, s.heap.get? a = some o ∧ o.cls = .ref C) (h : Q true s) :
    wpAny M A (excMatches (.ref a) (.ref D)) Q E s := by
  obtain ⟨o, h1, h2⟩ := p
  have LT : PySem.W.Looks M s.heap (typeOf (.ref a)) (.ref C) := h2 ▸ (PySem.W.Looks.ld h1).andThen .now
  have L1 := PySem.W.looks_instIn (M := M) X O.notTup
  have L2 := PySem.W.looks_subIn (M := M) X O.isE
  have L3 := PySem.W.looks_subIn (M := M) X O.sub
  have L4 : PySem.W.Looks M s.heap (isType (.ref D)) true := by
    have z := O.isT
    unfold PySem.W.clsIn at z
    split at z
    · rename_i ho
      intro A' Q' E' s' k q
      unfold isType loadHead
      exact wpAny_bind (wpAny_loadPart (k _ _ (X _ _ ho)) (wpAny_pure q))
    · cases z
  have L5 : PySem.W.Looks M s.heap (isExcClass (.ref D)) true := L4.andThen L2
  unfold excMatches
  refine wpAny_bind (L1.at ?_)
  rw [if_neg (by decide)]
  refine wpAny_bind (wpAny_pure ?_)
  refine wpAny_bind ?_
  rw [List.forIn_cons]
  refine wpAny_bind (wpAny_bind (L5.at ?_))
  simp only [Bool.not_true, Bool.false_eq_true, if_false]
  refine wpAny_pure ?_
  simp only [List.forIn_nil]
  refine wpAny_pure (wpAny_bind (LT.at (wpAny_bind ?_)))
  rw [List.forIn_cons]
  refine wpAny_bind (wpAny_bind (L3.at ?_))
  simp only [if_true]
  exact wpAny_pure (wpAny_pure (wpAny_pure h))
def Out.unset (i : Nat) : Out → Out
  | .next G => .next (G.set i none)
  | .ret d => .ret d
theorem SD.unset {K : PySem.W.Frag} {H : Hp} {σ : St} {G : Gam} (h : SD K H σ G) (i : Nat) : SD K H (σ.set i none) (G.set i none) := by
  refine ⟨by rw [List.length_set, List.length_set, h.1], fun j d e => ?_⟩
  by_cases hj : i = j
  · subst hj
    by_cases hl : i < G.length
    · rw [List.getElem?_set_self hl] at e; cases e
    · rw [List.getElem?_eq_none (by rw [List.length_set]; omega)] at e; cases e
  · rw [List.getElem?_set_ne hj] at e ⊢
    exact h.2 j d e
theorem Lies.caught {P : Program} {w : World} {l : List Env} {H H' : Hp} {h h' B : Heap} {a t C : Addr} (L : Lies P w l H H' h h' B) (F : Heap.FlyingW B l a (.ref C) (.ref t) h') :
    Un (frs l) [] H (upd H' a (.ext (ExcAt a C))) h h' ∧ HOk P w (upd H' a (.ext (ExcAt a C))) h' ∧ H' a = none := by
  obtain ⟨oe, vs, e1, e2, e3, _⟩ := F.first
  have na : H' a = none := by
    cases q : H' a with
    | none => rfl
    | some u =>
      obtain ⟨o, eo⟩ := (L.hok a u q).ex
      have := L.trk a o eo (by rw [q]; simp)
      rw [F.2.1] at this; cases this
  have nf : a ∉ frs l := fun hm => by
    obtain ⟨_, o, eo, hd⟩ := F.2.2.1.mem hm
    rw [e1] at eo; cases eo
    exact hd vs e3
  have nh : h.get? a = none := by
    cases q : h.get? a with
    | none => rfl
    | some o =>
      obtain ⟨o', eo⟩ := L.has a o q nf
      rw [F.2.1] at eo; cases eo
  refine ⟨⟨L.un.keep, L.un.slot, fun b o e n hx => ?_, L.un.there, fun b xs e => ?_, fun b o u e => ?_, fun b ps e => ?_⟩, fun b u e => ?_, na⟩
  · rw [upd_ne (fun z => by rw [z, nh] at e; cases e)]
    exact L.un.free b o e n hx
  · have q := L.un.tups b xs e
    rw [upd_ne (ne_of_none q na)]
    exact q
  · have q := L.un.frzs b o u e
    rw [upd_ne (ne_of_none q na)]
    exact q
  · obtain ⟨more, q⟩ := L.un.tbls b ps e
    exact ⟨more, by rw [upd_ne (ne_of_none q na)]; exact q⟩
  · by_cases hb : b = a
    · subst hb
      rw [upd_same] at e
      cases e
      exact ⟨⟨oe, vs, e1, e2, e3⟩, ⟨oe, e1⟩, fun h1 h2 ⟨o, ws, q1, q2, q3⟩ k => ⟨o, ws, k o q1, q2, q3⟩⟩
    · rw [upd_ne hb] at e
      exact (L.hok b u e).stay (fun _ _ _ q => q) (fun c q => by rw [upd_ne (ne_of_none q na)]; exact q) fun c xs q => by rw [upd_ne (ne_of_none q na)]; exact q
section
variable {X : Cx} {G G' G1 : Gam} {o : Out} {body suite : List Stmt} {b₀ : Stmt} {C D : Addr} {ie : Nat} {n x : Str} {pos hpos np : Pos}
theorem sv_try_ok {h₀ : ExceptHandler} {hs : List ExceptHandler} (hb : SVs X.nox G body (.next G1)) : SV X G (.Try body (h₀ :: hs) [] [] pos) (.next G1) := by
  intro pins s σ H D0 I ⟨hσ, q⟩
  refine wpAny_Try_except (wpAny_mono (hb pins s σ H ⟨fun σ' H' => SD X.K H' σ' G1 ∧ Same H H', fun _ _ => False, fun _ _ => False, fun _ _ => False⟩ (I.wish _) ⟨hσ, fun σ' H' s' h' => ⟨h', s'⟩⟩) (fun f s1 z => ?_) fun _ _ z => z.elim)
  cases f with
  | next =>
    obtain ⟨σ', H', I', h', sm⟩ := z
    exact wpAny_execs_nil ⟨σ', H', I'.unwish, q σ' H' sm h'⟩
  | brk => obtain ⟨_, _, _, z⟩ := z; exact z.elim
  | cont => obtain ⟨_, _, _, z⟩ := z; exact z.elim
  | ret v => obtain ⟨_, _, _, _, _, z⟩ := z; exact z.elim
theorem sv_try_exc (hst : X.stack = X.env :: X.outer) (hfr : X.env.frame = some X.env.locals) (hN : X.N.Nodup) (hi : X.N[ie]? = some n) (hk : X.env.scope.names.lookup n = some .local) (hg : Gl X x) (hm : X.mg x = some (.ref D)) (O : ExcCatch X.K C D)
    (hb : ∀ pn Ex, SXvs (X.tr pn Ex) Ex G body G' C) (hh : ∀ pn a, SVs (X.hs pn a) (G'.set ie (some (excD C))) (b₀ :: suite) o) (hd : (x == ("__debug__" : Str)) = false := by decide) :
    SV X G (.Try body [.ExceptHandler (some (.Name x np)) (some n) (b₀ :: suite) hpos] [] [] pos) (o.unset ie) := by
  intro pins s σ H D0 I ⟨hσ, q⟩
  refine wpAny_Try_except ?_
  refine wpAny_mono (hb (X.pn ++ pins) (fun σ' H' c => c = C ∧ SD X.K H' σ' G' ∧ Same H H') [] s σ H ⟨fun _ _ => False, fun _ _ => False, fun _ _ => False, fun _ _ => False⟩ (I.bd _) ⟨hσ, fun σ' H' s' h' => ⟨rfl, h', s'⟩⟩) (fun f s1 z => ?_) fun e s1 z => ?_
  · exfalso
    cases f with
    | next => obtain ⟨_, _, _, z⟩ := z; exact z
    | brk => obtain ⟨_, _, _, z⟩ := z; exact z
    | cont => obtain ⟨_, _, _, z⟩ := z; exact z
    | ret v => obtain ⟨_, _, _, _, _, z⟩ := z; exact z
  · obtain ⟨pins', σ', H1, s1', I1, a, t, cls, H', B, rfl, os, bare, L, F, C', rfl, rfl, hσ', sm⟩ := z
    have F0 : Heap.FlyingW B (X.env :: X.outer) a (.ref C') (.ref t) s1.heap := hst ▸ F
    refine wpAny_looks_onW (I1.ok.frames.trans (congrArg some hst)) hfr F0 fun h4 F4 up4 => ?_
    refine wpAny_landsW F4 fun h5 F5 up5 => ?_
    have L5 := (L.step F4.1 up4 I1.frs_ok).step F5.1 up5 I1.frs_ok
    have I5 : Inv (X.bd (X.pn ++ pins) X.xe) pins' σ' H' { s1 with heap := h5 } := I1.call' os L5.un L5.hok bare (fun _ z => nomatch z)
    have J5 := I5.hs a
    refine wpAny_handleBy_cons (codeAny_handlers_test (ld_glob J5 hg hm ?_ hd)) (by intro z; cases z)
    refine exc_matches J5.kIn O F5.there ?_
    refine codeAny_handlers_suite_as ?_
    refine lands_againW F5 fun h6 F6 up6 => ?_
    have L6 := L5.step F6.1 up6 I1.frs_ok
    obtain ⟨un6, ok6, na⟩ := L6.caught (hst ▸ F6)
    have I6 : Inv (X.bd (X.pn ++ pins) X.xe) pins' σ' (upd H' a (.ext (ExcAt a C'))) { s1 with heap := h6 } := I1.call' os un6 ok6 bare (fun _ z => nomatch z)
    have J6 := I6.hs a
    have sm6 : Same H (upd H' a (.ext (ExcAt a C'))) := sm.trans (Same.new na)
    refine store_ok (X := X.hs (X.pn ++ pins) a) J6 hN hi (.inl hk) (v := .ref a) rfl (fun s7 J7 => ?_) (.inr hk)
    have sd7 : SD X.K (upd H' a (.ext (ExcAt a C'))) (σ'.set ie (some (.ref a))) (G'.set ie (some (excD C'))) := (hσ'.mono (Same.new na)).set (.exc upd_same)
    have hsu := hh (X.pn ++ pins) a
    cases o with
    | next G2 =>
      refine wpAny_mono (hsu [] s7 _ _ ⟨fun σ8 H8 => SD X.K H8 σ8 G2 ∧ Same H H8, fun _ _ => False, fun _ _ => False, fun _ _ => False⟩ J7 ⟨sd7, fun σ8 H8 s8 h8 => ⟨h8, sm6.trans s8⟩⟩) (fun f s8 z => ?_) fun _ _ z => z.elim
      cases f with
      | next =>
        obtain ⟨σ8, H8, J8, h8, sm8⟩ := z
        exact Inv.gone (X := X.hs (X.pn ++ pins) a) J8 hN hi hk fun s9 J9 => ⟨_, H8, J9.ofHs I.ok, q _ H8 sm8 (h8.unset ie)⟩
      | brk => obtain ⟨_, _, _, z⟩ := z; exact z.elim
      | cont => obtain ⟨_, _, _, z⟩ := z; exact z.elim
      | ret v => obtain ⟨_, _, _, _, _, z⟩ := z; exact z.elim
    | ret d =>
      refine wpAny_mono (hsu [] s7 _ _ ⟨fun _ _ => False, fun v H8 => DV X.K H8 v d ∧ Same H H8, fun _ _ => False, fun _ _ => False⟩ J7 ⟨sd7, fun v H8 s8 h8 => ⟨h8, sm6.trans s8⟩⟩) (fun f s8 z => ?_) fun _ _ z => z.elim
      cases f with
      | ret u =>
        obtain ⟨v, σ8, H8, J8, r8, h8, sm8⟩ := z
        exact Inv.gone (X := X.hs (X.pn ++ pins) a) J8 hN hi hk fun s9 J9 => ⟨v, _, H8, J9.ofHs I.ok, r8, q v H8 sm8 h8⟩
      | next => obtain ⟨_, _, _, z⟩ := z; exact z.elim
      | brk => obtain ⟨_, _, _, z⟩ := z; exact z.elim
      | cont => obtain ⟨_, _, _, z⟩ := z; exact z.elim
end
section
variable {K : PySem.W.Frag}
structure ExcLook (K : PySem.W.Frag) (C : Addr) : Prop where
  ga : PySem.W.findIn K (.ref C) "__getattribute__" = some (some (.builtin "BaseException.__getattribute__"))
  hook : PySem.W.findIn K (.ref C) "__getattr__" = some none
  cl : PySem.W.findIn K (.ref C) "__class__" = some (some (.builtin "object.__class__"))
  get : PySem.W.specialIn K (.builtin "object.__class__") "__get__" = some (some (.builtin "getset_descriptor.__get__"))
  tk : PySem.W.takesIn K (.builtin "object.__class__") = some true
  mo : PySem.W.mroIn K C (.type "object") = some true
  mb : PySem.W.mroIn K C (.type "BaseException") = some true
  isC : (PySem.W.clsIn K C).isSome = true
end
end L2
set_option maxRecDepth 100000
set_option maxHeartbeats 1000000
namespace L2
open PySem PySem.Spec PyProof.Rows
section
variable {X : Cx} {G G2 : Gam} {H0 : Hp} {p : Addr} {i j : Nat} {Pre Mid Post : Gam → List PyData → Prop} {a b e c iter : Expr} {es : List Expr} {pos pos' pos2 pos3 : Pos} {x : Str} {ws xs ys ds : List PyData} {d : PyData} {sts A B : List Stmt}
theorem tv_chainB {a b c : Expr} {da db dc : PyData} {op op' : CmpOp} {k k' : Bool} (ho : OD X (compareOp op) da db (.bool k)) (ho' : OD X (compareOp op') db dc (.bool k')) (ha : EV X G a da) (hb : EV X G b db) (hc : EV X G c dc)
    (hm : lastMarks [op, op'] [b, c] = false := by with_unfolding_all rfl) : TV X G (.Compare a [op, op'] [b, c] pos) (k && k') := by
  refine (pt_chain ho ho' ha hb hc hm).imp fun σ H Q ⟨h, q⟩ => ⟨h, fun x H1 s1 d1 => ⟨h.mono s1, fun y H2 s2 d2 => ⟨d1.mono s2, d2, fun v H3 s3 d3 => ⟨k, d3.of_bl, ?_⟩⟩⟩⟩
  cases k with
  | true =>
    simp only [if_true]
    exact ⟨((h.mono s1).mono s2).mono s3, fun z H4 s4 d4 => ⟨(d2.mono s3).mono s4, d4, fun v H5 s5 d5 => ⟨k', d5.of_bl, q H5 ((((s1.trans s2).trans s3).trans s4).trans s5)⟩⟩⟩
  | false =>
    simp only [Bool.false_eq_true, if_false]
    exact ⟨false, rfl, q H3 ((s1.trans s2).trans s3)⟩
end
end L2
set_option maxRecDepth 100000
set_option maxHeartbeats 400000
namespace L2
open PySem PySem.Spec PyProof.Rows PySem.W Builtin Builtin.ObjectAttr Builtin.Getset_descriptor
section
variable {K : PySem.W.Frag} {prog : Program} {w : World} {A : Around} {E : Value → Shared → Prop} {s : Shared} {a C : Addr} {o : Obj}
theorem looksT {M : Model} {h : Heap} (p : ∃ o, h.get? a = some o ∧ o.cls = .ref C) : PySem.W.Looks M h (typeOf (.ref a)) (.ref C) := by
  obtain ⟨o, h1, h2⟩ := p
  exact h2 ▸ (PySem.W.Looks.ld h1).andThen .now
theorem exc_cget {R : Result → Shared → Prop} {tp : Value} (X : K.In s.heap) (p : ∃ o, s.heap.get? a = some o ∧ o.cls = .ref C) (O : ExcLook K C) (h : R (.ok (.ret (.ref C))) s) :
    codeAny (model prog w) A (.call (.builtin "getset_descriptor.__get__") ⟨[.builtin "object.__class__", .ref a, tp], []⟩) R s := by
  have T0 := looksT (M := model prog w) p
  have T1 := looks_mroIn (M := model prog w) X O.mo
  obtain ⟨h1, g1, d1, t1, o1⟩ := s
  refine codeAny_call_builtin KF.slot_gs.plain KF.entry_gs ?_
  refine KF.slot_gs.check _ _ _ _ _ _ _ _ KF.type_class (KF.args_gs _ _ _) ?_
  unfold Builtin.«getset_descriptor.__get__»
  unfold descrGet
  rw [dga_obj]
  refine wpAny_bind (wpAny_pure ?_)
  unfold descrGetter
  unfold descrCheckInstance descrNameAndClass
  unfold isInstance
  simp only [KF.owner_class]
  repeat lk
  have en := KF.entry_class
  refine ⟨Code.quiet_builtin _ (by decide +kernel), codeAny_builtin en ?_⟩
  unfold Builtin.«object.__class__»
  unfold shownTypeOf
  repeat lk
  exact h
theorem exc_find {M : Model} {h : Heap} (X : K.In h) (O : ExcLook K C) : PySem.W.Looks M h (Builtin.ObjectAttr.find (.ref a) (.ref C) "__class__") (Builtin.ObjectAttr.Found.bind (.builtin "getset_descriptor.__get__") (.builtin "object.__class__")) := by
  have L1 := looks_findIn (M := M) X O.cl
  have L2 := looks_specialIn (M := M) X O.get
  have L3 := looks_takesIn (M := M) X O.tk
  have L4 : PySem.W.Looks M h (dataDescriptor? (some (Value.builtin "object.__class__")) (some (Value.builtin "getset_descriptor.__get__"))) (some (Value.builtin "getset_descriptor.__get__", Value.builtin "object.__class__")) := PySem.W.Looks.andThen L3 .now
  have L5 : PySem.W.Looks M h (getOf (some (Value.builtin "object.__class__"))) (some (Value.builtin "getset_descriptor.__get__")) := L2
  exact L1.andThen (L5.andThen (L4.andThen (PySem.W.Looks.tag .now)))
theorem exc_entry {Q : Fin → Shared → Prop} {tk : Tok} (X : K.In s.heap) (p : ∃ o, s.heap.get? a = some o ∧ o.cls = .ref C) (O : ExcLook K C) (h : Q (.done (.ret (.ref C))) s) :
    wpAny (model prog w) A (Builtin.«object.__getattribute__» ⟨[.ref a, .str "__class__" tk], []⟩) Q E s := by
  have T0 := looksT (M := model prog w) p
  have T1 := exc_find (a := a) (M := model prog w) X O
  obtain ⟨h1, g1, d1, t1, o1⟩ := s
  unfold Builtin.«object.__getattribute__»
  repeat lk
  refine wpAny_run (c := Code.call (.builtin "getset_descriptor.__get__") ⟨[.builtin "object.__class__", .ref a, .ref C], []⟩) (h := none) (exc_cget X p O ?_)
  exact wpAny_pure (wpAny_pure h)
theorem exc_check {M : Model} {nameV : Value} {Q : Unit → Shared → Prop} (X : K.In s.heap) (p : ∃ o, s.heap.get? a = some o ∧ o.cls = .ref C) (O : ExcLook K C) (h : Q () s) :
    wpAny M A (checkBuiltinCall "BaseException.__getattribute__" ⟨[.ref a, nameV], []⟩) Q E s := by
  have T0 := looksT (M := M) p
  have T1 := looks_mroIn (M := M) X O.mb
  have b1 : builtinKind "BaseException.__getattribute__" = some .slot := by decide +kernel
  have b2 : splitId "BaseException.__getattribute__" = some ("BaseException", "__getattribute__") := by decide +kernel
  have b3 := F.args_bexc_ga (.ref a) nameV
  simp only [checkBuiltinCall, b1, b2]
  obtain ⟨h1, g1, d1, t1, o1⟩ := s
  refine wpAny_bind ?_
  unfold isInstance
  repeat lk
  exact h
theorem exc_class {Q : Option Value → Shared → Prop} (X : K.In s.heap) (p : ∃ o, s.heap.get? a = some o ∧ o.cls = .ref C) (O : ExcLook K C) (h : Q (some (.ref C)) { s with toks := s.toks + 1 }) :
    wpAny (model prog w) A (getAttr? (.ref a) "__class__") Q E s := by
  have T0 := looksT (M := model prog w) p
  have T1 := looks_findIn (M := model prog w) X O.ga
  have T2 := looks_findIn (M := model prog w) X O.hook
  have T3 := F.attr_ValueError.ga.bind (.ref a)
  have b1 : (Value.builtin "BaseException.__getattribute__" == Value.builtin "object.__getattribute__") = false := by decide +kernel
  obtain ⟨h1, g1, d1, t1, o1⟩ := s
  unfold getAttr? getAttrBy? getAttrBy
  refine wpAny_bind (wpAny_mkText (wpAny_bind (wpAny_attempt (wpAny_holding (wpAny_bind (T0.at (wpAny_bind (T1.at ?_))))))))
  dsimp only
  rw [b1, Bool.and_false, if_neg Bool.false_ne_true]
  unfold getAttrByItsOwn hookBefore
  rw [show onTheHeap (.ref C) = true from rfl, if_pos rfl]
  refine wpAny_bind (T2.at (wpAny_bind (wpAny_attempt (wpAny_holding ?_))))
  unfold callGetattribute boundAndCalled
  rw [if_neg (by decide)]
  refine wpAny_bind (wpAny_of_eq T3 ?_)
  refine wpAny_call (codeAny_call_builtin F.attr_ValueError.ga.plain F.entry_bexc_ga ?_)
  refine exc_check X p O (exc_entry X p O ?_)
  exact wpAny_pure (wpAny_pure h)
theorem exc_kit {K : PySem.W.Frag} {C : Addr} (O : ExcLook K C) : ExcIsi K C := fun a φ hφ => {
  ty := fun M h X p => looksT (hφ h p)
  it := fun M h X p => by
    have z := O.isC
    unfold PySem.W.clsIn at z
    split at z
    · rename_i ho
      intro A' Q' E' s' k q
      unfold isType loadHead
      exact wpAny_bind (wpAny_loadPart (k _ _ (X _ _ ho)) (wpAny_pure q))
    · cases z
  ne := fun h tp dd its n sl X htp => by
    refine Bool.eq_false_iff.mpr fun q => ?_
    have e : C = tp := Value.ref.inj (beq_iff_eq.mp q)
    subst e
    have z := O.isC
    unfold PySem.W.clsIn at z
    split at z
    · rename_i ho
      have y := (X _ _ ho).symm.trans htp
      cases y
    · cases z
  ca := fun X p k => exc_class X (hφ _ p) O k }
end
section
variable {X : Cx} {G : Gam} {a : Expr} {da : PyData} {pos p p2 : Pos}
theorem ev_isiO {k : Bool} {D : Addr} {x1 : Str} (ha : EV X G a da) (hg : Gl X "isinstance") (hm : X.mg "isinstance" = none) (hg1 : Gl X x1) (hm1 : X.mg x1 = some (.ref D)) (e : PySem.W.kitOne X.K (tyD da) (.ref D) = some k)
    (hX : ∀ C, da = excD C → ExcIsi X.K C) (hX2 : ∀ C n, da = excRD C n → ExcIsi X.K C := by intro _ _ z; first | cases z | (unfold excD at z; cases z)) (hd1 : (x1 == ("__debug__" : Str)) = false := by decide) (hv : bootBuiltins "isinstance" = some (.builtin "isinstance") := by decide +kernel)
    (he : starEach [a, .Name x1 p2] X.env = (false, eval a X.env) :: starEach [.Name x1 p2] X.env := by rfl) (he2 : starEach [.Name x1 p2] X.env = (false, eval (.Name x1 p2) X.env) :: starEach [] X.env := by rfl)
    (hpl : (backTo pos (starEach [.Name x1 p2] X.env)).any (·.1) = false := by rfl) :
    EV X G (.Call (.Name "isinstance" p) [a, .Name x1 p2] [] pos) (.bool k) := by
  have cr : CallR X (.builtin "isinstance") (fun xs H Q => ∃ v, xs = [v, .ref D] ∧ DV X.K H v da ∧ Q (.bl k) H) := by
    intro pins s σ H xs us Q I rs ⟨v, ex, dv, q⟩
    subst ex
    obtain ⟨u, w, rfl, ru, rw'⟩ := vals2 rs
    cases rw'
    exact isinst_D I dv ru e (fun tk => ⟨.bl k, H, I.tok tk, rfl, q⟩) hX hX2
  refine (pe_callB cr hg hm hv (pa_cons ha (pa_cons (pe_glob (v := .ref D) hg1 hm1 rfl hd1) pa_nil he2) he) (by decide) (by decide) he hpl).imp fun σ H Q ⟨h, q⟩ => ⟨h, fun v H1 s1 d1 => ⟨v, rfl, d1, q _ H1 s1 (.bl k)⟩⟩
end
end L2
set_option maxRecDepth 100000
set_option maxHeartbeats 1000000
namespace L2
open PySem PySem.Spec PyProof.Rows
section
variable {P : Program} {w : World} {K : PySem.W.Frag} {mg : Str → Option Value} {base : Heap}
theorem Fun.okX {x qual : Str} {st : Stmt} {f : Addr} {fd : FuncData} {N ps : List Str} {k : Nat} {sp : Sp} (F : Fun K x qual st f fd) (S : FnScope N ps (defScope st)) (len : ∀ vs H Q E, sp vs H Q E → vs.length = ps.length)
    (hbody : ∀ (cdv : Value) (A : Around) (outer : List Env) (s : Shared) (H : Hp) (vs : List V) (Q : VK) (E : XK), Room k (A.deeper (envOfC qual (defScope st) s.heap.objs.size f cdv)) → sp vs H Q E →
      ∃ t, PSs (cxR P w K mg base N qual (defScope st) f cdv A outer s H E) (defBody st) t ∧ t { nx := fun _ H' => Q .non H', rt := Q } (start N vs) H) : FnOk P w K mg base (CXr P w) (k + 1) f fd ps sp := by
  obtain ⟨oc, od, kV, doc, pm, an, cdv, ct, osl, rfl, lk, hcd⟩ := F.ex
  exact fn_of lk hcd S len fun A outer s H vs Q E hr hsp => hbody cdv A outer s H vs Q E hr hsp
end
section
variable {X : Cx} {Ex : St → Hp → Addr → Prop} {G : Gam} {C Cx f : Addr} {fd : FuncData} {ps : List Str} {sp : Sp} {k : Nat} {e o : Expr} {es : List Expr} {pos p apos : Pos} {x : Str} {ds : List PyData} {d : PyData}
theorem ex_make (M : Mk X.K C f) (F : FnOk X.prog X.w X.K X.mg X.base (CXr X.prog X.w) k f fd ps sp) (hr : Room (k + 1) X.A) (hg : Gl X x) (hm : X.mg x = some (.ref C)) (hb : Binds X.K fd ps []) (W : XW X Ex) (ha : AV X G (e :: es) ds)
    (hs : ∀ vs H y dy Q E, DVs X.K H vs ds → H y = none → H dy = none → dy ≠ y → (∀ H', Same H H' → E (.ref Cx) none H') → sp (.ref y :: vs) (upd (upd H dy (.own y)) y (.ins C dy [])) Q E)
    (hdb : (x == ("__debug__" : Str)) = false := by decide) (he : starEach (e :: es) X.env = (false, eval e X.env) :: starEach es X.env := by rfl) (hpl : (backTo pos (starEach es X.env)).any (·.1) = false := by rfl) :
    EXv X Ex G (.Call (.Name x p) (e :: es) [] pos) Cx := by
  intro pins s0 σ H0 Q I0 ⟨h, q⟩
  refine wpAny_Call_Name_kw (ld_glob I0 hg hm ?_ hdb)
  refine PySem.W.callWith_K (h₀ := X.base) I0.ok.mod.kin M.kp (thn (ha pos pins s0 σ H0 (fun vs H1 => Same H0 H1 ∧ DVs X.K H1 vs ds) I0 ⟨h, fun vs H1 s1 d1 => ⟨s1, d1⟩⟩) fun us s ⟨vs, H, I, r, sm, dv⟩ => ⟨I.kIn, ?_⟩) he hpl
  have n1 : H (s.heap.objs.size + 1) = none := I.hok.fresh (Nat.le_succ _)
  have n2 : H s.heap.objs.size = none := I.hok.fresh (Nat.le_refl _)
  have hne : s.heap.objs.size ≠ s.heap.objs.size + 1 := Nat.ne_of_lt (Nat.lt_succ_self _)
  have hq := hs vs H (s.heap.objs.size + 1) s.heap.objs.size (fun v H2 => v = .non ∧ Q (.ref (s.heap.objs.size + 1)) H2) (fun cls _ H' => ∃ C, cls = .ref C ∧ Ex σ H' C) dv n1 n2 hne fun H' s' => ⟨Cx, rfl, q H' (sm.trans s')⟩
  have I2 := Inv.made (C := C) I
  have r2 : Vals (V.ref (s.heap.objs.size + 1) :: vs) (Value.ref (s.heap.objs.size + 1) :: us) := .cons rfl r
  have hl : (Value.ref (s.heap.objs.size + 1) :: us ++ []).length = ps.length := by
    have e := r2.length
    rw [F.len _ _ _ _ hq] at e
    rw [List.append_nil]
    exact e.symm
  have hbb := hb _ (Value.ref (s.heap.objs.size + 1) :: us) I2.kIn hl
  rw [List.append_nil] at hbb
  refine wpAny_call (make_map (f := f) I.kIn M.makes M.init (beq_iff_eq.mp M.fn) (codeAny_mono (F.run _ X.stack _ _ ⟨Value.ref (s.heap.objs.size + 1) :: us, []⟩ (Value.ref (s.heap.objs.size + 1) :: us) _ _ (fun cls _ H' => ∃ C, cls = .ref C ∧ Ex σ H' C) (hr.make C us [])
    (I2.env0.make C us []) hbb r2 hq) fun r s' hq' => ?_))
  cases r with
  | error e => exact W.pass pins σ _ _ e s' I2 hq'
  | ok fl =>
    cases fl with
    | ret u =>
      obtain ⟨v, H', I3, rv, ev, q3⟩ := I2.after hq'
      subst ev
      exact ⟨rv, ⟨V.ref (s.heap.objs.size + 1), H', I3, rfl, q3⟩⟩
    | next => exact False.elim hq'
    | brk => exact False.elim hq'
    | cont => exact False.elim hq'
theorem vbool_eq (z b : Bool) : (Value.bool z == Value.bool b) = (z == b) := by cases z <;> cases b <;> first | rfl | decide
theorem DVs.of_bls {K : PySem.W.Frag} {H : Hp} : ∀ {ss : List Bool} {vs : List V}, DVs K H vs (ss.map PyData.bool) → vs = ss.map V.bl := fun h => h.of_bools
theorem ev_indexB {ss : List Bool} {b : Bool} {j : Nat} (ho : EV X G o (.list (ss.map PyData.bool))) (he : EV X G e (.bool b)) (hj : ss[j]? = some b) (hno : ∀ m, m < j → ss[m]? ≠ some b)
    (hb : attributeBase o "index" X.env (eval o X.env) = eval o X.env := by rfl)
    (hfew : ((backTo pos (starEach [e] X.env)).all (fun x => !x.1) && (backToKw pos (keywordEach [] X.env)).all (fun x => x.1.isSome)
      && decide ([e].length + ([] : List Keyword).length + (if ([] : List Keyword).isEmpty then 0 else 1) < 30)) = true := by rfl)
    (hline : (apos.endLine == pos.line) = true := by rfl) (hs : starEach [e] X.env = (false, eval e X.env) :: starEach [] X.env := by rfl) (hpl : (backTo pos (starEach [] X.env)).any (·.1) = false := by rfl) :
    EV X G (.Call (.Attribute o "index" apos) [e] [] pos) (.int j) := by
  have hjl : j < ss.length := (List.getElem?_eq_some_iff.mp hj).1
  have mr : MtR X "list.index" (fun y ys H Q => ∃ l, y = .ref l ∧ SqL X.K H l (ss.map V.bl) ∧ ys = [.bl b] ∧ Q (.int j) H) := by
    intro pins s1 σ H y ys v us Q I ry rys ⟨l, e1, hl, e2, q⟩
    subst e1 e2
    cases ry
    obtain ⟨u, rfl, ru⟩ := vals1 rys
    obtain ⟨its, r, ⟨ob, n, h1, h2, h3, h4⟩, hz⟩ := I.list hl
    obtain ⟨oc, od, odt, osl⟩ := ob
    simp only at h2 h3 h4
    subst h2 h3 h4
    have hlen : its.length = ss.length := by rw [← r.length, List.length_map]
    rw [List.length_map, sizeLine_eq] at hz
    have get : ∀ m (hm : m < its.toArray.size), its.toArray[m] = Value.bool (ss[m]'(by simpa [hlen] using hm)) := by
      intro m hm
      have hm2 : m < ss.length := by simpa [hlen] using hm
      obtain ⟨u2, eu, ru2⟩ := r.get (i := m) (x := V.bl ss[m]) (by simp [hm2])
      have ru2 : u2 = Value.bool ss[m] := ru2
      rw [← ru2]
      have hm3 : m < its.length := by rw [hlen]; exact hm2
      rw [List.getElem?_eq_getElem hm3] at eu
      simpa using Option.some.inj eu
    have hjs : j < its.toArray.size := by simpa [hlen] using hjl
    have ru' : u = Value.bool b := ru
    refine call_meets PySem.F.slot_list_index ⟨_, h1, rfl⟩ PySem.F.entry_list_index (PySem.F.args_list_index_2 _ _) (PySem.SeqAt.list_indexAt l its.toArray n none osl u (fun y => y == Value.bool b) j hjs (by omega) ?_ ?_)
      ⟨h1, fun y hy => ?_, ⟨.int j, H, I.tok _, ⟨_, rfl⟩, q⟩⟩
    · rw [get j hjs]
      have := (List.getElem?_eq_some_iff.mp hj).2
      simp [this]
    · intro m hm hlt
      rw [get m hm]
      have hm2 : m < ss.length := by simpa [hlen] using hm
      have hh := hno m hlt
      rw [List.getElem?_eq_getElem hm2] at hh
      simp
      intro c
      exact hh (by rw [c])
    · obtain ⟨m, hm, em⟩ := Array.getElem_of_mem hy
      rw [← em, get m hm]
      have rr : RelV (.bl (ss[m]'(by simpa [hlen] using hm))) (Value.bool (ss[m]'(by simpa [hlen] using hm))) := rfl
      have := eqAt_V (A := X.A.in1) (s := s1) rr ru rfl rfl
      rw [vbool_eq]
      simpa [eqV] using this
  refine (pe_bm PySem.F.plainAttrs_list PySem.F.slot_list_index PySem.F.type_list_index mr ho (av_cons he av_nil hs) hb hfew hline hs hpl).imp fun σ H Q ⟨h, q⟩ => ⟨h, fun v H1 s1 d1 => ?_⟩
  obtain ⟨l, us, rfl, hl, d2⟩ := d1.of_lst
  refine ⟨.inl ⟨rfl, us, hl⟩, h.mono s1, fun vs H2 s2 d3 => ?_⟩
  obtain ⟨v, rfl, dv⟩ := d3.one
  exact ⟨l, rfl, by rw [← d2.of_bls]; exact s2.seq hl, by rw [dv.of_bl], q _ H2 (s1.trans s2) (.int j)⟩
end
structure OI2 (K : PySem.W.Frag) (a C dx : Addr) (H0 : Hp) (n : Nat) (names : List Str) (fd : List (Str × PyData)) (σ : St) (G : Gam) (fs : List (Str × V)) (H : Hp) : Prop where
  oi : OI K a C dx H0 n fd σ G fs H
  no : ∀ g, g ∉ names → fs.lookup g = none
def tOI2 (K : PySem.W.Frag) (a C dx : Addr) (H0 : Hp) (G : Gam) (n : Nat) (names : List Str) (fd : List (Str × PyData)) (n' : Nat) (names' : List Str) (fd' : List (Str × PyData)) : TS := fun D σ H => (∃ fs, OI2 K a C dx H0 n names fd σ G fs H) ∧ ∀ fs' H', OI2 K a C dx H0 n' names' fd' σ G fs' H' → D.nx σ H'
theorem ne_all {fd : List (Str × PyData)} {names : List Str} {f : Str} (e : fd.map (·.1) = names) (h : names.all (fun x => !(x == f)) = true) : ∀ q ∈ fd, q.1 ≠ f := fun q hq c => by
  have h1 : q.1 ∈ names := e ▸ List.mem_map.mpr ⟨q, hq, rfl⟩
  rw [List.all_eq_true] at h
  have := h _ h1
  rw [c] at this
  simp at this
section
variable {X : Cx} {G : Gam} {e : Expr} {pos pos' pos2 : Pos} {x f : Str} {d : PyData}
theorem ps_fldD2 {a C dx : Addr} {H0 : Hp} {n : Nat} {names : List Str} {fd : List (Str × PyData)} (cl : Cls X.K C) (na : NoAttr X.K C f) (hv : PE X (.Name x pos2) (tVar 0)) (h : EV X G e d) (hn : n < 900) (hf : ∀ q ∈ fd, q.1 ≠ f)
    (hs : swapsWith e (some (.Attribute (.Name x pos2) f pos')) pos.line X.env = pure false := by rfl) : PS X (.Assign [.Attribute (.Name x pos2) f pos'] e pos) (tOI2 X.K a C dx H0 G n names fd (n + 1) (f :: names) ((f, d) :: fd)) := by
  intro pins s σ H D I ⟨⟨fs, oo⟩, q⟩
  have o := oo.oi
  refine ps_fld hv h hs pins s σ H D I ⟨o.sd, fun y H1 s1 d1 => ⟨.ref a, o.slot, a, C, dx, fs, rfl, s1 _ _ o.obj, cl, na, by have := o.few; omega, ?_⟩⟩
  have o1 := o.step s1
  have hne : ∀ b, b ≠ a → upd H1 a (.ins C dx (putF f y fs)) b = H1 b := fun b hb => upd_ne hb
  refine q _ _ ⟨⟨o.slot, upd_same, o1.sd.upIns o1.obj hne, fun b hb u e => (hne b hb).trans (o1.keep b hb u e), fun z hz => ?_, ?_⟩, fun g hg => ?_⟩
  · rcases List.mem_cons.mp hz with rfl | hz
    · exact ⟨y, by rw [lookup_putF, if_pos rfl], d1.upIns o1.obj hne⟩
    · obtain ⟨v, h1, h2⟩ := o1.flds z hz
      exact ⟨v, by rw [lookup_putF, if_neg (hf z hz)]; exact h1, h2.upIns o1.obj hne⟩
  · exact Nat.le_trans (length_putF _ _ _) (Nat.succ_le_succ o.few)
  · rw [lookup_putF, if_neg (fun c => hg (by rw [c]; exact List.mem_cons_self))]
    exact oo.no g fun c => hg (List.mem_cons_of_mem _ c)
theorem ps_exprD2 {a C dx : Addr} {H0 : Hp} {n : Nat} {names : List Str} {fd : List (Str × PyData)} (h : EV X G e d) (hs : swapsWith e none pos.line X.env = pure false := by rfl) : PS X (.Expr e pos) (tOI2 X.K a C dx H0 G n names fd n names fd) := by
  intro pins s σ H D I ⟨⟨fs, o⟩, q⟩
  exact ps_expr h hs pins s σ H D I ⟨o.oi.sd, fun v H' s' _ => q fs H' ⟨o.oi.step s', o.no⟩⟩
theorem ev_countB {o : Expr} {ss : List Bool} {b : Bool} {apos : Pos} (ho : EV X G o (.list (ss.map PyData.bool))) (he : EV X G e (.bool b))
    (hb : attributeBase o "count" X.env (eval o X.env) = eval o X.env := by rfl)
    (hfew : ((backTo pos (starEach [e] X.env)).all (fun x => !x.1) && (backToKw pos (keywordEach [] X.env)).all (fun x => x.1.isSome)
      && decide ([e].length + ([] : List Keyword).length + (if ([] : List Keyword).isEmpty then 0 else 1) < 30)) = true := by rfl)
    (hline : (apos.endLine == pos.line) = true := by rfl) (hs : starEach [e] X.env = (false, eval e X.env) :: starEach [] X.env := by rfl) (hpl : (backTo pos (starEach [] X.env)).any (·.1) = false := by rfl) :
    EV X G (.Call (.Attribute o "count" apos) [e] [] pos) (.int ((ss.countP fun z => z == b : Nat) : Int)) := by
  have mr : MtR X "list.count" (fun y ys H Q => ∃ l, y = .ref l ∧ SqL X.K H l (ss.map V.bl) ∧ ys = [.bl b] ∧ Q (.int ((ss.countP fun z => z == b : Nat) : Int)) H) := by
    intro pins s1 σ H y ys v us Q I ry rys ⟨l, e1, hl, e2, q⟩
    subst e1 e2
    cases ry
    obtain ⟨u, rfl, ru⟩ := vals1 rys
    obtain ⟨its, r, ⟨ob, n, h1, h2, h3, h4⟩, hz⟩ := I.list hl
    obtain ⟨oc, od, odt, osl⟩ := ob
    simp only at h2 h3 h4
    subst h2 h3 h4
    have ei : its = ss.map Value.bool := by
      have gen : ∀ (l : List Bool) (us : List Value), Vals (l.map V.bl) us → us = l.map Value.bool := by
        intro l
        induction l with
        | nil => intro us r; cases r; rfl
        | cons z l ih =>
          intro us r
          cases r with
          | cons r1 r2 =>
            have r1 : _ = Value.bool z := r1
            rw [r1, ih _ r2]
            rfl
      exact gen ss its r
    have ru' : u = Value.bool b := ru
    refine call_meets PySem.F.slot_list_count ⟨_, h1, rfl⟩ PySem.F.entry_list_count (PySem.F.args_list_count_2 _ _) (PySem.SeqAt.list_countAt l its.toArray n none osl u (fun y => y == Value.bool b)) ⟨h1, fun y hy => ?_, ?_⟩
    · have hy : y ∈ its := by simpa using hy
      rw [ei] at hy
      obtain ⟨z, _, rfl⟩ := List.mem_map.mp hy
      have rr : RelV (.bl z) (Value.bool z) := rfl
      have := eqAt_V (A := X.A.in1) (s := s1) rr ru rfl rfl
      rw [vbool_eq]
      simpa [eqV] using this
    · have ec : its.toArray.toList.countP (fun y => y == Value.bool b) = ss.countP fun z => z == b := by
        rw [List.toList_toArray, ei, List.countP_map]
        congr 1
        funext z
        exact vbool_eq z b
      rw [ec]
      exact ⟨.int _, H, I.tok _, ⟨_, rfl⟩, q⟩
  refine (pe_bm PySem.F.plainAttrs_list PySem.F.slot_list_count PySem.F.type_list_count mr ho (av_cons he av_nil hs) hb hfew hline hs hpl).imp fun σ H Q ⟨h, q⟩ => ⟨h, fun v H1 s1 d1 => ?_⟩
  obtain ⟨l, us, rfl, hl, d2⟩ := d1.of_lst
  refine ⟨.inl ⟨rfl, us, hl⟩, h.mono s1, fun vs H2 s2 d3 => ?_⟩
  obtain ⟨v, rfl, dv⟩ := d3.one
  exact ⟨l, rfl, by rw [← d2.of_bls]; exact s2.seq hl, by rw [dv.of_bl], q _ H2 (s1.trans s2) (.int _)⟩
end
section
variable {X : Cx} {G : Gam} {a e c : Expr} {da : PyData} {pos p p2 p3 p4 p5 p6 q1 q2 : Pos} {k : Bool}
theorem ev_isi4 {C D1 D2 D3 D4 : Addr} {x1 x2 x3 x4 : Str} {kt} (ha : EV X G a (excD C)) (hg : Gl X "isinstance") (hm : X.mg "isinstance" = none) (g1 : Gl X x1) (m1 : X.mg x1 = some (.ref D1)) (g2 : Gl X x2) (m2 : X.mg x2 = some (.ref D2)) (g3 : Gl X x3) (m3 : X.mg x3 = some (.ref D3)) (g4 : Gl X x4) (m4 : X.mg x4 = some (.ref D4))
    (e : PySem.W.kitAny X.K (.ref C) [.ref D1, .ref D2, .ref D3, .ref D4] = some k) (hX : ExcIsi X.K C) (b1 : (x1 == ("__debug__" : Str)) = false := by decide) (b2 : (x2 == ("__debug__" : Str)) = false := by decide) (b3 : (x3 == ("__debug__" : Str)) = false := by decide) (b4 : (x4 == ("__debug__" : Str)) = false := by decide)
    (hv : bootBuiltins "isinstance" = some (.builtin "isinstance") := by decide +kernel)
    (he : starEach [a, .Tuple [.Name x1 p2, .Name x2 p3, .Name x3 p4, .Name x4 p5] kt p6] X.env = (false, eval a X.env) :: starEach [.Tuple [.Name x1 p2, .Name x2 p3, .Name x3 p4, .Name x4 p5] kt p6] X.env := by rfl)
    (hpl : (backTo pos (starEach [.Tuple [.Name x1 p2, .Name x2 p3, .Name x3 p4, .Name x4 p5] kt p6] X.env)).any (·.1) = false := by rfl) :
    EV X G (.Call (.Name "isinstance" p) [a, .Tuple [.Name x1 p2, .Name x2 p3, .Name x3 p4, .Name x4 p5] kt p6] [] pos) (.bool k) := by
  have cr : CallR X (.builtin "isinstance") (fun xs H Q => ∃ v tp, xs = [v, .ref tp] ∧ DV X.K H v (excD C) ∧ H tp = some (.tup [.ref D1, .ref D2, .ref D3, .ref D4]) ∧ Q (.bl k) H) := by
    intro pins s σ H xs us Q I rs ⟨v, tp, ex, dv, ht, q⟩
    subst ex
    obtain ⟨u, w, rfl, ru, rw'⟩ := vals2 rs
    cases rw'
    obtain ⟨b, rfl, hb⟩ := dv.of_exc
    cases ru
    obtain ⟨its, rv, ⟨ob, h1, h2, n, h3⟩, _⟩ := I.tuple (SqT.of ht)
    obtain ⟨oc, od, odt, osl⟩ := ob
    simp only at h2 h3
    subst h2 h3
    have ei : its = [.ref D1, .ref D2, .ref D3, .ref D4] := by
      cases rv with
      | cons r1 t1 =>
      cases t1 with
      | cons r2 t2 =>
      cases t2 with
      | cons r3 t3 =>
      cases t3 with
      | cons r4 t4 =>
      cases t4
      have r1 : _ = Value.ref D1 := r1
      have r2 : _ = Value.ref D2 := r2
      have r3 : _ = Value.ref D3 := r3
      have r4 : _ = Value.ref D4 := r4
      rw [r1, r2, r3, r4]
    subst ei
    exact PySem.W.kia_tup (hX b _ fun h p => let ⟨o, _, h1, h2, _⟩ := p; ⟨o, h1, h2⟩) I.kIn (I.hok b _ hb).1 h1 e (fun z => nomatch z) fun tk => ⟨.bl k, H, I.tok tk, rfl, q⟩
  refine (pe_callB cr hg hm hv (pa_cons ha (pa_cons (pe_tup (pa_cons (pe_glob (v := .ref D1) g1 m1 rfl b1) (pa_cons (pe_glob (v := .ref D2) g2 m2 rfl b2) (pa_cons (pe_glob (v := .ref D3) g3 m3 rfl b3) (pa_cons (pe_glob (v := .ref D4) g4 m4 rfl b4) pa_nil star_name) star_name) star_name) star_name)) pa_nil star_tuple) he) (by decide) (by decide) he hpl).imp fun σ H Q ⟨h, q⟩ => ⟨h, fun v H1 s1 d1 => ?_⟩
  refine ⟨by show 4 ≤ sizeLine; rw [sizeLine_eq]; decide, fun tp hp => ⟨v, tp, rfl, d1.mono (Same.new hp), upd_same, q _ _ (s1.trans (Same.new hp)) (.bl k)⟩⟩
theorem svs_asgR {is : List Nat} {R : PyData → Prop} {tg : Expr} {sts : List Stmt} {o : Out} (h : EVR X G e R) (hg : PG X tg (gTup X.K is.length (gNames is))) (hR : ∀ d, R d → ∃ ds, d = .tuple ds ∧ is.length = ds.length) (h2 : ∀ ds, R (.tuple ds) → is.length = ds.length → SVs X (bindN is ds G) sts o)
    (hs : swapsWithSole [tg] e pos.line X.env = pure false := by rfl) (hw : swappedStores [tg] e X.env = pure none := by rfl) (h1 : (assignEach [tg] X.env).map (·.2) = [assign tg X.env] := by rfl) : SVs X G (.Assign [tg] e pos :: sts) o := by
  have hr : PSs X sts (fun D σ H => ∃ ds : List PyData, (R (.tuple ds) ∧ is.length = ds.length) ∧ tDS X.K (bindN is ds G) o D σ H) := fun pins s σ H D I ⟨ds, r, q⟩ => h2 ds r.1 r.2 pins s σ H D I q
  refine (pss_cons (ps_asg h hg hs hw h1) hr).imp fun D σ H ⟨h, q⟩ => ⟨h, fun d v H1 r s1 d1 => ?_⟩
  obtain ⟨ds, rfl, hl⟩ := hR d r
  refine (bindDT (k := 0) is ds hl).to v σ H1 G _ (h.mono s1) d1 fun σ2 h2 => ⟨ds, ⟨r, hl⟩, h2, ?_⟩
  cases o with
  | next G2 => exact fun σ3 H3 s3 h3 => q σ3 H3 (s1.trans s3) h3
  | ret d => exact fun v H3 s3 h3 => q v H3 (s1.trans s3) h3
theorem svs_ifSetR {i : Nat} {x : Str} {R : PyData → Prop} {sts : List Stmt} {o : Out} (hc : TV X G c true) (hN : X.N.Nodup) (hi : X.N[i]? = some x) (hx : Loc X.env.scope x) (h : EVR X G e R) (h2 : ∀ d, R d → SVs X (G.set i (some d)) sts o) (hs : swapsWith e (some (.Name x q1)) q2.line X.env = pure false := by rfl)
    (hf : X.fn x = true ∨ X.env.scope.names.lookup x = some .local := by first | exact .inl rfl | exact .inr rfl | assumption) : SVs X G (.If c [.Assign [.Name x q1] e q2] [] pos :: sts) o := by
  have hr : PSs X sts (fun D σ H => ∃ d, R d ∧ tDS X.K (G.set i (some d)) o D σ H) := fun pins s σ H D I ⟨d, r, q⟩ => h2 d r pins s σ H D I q
  refine (pss_cons (ps_if hc (pss_one (ps_set hN hi hx h hs hf)) (pss_never (sts := []))) hr).imp fun D σ H ⟨h, q⟩ => ⟨h, fun H0 s0 => iteT ⟨h.mono s0, fun d v H1 r s1 d1 => ⟨d, r, ((h.mono s0).mono s1).set d1, ?_⟩⟩⟩
  cases o with
  | next G2 => exact fun σ2 H2 s2 h2 => q σ2 H2 ((s0.trans s1).trans s2) h2
  | ret d => exact fun v H2 s2 h2 => q v H2 ((s0.trans s1).trans s2) h2
end
end L2
set_option maxRecDepth 100000
set_option maxHeartbeats 1000000
namespace My
open PySem L2
local macro_rules | `(tactic| walk_at "dn") => `(tactic| first | decide | omega)
local macro_rules | `(tactic| walk_at "od") => `(tactic| first
  | exact od_add | exact od_sub | exact od_xor | exact od_lt | exact od_le | exact od_gt | exact od_ge
  | exact od_mod (by walk_at "dn") | exact od_fdiv ⟨by walk_at "dn", by walk_at "dn"⟩
  | exact od_mul (by first | exact Or.inl ⟨by walk_at "dn", by walk_at "dn"⟩ | exact Or.inr ⟨by walk_at "dn", by walk_at "dn"⟩)
  | exact od_pow ⟨by decide, by decide, by decide⟩
  | exact od_catL (by walk_at "sz") | exact od_catT (by simp) (by walk_at "sz")
  | exact od_in (.inl rfl) (by rfl) (by rfl) (by rfl) | exact od_in (.inr rfl) (by rfl) (by rfl) (by rfl)
  | exact od_notIn (.inl rfl) (by rfl) (by rfl) (by rfl) | exact od_notIn (.inr rfl) (by rfl) (by rfl) (by rfl)
  | exact od_eq (by walk_at "un") (by walk_at "cl") (by walk_at "cl") (by walk_at "dp") (by rfl)
  | exact od_ne (by walk_at "un") (by walk_at "cl") (by walk_at "cl") (by walk_at "dp") (by rfl))
local macro_rules | `(tactic| walk_at "sz") => `(tactic| first | decide | (rw [sizeLine_eq]; decide) | (rw [sizeLine_eq]; simp; done) | (rw [sizeLine_eq]; simp; omega) | (rw [sizeLine_eq]; omega))
local macro_rules | `(tactic| walk_at "bf") => `(tactic| (intro h; first | rfl | cases h))
local macro_rules | `(tactic| walk_at "rm") => `(tactic| exact Room.mono (by assumption) (by decide))
local macro_rules | `(tactic| walk_at "un") => `(tactic| exact Room.units (by assumption))
local macro_rules | `(tactic| walk_at "cl") => `(tactic| first | rfl | decide +kernel | (simp [PyData.canLay0, PyData.canLayAll0]; done))
local macro_rules | `(tactic| walk_at "dp") => `(tactic| first | (simp [PyData.depth, PyData.depthAll]; done) | decide)
local macro_rules | `(tactic| walk_at "rg") => `(tactic| first | decide | omega)
local macro_rules | `(tactic| walk_at "at") => `(tactic| first | rfl | exact atI_of (by walk_at "dn") (by rfl) | exact at_ints (by walk_at "dn") (by walk_at "dn"))
local macro_rules | `(tactic| walk_at "cd") => `(tactic| first | exact cd_lenL | exact cd_lenT | exact cd_lenS (by decide) | exact cd_all rfl | exact cd_tupleL | exact cd_listL | exact cd_listT | exact cd_intB | exact cd_max rfl | exact cd_min rfl | exact cd_sum rfl)
local macro_rules | `(tactic| walk_at "fn") => `(tactic| first | exact ⟨_, rfl, rfl⟩ | exact ⟨_, _, rfl, rfl⟩ | exact ⟨_, _, _, rfl, rfl⟩)
def top (i : Nat) : Stmt := PySem.Challenge.pw_likewise_k07_pages_refused.main.body.getD i (.Pass ⟨0, 0, 0, 0⟩)
abbrev s_is_below : Stmt := top 10
abbrev s_is_word : Stmt := top 11
abbrev s_check_pages : Stmt := top 14
abbrev s_are_words : Stmt := top 15
abbrev s_check_state : Stmt := top 16
abbrev s_law_numbers : Stmt := top 40
abbrev s_law_spoilt : Stmt := top 41
abbrev s_law_drawn : Stmt := top 42
abbrev s_law_word : Stmt := top 43
abbrev s_law_holds : Stmt := top 44
abbrev s_law : Stmt := top 45
theorem sc_is_below : FnScope ["thing", "bound"] ["thing", "bound"] (defScope s_is_below) := ⟨rfl, rfl, rfl, by decide +kernel, rfl, by decide +kernel, by decide +kernel⟩
theorem sc_is_word : FnScope ["thing"] ["thing"] (defScope s_is_word) := ⟨rfl, rfl, rfl, by decide +kernel, rfl, by decide +kernel, by decide +kernel⟩
theorem sc_check_pages : FnScope ["pages"] ["pages"] (defScope s_check_pages) := ⟨rfl, rfl, rfl, by decide +kernel, rfl, by decide +kernel, by decide +kernel⟩
theorem sc_are_words : FnScope ["things", "many"] ["things", "many"] (defScope s_are_words) := ⟨rfl, rfl, rfl, by decide +kernel, rfl, by decide +kernel, by decide +kernel⟩
theorem sc_check_state : FnScope ["pages", "cells", "boxes", "place"] ["pages", "cells", "boxes", "place"] (defScope s_check_state) := ⟨rfl, rfl, rfl, by decide +kernel, rfl, by decide +kernel, by decide +kernel⟩
theorem sc_law_numbers : FnScope ["script", "at", "many", "cells", "found", "cell", "rest", "turn", "k", "near"] ["script", "at", "many"] (defScope s_law_numbers) := ⟨rfl, rfl, rfl, by decide +kernel, rfl, by decide +kernel, by decide +kernel⟩
theorem sc_law_spoilt : FnScope ["words", "numbers", "how", "at", "odd"] ["words", "numbers"] (defScope s_law_spoilt) := ⟨rfl, rfl, rfl, by decide +kernel, rfl, by decide +kernel, by decide +kernel⟩
theorem sc_law_drawn : FnScope ["numbers", "many", "pages", "cells", "boxes"] ["numbers"] (defScope s_law_drawn) := ⟨rfl, rfl, rfl, by decide +kernel, rfl, by decide +kernel, by decide +kernel⟩
theorem sc_law_word : FnScope ["which", "pages", "cells", "boxes", "place", "told", "e", "kinds"] ["which", "pages", "cells", "boxes", "place"] (defScope s_law_word) := ⟨rfl, rfl, rfl, by decide +kernel, rfl, by decide +kernel, by decide +kernel⟩
theorem sc_law_holds : FnScope ["numbers", "pages", "cells", "boxes", "place", "faults", "handed", "due", "which"] ["numbers"] (defScope s_law_holds) := ⟨rfl, rfl, rfl, by decide +kernel, rfl, by decide +kernel, by decide +kernel⟩
theorem sc_law : FnScope ["script", "k"] ["script"] (defScope s_law) := ⟨rfl, rfl, rfl, by decide +kernel, rfl, by decide +kernel, by decide +kernel⟩
abbrev s_Machine_init : Stmt := inClass (top 38) 0
theorem sc_Machine_init : FnScope ["self", "pages", "cells", "boxes", "place"] ["self", "pages", "cells", "boxes", "place"] (defScope s_Machine_init) := ⟨rfl, rfl, rfl, by decide +kernel, rfl, by decide +kernel, by decide +kernel⟩
abbrev s_Machine_done : Stmt := inClass (top 38) 8
theorem sc_Machine_done : FnScope ["self"] ["self"] (defScope s_Machine_done) := ⟨rfl, rfl, rfl, by decide +kernel, rfl, by decide +kernel, by decide +kernel⟩
structure Txt (mg : Str → Option Value) : Prop where
  b_len : mg "len" = none
  b_isinstance : mg "isinstance" = none
  b_int : mg "int" = none
  b_bool : mg "bool" = none
  b_all : mg "all" = none
  b_list : mg "list" = none
  b_range : mg "range" = none
  b_max : mg "max" = none
  b_min : mg "min" = none
  b_tuple : mg "tuple" = none
  b_ValueError : mg "ValueError" = none
  c_page_cells : ∃ t, mg "PAGE_CELLS" = some (.int 16 t)
theorem Txt.g_page_cells {X : Cx} {G : Gam} {pos : Pos} (T : Txt X.mg) (hg : Gl X "PAGE_CELLS") : EV X G (.Name "PAGE_CELLS" pos) (.int 16) := by
  obtain ⟨t, h⟩ := T.c_page_cells
  exact ev_globI hg h
section
variable {P : Program} {w : World} {K : PySem.W.Frag} {mg : Str → Option Value} {base : Heap}
def belowB : PyData → Int → Bool
  | .int i, b => decide (0 ≤ i) && decide (i < b)
  | _, _ => false
def noDct : PyData → Bool
  | .dict _ => false
  | _ => true
def F_is_below (ds : List PyData) (d : PyData) : Prop := ∃ t b, noDct t = true ∧ ds = [t, .int b] ∧ d = .bool (belowB t b)
theorem d_is_below (T : Txt mg) {f : Addr} {fd : FuncData} (F : Fun K "is_below" "is_below" s_is_below f fd) (hm : mg "is_below" = some (.ref f)) : DFn P w K mg base 1 "is_below" F_is_below := by
  refine F.data hm (F.binds fun _ _ _ _ _ _ us hl => match us, hl with | [_, _], _ => rfl) sc_is_below (fun ds d ⟨t, b, _, e, _⟩ => by rw [e]; rfl) fun cdv A outer s H E ds d hr ⟨t, b, hnd, e, e2⟩ => ?_
  subst e e2
  cases t with
  | int i => exact svs_ret (sv_ret (ev_and (ev_isi (n := "int") (ev_var 0 (by rfl) (pv 0)) rfl T.b_isinstance rfl T.b_int (by decide +kernel) (by rfl)) (fun _ => (ev_and (ev_not (ev_isi (n := "bool") (ev_var 0 (by rfl) (pv 0)) rfl T.b_isinstance rfl T.b_bool (by decide +kernel) (by rfl))) (fun _ => (ev_one (ev_chain2 ev_int (ev_var 0 (by rfl) (pv 0)) (by walk_at "od") (ev_var 1 (by rfl) (pv 1)) (by walk_at "od")))) (by walk_at "bf"))) (by walk_at "bf")))
  | bool i => exact svs_ret (sv_ret (ev_and (ev_isi (n := "int") (ev_var 0 (by rfl) (pv 0)) rfl T.b_isinstance rfl T.b_int (by decide +kernel) (by rfl)) (fun _ => ev_and (ev_not (ev_isi (n := "bool") (ev_var 0 (by rfl) (pv 0)) rfl T.b_isinstance rfl T.b_bool (by decide +kernel) (by rfl))) (fun h => by cases h) (fun _ => rfl)) (fun _ => rfl)))
  | none => exact svs_ret (sv_ret (ev_and (ev_isi (n := "int") (ev_var 0 (by rfl) (pv 0)) rfl T.b_isinstance rfl T.b_int (by decide +kernel) (by rfl)) (fun h => by cases h) (fun _ => rfl)))
  | str x => exact svs_ret (sv_ret (ev_and (ev_isi (n := "int") (ev_var 0 (by rfl) (pv 0)) rfl T.b_isinstance rfl T.b_int (by decide +kernel) (by rfl)) (fun h => by cases h) (fun _ => rfl)))
  | list x => exact svs_ret (sv_ret (ev_and (ev_isi (n := "int") (ev_var 0 (by rfl) (pv 0)) rfl T.b_isinstance rfl T.b_int (by decide +kernel) (by rfl)) (fun h => by cases h) (fun _ => rfl)))
  | tuple x => exact svs_ret (sv_ret (ev_and (ev_isi (n := "int") (ev_var 0 (by rfl) (pv 0)) rfl T.b_isinstance rfl T.b_int (by decide +kernel) (by rfl)) (fun h => by cases h) (fun _ => rfl)))
  | dict x => cases hnd
def F_is_word (ds : List PyData) (d : PyData) : Prop := ∃ t, noDct t = true ∧ ds = [t] ∧ d = .bool (belowB t 4096)
theorem d_is_word {f : Addr} {fd : FuncData} (D_is_below : DFn P w K mg base 1 "is_below" F_is_below) (F : Fun K "is_word" "is_word" s_is_word f fd) (hm : mg "is_word" = some (.ref f)) : DFn P w K mg base 2 "is_word" F_is_word := by
  refine F.data hm (F.binds fun _ _ _ _ _ _ us hl => match us, hl with | [_], _ => rfl) sc_is_word (fun ds d ⟨_, _, e, _⟩ => by rw [e]; rfl) fun cdv A outer s H E ds d hr ⟨t, hnd, e, e2⟩ => ?_
  subst e e2
  exact svs_ret (sv_ret (ev_call D_is_below (by walk_at "rm") rfl (av_cons (ev_var 0 (by rfl) (pv 0)) (av_cons ev_int av_nil)) ⟨_, _, hnd, rfl, rfl⟩))
def numOk (many : Nat) (d : PyData) : Prop := ∃ rs : List Int, rs.length = many ∧ (∀ r ∈ rs, 0 ≤ r ∧ r < 1000000) ∧ d = .list (rs.map .int)
def numPre (ds : List PyData) : Prop := ∃ (ns : List Int) (a : Int) (many : Nat), ns.length ≤ 63 ∧ many ≤ 1000 ∧ ds = [.list (ns.map .int), .int a, .int many]
def numF (ds : List PyData) (d : PyData) : Prop := ∃ (s a : PyData) (many : Nat), ds = [s, a, .int many] ∧ numOk many d
theorem cutD_map {α : Type} (f : α → PyData) (l : List α) (o u : Option Int) : ∃ c : List α, c.length ≤ l.length ∧ cutD (l.map f) o u = c.map f := by
  refine ⟨(l.drop (HT.sIx l.length 0 o)).take (HT.sIx l.length l.length u - HT.sIx l.length 0 o), by rw [List.length_take, List.length_drop]; omega, ?_⟩
  unfold cutD
  rw [List.length_map, List.map_take, List.map_drop]
def someInts (lo hi : Int) (ds : List PyData) (n : Nat) : Prop := ∃ rs : List Int, rs.length = n ∧ (∀ r ∈ rs, lo ≤ r ∧ r < hi) ∧ ds = rs.map PyData.int
theorem someInts.snoc {lo hi r : Int} {ds : List PyData} {n : Nat} (h : someInts lo hi ds n) (h1 : lo ≤ r) (h2 : r < hi) : someInts lo hi (ds ++ [.int r]) (n + 1) := by
  obtain ⟨rs, e1, e2, e3⟩ := h
  refine ⟨rs ++ [r], by simp [e1], fun x hx => ?_, by simp [e3]⟩
  rcases List.mem_append.mp hx with z | z
  · exact e2 x z
  · have := List.mem_singleton.mp z
    subst this
    exact ⟨h1, h2⟩
theorem someInts.len {lo hi : Int} {ds : List PyData} {n : Nat} (h : someInts lo hi ds n) : ds.length = n := by
  obtain ⟨rs, e1, e2, e3⟩ := h
  rw [e3, List.length_map, e1]
theorem sqr_bound {k : Int} (h0 : 0 ≤ k) (h1 : k ≤ 1000) : 0 ≤ 1009 * k * k ∧ 1009 * k * k ≤ 1009000000 := by
  have a : 0 ≤ 1009 * k := by omega
  have b : 1009 * k ≤ 1009000 := by omega
  refine ⟨Int.mul_nonneg a h0, ?_⟩
  have c : 1009 * k * k ≤ 1009000 * 1000 := Int.mul_le_mul b h1 h0 (by decide)
  exact c
def GN (s a : Option PyData) (many : Nat) (zs : List Int) (G : Gam) (c r t k n : Option PyData) : Prop := G = [s, a, some (.int many), some (.list (zs.map PyData.int)), none, c, r, t, k, n]
theorem r_law_numbers (T : Txt mg) {f : Addr} {fd : FuncData} (F : Fun K "_law_numbers" "_law_numbers" s_law_numbers f fd) (hm : mg "_law_numbers" = some (.ref f)) : RFn P w K mg base 1 "_law_numbers" numF numPre := by
  refine F.dataR hm (F.binds fun _ _ _ _ _ _ us hl => match us, hl with | [_, _, _], _ => rfl) sc_law_numbers (fun ds ⟨ns, a, many, _, _, e⟩ => by rw [e]; rfl) fun cdv A outer s H E ds hr ⟨ns, a, many, hns, hmany, e⟩ => ?_
  subst e
  obtain ⟨cs, hcs, ecs⟩ := cutD_map PyData.int ns (some a) none
  refine rvs_cons (sv_setComp (ix := []) (N := ["cell"]) (B := bind1) (as := cs) (D := PyData.int) (fun _ => true) (fun z => PyData.int (z % 10 ^ 60)) rfl sc_law_numbers.nd (i := 3) rfl rfl (of_decide_eq_true (by kernel_rfl)) (own_name (by decide))
    (iv_list (ev_eq (by first | exact ev_slL (ev_var 0 (by rfl) (pv 0)) (ov_some (ev_var 1 (by rfl) (pv 1))) ov_none | exact ev_slT (ev_var 0 (by rfl) (pv 0)) (ov_some (ev_var 1 (by rfl) (pv 1))) ov_none (by walk_at "sl")) (congrArg PyData.list ecs))) (by rw [sizeLine_eq]; omega) (fun _ _ => bindD1 _) (fun _ _ _ _ _ => pg_name (i := 0) (show List.Nodup (["cell"] : List Str) by decide +kernel) rfl (Or.inl rfl)) (fun a ha cl C s H fp => pf_D0)
    (fun a ha hP cl C s H fp => (ev_bin (ev_var 0 (by rfl) (pv 0)) (ev_bin ev_int ev_int (by walk_at "od")) (by walk_at "od")))) ?_
  rw [filter_true]
  have ez : cs.map (fun z => PyData.int (z % 10 ^ 60)) = (cs.map fun z => z % 10 ^ 60).map PyData.int := by rw [List.map_map]; rfl
  rw [ez]
  have hzl : (cs.map fun z => z % 10 ^ 60).length ≤ 63 := by rw [List.length_map]; omega
  generalize (cs.map fun z => z % 10 ^ 60) = zs at hzl
  refine rvs_own (i := 4) sc_law_numbers.nd rfl (Or.inl rfl) (by simp [startG]) fun H0 p => ?_
  refine hrs_cons (Mid := fun G ds => ∃ c r t k n m, GN (some (.list (ns.map PyData.int))) (some (.int a)) many zs G c r t k n ∧ m ≤ many ∧ someInts 0 1000000 ds m) ?_ ?_
  ·
    refine ht_if (PreA := fun G ds => GN (some (.list (ns.map PyData.int))) (some (.int a)) many zs G none none none none none ∧ ds = []) (PreB := fun G ds => GN (some (.list (ns.map PyData.int))) (some (.int a)) many zs G none none none none none ∧ ds = []) ?_ ?_ (hts_nil ?_)
    · rintro G ds ⟨rfl, rfl⟩
      cases zs with
      | nil => exact .inr ⟨tv_eq (tv_w (wv_and (k' := false) (tv_cmp (ev_callB2 "len" (av_cons (ev_var 3 (by rfl) (pv 3)) av_nil) (by walk_at "cd") rfl T.b_len (by decide +kernel)) ev_int (by walk_at "od") (nomark _)) (fun h => by simp at h))) (by simp), rfl, rfl⟩
      | cons z zs =>
        cases hq : (z % 2 == 0) with
        | true => exact .inl ⟨tv_eq (tv_w (wv_and (tv_cmp (ev_callB2 "len" (av_cons (ev_var 3 (by rfl) (pv 3)) av_nil) (by walk_at "cd") rfl T.b_len (by decide +kernel)) ev_int (by walk_at "od") (nomark _)) (fun _ => (wv_and1 (tv_cmp (ev_bin (by first | exact ev_ixL (ev_var 3 (by rfl) (pv 3)) ev_int (by walk_at "at") | exact ev_ixT (ev_var 3 (by rfl) (pv 3)) ev_int (by walk_at "at")) ev_int (by walk_at "od")) ev_int (by walk_at "od") (nomark _)))))) (by rw [show (PyData.int (z % 2)).eqv (.int 0) = (z % 2 == 0) from rfl, hq]; simp), rfl, rfl⟩
        | false => exact .inr ⟨tv_eq (tv_w (wv_and (tv_cmp (ev_callB2 "len" (av_cons (ev_var 3 (by rfl) (pv 3)) av_nil) (by walk_at "cd") rfl T.b_len (by decide +kernel)) ev_int (by walk_at "od") (nomark _)) (fun _ => (wv_and1 (tv_cmp (ev_bin (by first | exact ev_ixL (ev_var 3 (by rfl) (pv 3)) ev_int (by walk_at "at") | exact ev_ixT (ev_var 3 (by rfl) (pv 3)) ev_int (by walk_at "at")) ev_int (by walk_at "od")) ev_int (by walk_at "od") (nomark _)))))) (by rw [show (PyData.int (z % 2)).eqv (.int 0) = (z % 2 == 0) from rfl, hq]; simp), rfl, rfl⟩
    ·
      refine hts_cons (Mid := fun G ds => ∃ c r t k n m, GN (some (.list (ns.map PyData.int))) (some (.int a)) many zs G c r t k n ∧ m ≤ many ∧ someInts 0 1000000 ds m) ?_ (hts_nil fun _ _ h => h)
      refine ht_forL (j := 5) (m := 3) (xs := zs.map PyData.int) (fun _ G ds => ∃ c r t k n m, GN (some (.list (ns.map PyData.int))) (some (.int a)) many zs G c r t k n ∧ m ≤ many ∧ someInts 0 1000000 ds m) PassesOwn.never rfl (by decide) (pg_name (i := 5) sc_law_numbers.nd rfl (Or.inl rfl)) (pv 3) ?_ ?_ fun _ _ h => h
      · rintro G ds ⟨rfl, rfl⟩
        exact ⟨⟨_, _, _, _, _, 0, rfl, Nat.zero_le _, [], rfl, by simp, rfl⟩, rfl⟩
      · intro H1 i d hd
        obtain ⟨z, rfl⟩ : ∃ z, d = PyData.int z := by
          rw [List.getElem?_map] at hd
          cases q : zs[i]? with
          | none => rw [q] at hd; cases hd
          | some z => rw [q] at hd; exact ⟨z, (Option.some.inj hd).symm⟩
        refine hts_cons (Mid := fun G ds => ∃ r t k n m, GN (some (.list (ns.map PyData.int))) (some (.int a)) many zs G (some (.int z)) (some (.int r)) t k n ∧ m ≤ many ∧ someInts 0 1000000 ds m) (ht_set (j := 6) sc_law_numbers.nd rfl (by decide) (Or.inl rfl) ?_) ?_
        · rintro G ds ⟨G', ⟨c, r, t, k, n, m, rfl, hm, hd⟩, rfl⟩
          exact ⟨_, (ev_bin (ev_var 5 (by rfl) (pv 5)) ev_int (by walk_at "od")), rfl, _, _, _, _, m, rfl, hm, hd⟩
        · refine hts_cons (Mid := fun G ds => ∃ c r t k n m, GN (some (.list (ns.map PyData.int))) (some (.int a)) many zs G c r t k n ∧ m ≤ many ∧ someInts 0 1000000 ds m) ?_ (hts_nil fun _ _ h => h)
          refine ht_forR (j := 7) (lo := 0) (n := (10 : Int).toNat) (fun _ G ds => ∃ r t k n m, GN (some (.list (ns.map PyData.int))) (some (.int a)) many zs G (some (.int z)) (some (.int r)) t k n ∧ m ≤ many ∧ someInts 0 1000000 ds m) PassesOwn.never rfl (by decide) (pg_name (i := 7) sc_law_numbers.nd rfl (Or.inl rfl)) ?_ ?_ ?_
          · rintro G ds ⟨r, t, k, n, m, rfl, hm, hd⟩
            exact ⟨⟨r, t, k, n, m, rfl, hm, hd⟩, pi_r1 ev_int (by decide) (by decide) rfl T.b_range⟩
          · intro j hj
            refine hts_cons (Mid := fun G ds => ∃ r t k n m, GN (some (.list (ns.map PyData.int))) (some (.int a)) many zs G (some (.int z)) (some (.int r)) t k n ∧ m ≤ many ∧ someInts 0 1000000 ds m) ?_ (hts_nil fun _ _ h => h)
            refine ht_if (PreA := fun G ds => ∃ r t k n m, GN (some (.list (ns.map PyData.int))) (some (.int a)) many zs G (some (.int z)) (some (.int r)) t k n ∧ m < many ∧ someInts 0 1000000 ds m) (PreB := fun G ds => ∃ r t k n m, GN (some (.list (ns.map PyData.int))) (some (.int a)) many zs G (some (.int z)) (some (.int r)) t k n ∧ m ≤ many ∧ someInts 0 1000000 ds m) ?_ ?_ (hts_nil fun _ _ h => h)
            · rintro G ds ⟨G', ⟨r, t, k, n, m, rfl, hm, hd⟩, rfl⟩
              have hl := hd.len
              by_cases hlt : m < many
              · by_cases hor : (0 : Int) + (j : Nat) = 0 ∨ 0 < r
                · exact .inl ⟨tv_eq (tv_w (wv_and (tv_cmp (ev_callB2 "len" (av_cons (ev_var 4 (by rfl) (pv 4)) av_nil) (by walk_at "cd") rfl T.b_len (by decide +kernel)) (ev_var 2 (by rfl) (pv 2)) (by walk_at "od") (nomark _)) (fun _ => (wv_and1 (tv_w (wv_or (tv_cmp (ev_var 7 (by rfl) (pv 7)) ev_int (by walk_at "od") (nomark _)) (fun _ => (wv_or1 (tv_cmp (ev_var 6 (by rfl) (pv 6)) ev_int (by walk_at "od") (nomark _)))))))))) (by
                    rw [show (PyData.int (0 + (j : Nat))).eqv (.int 0) = ((0 : Int) + (j : Nat) == 0) from rfl]
                    have e1 : decide ((ds.length : Int) < (many : Nat)) = true := by simp; omega
                    rw [e1]
                    rcases hor with z | z
                    · rw [z]; rfl
                    · rw [decide_eq_true z]; simp), _, _, _, _, m, rfl, hlt, hd⟩
                · exact .inr ⟨tv_eq (tv_w (wv_and (tv_cmp (ev_callB2 "len" (av_cons (ev_var 4 (by rfl) (pv 4)) av_nil) (by walk_at "cd") rfl T.b_len (by decide +kernel)) (ev_var 2 (by rfl) (pv 2)) (by walk_at "od") (nomark _)) (fun _ => (wv_and1 (tv_w (wv_or (tv_cmp (ev_var 7 (by rfl) (pv 7)) ev_int (by walk_at "od") (nomark _)) (fun _ => (wv_or1 (tv_cmp (ev_var 6 (by rfl) (pv 6)) ev_int (by walk_at "od") (nomark _)))))))))) (by
                    rw [show (PyData.int (0 + (j : Nat))).eqv (.int 0) = ((0 : Int) + (j : Nat) == 0) from rfl]
                    have e1 : ((0 : Int) + (j : Nat) == 0) = false := by simp; omega
                    have e2 : decide (0 < r) = false := by simp; omega
                    rw [e1, e2]; simp), _, _, _, _, m, rfl, hm, hd⟩
              · exact .inr ⟨tv_eq (tv_w (wv_and (k' := false) (tv_cmp (ev_callB2 "len" (av_cons (ev_var 4 (by rfl) (pv 4)) av_nil) (by walk_at "cd") rfl T.b_len (by decide +kernel)) (ev_var 2 (by rfl) (pv 2)) (by walk_at "od") (nomark _)) (fun h => by simp at h; omega))) (by simp), _, _, _, _, m, rfl, hm, hd⟩
            ·
              refine hts_cons (Mid := fun G ds => ∃ r t k n m, GN (some (.list (ns.map PyData.int))) (some (.int a)) many zs G (some (.int z)) (some (.int r)) t k n ∧ m ≤ many ∧ someInts 0 1000000 ds m) (ht_append ?_ (pv 4)) (hts_cons (ht_set (j := 6) sc_law_numbers.nd rfl (by decide) (Or.inl rfl) ?_) (hts_nil fun _ _ h => h))
              · rintro G ds ⟨r, t, k, n, m, rfl, hlt, hd⟩
                have hl := hd.len
                exact ⟨.int (r % 1000000), ev_eq (ev_bin (ev_var 6 (by rfl) (pv 6)) (ev_bin ev_int ev_int (by walk_at "od")) (by walk_at "od")) rfl, rfl, by rw [hl, sizeLine_eq]; omega, _, _, _, _, m + 1, rfl, hlt, hd.snoc (by omega) (by omega)⟩
              · rintro G ds ⟨r, t, k, n, m, rfl, hm, hd⟩
                exact ⟨_, (ev_bin (ev_var 6 (by rfl) (pv 6)) (ev_bin ev_int ev_int (by walk_at "od")) (by walk_at "od")), rfl, _, _, _, _, m, rfl, hm, hd⟩
          · rintro G ds ⟨r, t, k, n, m, h, hm, hd⟩
            exact ⟨_, _, _, _, _, m, h, hm, hd⟩
    · rintro G ds ⟨rfl, rfl⟩
      exact ⟨_, _, _, _, _, 0, rfl, Nat.zero_le _, [], rfl, by simp, rfl⟩
  ·
    refine hrs_cons (Mid := fun G ds => someInts 0 1000000 ds many) ?_ (hrs_ret (pv 4) fun G ds ⟨rs, h1, h2, h3⟩ => ⟨_, _, many, rfl, rs, h1, h2, congrArg PyData.list h3⟩)
    refine ht_ex (Pr := fun (q : Option PyData × Option PyData × Option PyData × Option PyData × Option PyData × Nat) G ds => GN (some (.list (ns.map PyData.int))) (some (.int a)) many zs G q.1 q.2.1 q.2.2.1 q.2.2.2.1 q.2.2.2.2.1 ∧ q.2.2.2.2.2 ≤ many ∧ someInts 0 1000000 ds q.2.2.2.2.2) ?_ |>.imp fun D σ H ⟨⟨G, ds, ⟨c, r, t, k, n, m, h⟩, o⟩, q⟩ => ⟨⟨G, ds, ⟨(c, r, t, k, n, m), h⟩, o⟩, q⟩
    rintro ⟨c, r, t, k, n, m⟩
    refine ht_forR (j := 8) (lo := m) (n := ((many : Int) - (m : Int)).toNat) (fun i G ds => (∃ c r t k n, GN (some (.list (ns.map PyData.int))) (some (.int a)) many zs G c r t k n) ∧ m ≤ many ∧ someInts 0 1000000 ds (m + i)) PassesOwn.never rfl (by decide) (pg_name (i := 8) sc_law_numbers.nd rfl (Or.inl rfl)) ?_ ?_ ?_
    · rintro G ds ⟨rfl, hm, hd⟩
      have hm : m ≤ many := hm
      have hl : ds.length = m := hd.len
      refine ⟨⟨⟨_, _, _, _, _, rfl⟩, hm, hd⟩, ?_⟩
      exact pi_r2 (m := (m : Int)) (n := (many : Int)) (ev_eq (ev_callB2 "len" (av_cons (ev_var 4 (by rfl) (pv 4)) av_nil) (by walk_at "cd") rfl T.b_len (by decide +kernel)) (by rw [hl])) (ev_var 2 (by rfl) (pv 2)) ⟨by omega, by omega, by omega, by omega⟩ rfl T.b_range
    · intro i hi
      refine hts_cons (Mid := fun G ds => (∃ c r t v, GN (some (.list (ns.map PyData.int))) (some (.int a)) many zs G c r t (some (.int ((m : Int) + (i : Nat)))) (some (.int v)) ∧ 0 ≤ v ∧ v ≤ 1009008000) ∧ m ≤ many ∧ someInts 0 1000000 ds (m + i)) (ht_set (j := 9) sc_law_numbers.nd rfl (by decide) (Or.inl rfl) ?_) ?_
      · rintro G ds ⟨G', ⟨⟨c, r, t, k, n, rfl⟩, hm, hd⟩, rfl⟩
        have hk0 : 0 ≤ (m : Int) + (i : Nat) := by omega
        have hk1 : (m : Int) + (i : Nat) ≤ 1000 := by omega
        obtain ⟨q0, q1⟩ := sqr_bound hk0 hk1
        exact ⟨_, (ev_bin (ev_bin (ev_bin (ev_bin ev_int (ev_var 8 (by rfl) (pv 8)) (by walk_at "od")) (ev_var 8 (by rfl) (pv 8)) (by walk_at "od")) (ev_bin ev_int (ev_var 8 (by rfl) (pv 8)) (by walk_at "od")) (by walk_at "od")) ev_int (by walk_at "od")), rfl, ⟨_, _, _, _, rfl, by omega, by omega⟩, hm, hd⟩
      refine hts_cons (Mid := fun G ds => (∃ c r t v, GN (some (.list (ns.map PyData.int))) (some (.int a)) many zs G c r t (some (.int ((m : Int) + (i : Nat)))) (some (.int v)) ∧ 0 ≤ v ∧ v ≤ 4000000000) ∧ m ≤ many ∧ someInts 0 1000000 ds (m + i)) ?_ ?_
      · refine ht_if (PreA := fun G ds => 0 < zs.length ∧ (∃ c r t v, GN (some (.list (ns.map PyData.int))) (some (.int a)) many zs G c r t (some (.int ((m : Int) + (i : Nat)))) (some (.int v)) ∧ 0 ≤ v ∧ v ≤ 1009008000) ∧ m ≤ many ∧ someInts 0 1000000 ds (m + i)) (PreB := fun G ds => (∃ c r t v, GN (some (.list (ns.map PyData.int))) (some (.int a)) many zs G c r t (some (.int ((m : Int) + (i : Nat)))) (some (.int v)) ∧ 0 ≤ v ∧ v ≤ 1009008000) ∧ m ≤ many ∧ someInts 0 1000000 ds (m + i)) ?_ ?_ (hts_nil ?_)
        · rintro G ds ⟨⟨c, r, t, v, rfl, h1, h2⟩, hm, hd⟩
          by_cases hz : 0 < zs.length
          · exact .inl ⟨tv_eq (tv_cmp (ev_callB2 "len" (av_cons (ev_var 3 (by rfl) (pv 3)) av_nil) (by walk_at "cd") rfl T.b_len (by decide +kernel)) ev_int (by walk_at "od") (nomark _)) (by simp; omega), hz, ⟨_, _, _, _, rfl, h1, h2⟩, hm, hd⟩
          · exact .inr ⟨tv_eq (tv_cmp (ev_callB2 "len" (av_cons (ev_var 3 (by rfl) (pv 3)) av_nil) (by walk_at "cd") rfl T.b_len (by decide +kernel)) ev_int (by walk_at "od") (nomark _)) (by simp; exact List.eq_nil_of_length_eq_zero (by omega)), ⟨_, _, _, _, rfl, h1, h2⟩, hm, hd⟩
        · refine hts_cons (ht_set (j := 9) sc_law_numbers.nd rfl (by decide) (Or.inl rfl) ?_) (hts_nil fun _ _ h => h)
          rintro G ds ⟨hz, ⟨c, r, t, v, rfl, h1, h2⟩, hm, hd⟩
          have hlm : ((List.map PyData.int zs).length : Int) = zs.length := by rw [List.length_map]
          have hp : 0 < ((List.map PyData.int zs).length : Int) := by omega
          have hi0 : 0 ≤ ((m : Int) + (i : Nat)) % ((List.map PyData.int zs).length : Int) := Int.emod_nonneg _ (by omega)
          have hi1 : ((m : Int) + (i : Nat)) % ((List.map PyData.int zs).length : Int) < zs.length := by rw [← hlm]; exact Int.emod_lt_of_pos _ hp
          have hz' : (0 : Int) < zs.length := by omega
          exact ⟨_, (ev_bin (ev_bin (ev_var 9 (by rfl) (pv 9)) (ev_bin (by first | exact ev_ixL (ev_var 3 (by rfl) (pv 3)) (ev_bin (ev_var 8 (by rfl) (pv 8)) (ev_callB2 "len" (av_cons (ev_var 3 (by rfl) (pv 3)) av_nil) (by walk_at "cd") rfl T.b_len (by decide +kernel)) (by walk_at "od")) (by walk_at "at") | exact ev_ixT (ev_var 3 (by rfl) (pv 3)) (ev_bin (ev_var 8 (by rfl) (pv 8)) (ev_callB2 "len" (av_cons (ev_var 3 (by rfl) (pv 3)) av_nil) (by walk_at "cd") rfl T.b_len (by decide +kernel)) (by walk_at "od")) (by walk_at "at")) ev_int (by walk_at "od")) (by walk_at "od")) (ev_bin (by first | exact ev_ixL (ev_var 3 (by rfl) (pv 3)) ev_int (by walk_at "at") | exact ev_ixT (ev_var 3 (by rfl) (pv 3)) ev_int (by walk_at "at")) ev_int (by walk_at "od")) (by walk_at "od")), rfl, ⟨_, _, _, _, rfl, by omega, by omega⟩, hm, hd⟩
        · rintro G ds ⟨⟨c, r, t, v, rfl, h1, h2⟩, hm, hd⟩
          exact ⟨⟨_, _, _, _, rfl, h1, by omega⟩, hm, hd⟩
      refine hts_cons (Mid := fun G ds => (∃ c r t v, GN (some (.list (ns.map PyData.int))) (some (.int a)) many zs G c r t (some (.int ((m : Int) + (i : Nat)))) (some (.int v)) ∧ 0 ≤ v ∧ v ≤ 4000000000) ∧ m ≤ many ∧ someInts 0 1000000 ds (m + i)) (ht_set (j := 9) sc_law_numbers.nd rfl (by decide) (Or.inl rfl) ?_) ?_
      · rintro G ds ⟨⟨c, r, t, v, rfl, h1, h2⟩, hm, hd⟩
        exact ⟨_, (ev_bin (ev_bin (ev_var 9 (by rfl) (pv 9)) (ev_var 9 (by rfl) (pv 9)) (by walk_at "od")) ev_int (by walk_at "od")), rfl, ⟨_, _, _, _, rfl, by omega, by omega⟩, hm, hd⟩
      refine hts_cons (Mid := fun G ds => (∃ c r t v, GN (some (.list (ns.map PyData.int))) (some (.int a)) many zs G c r t (some (.int ((m : Int) + (i : Nat)))) (some (.int v)) ∧ 0 ≤ v ∧ v ≤ 4000000000) ∧ m ≤ many ∧ someInts 0 1000000 ds (m + i)) (ht_set (j := 9) sc_law_numbers.nd rfl (by decide) (Or.inl rfl) ?_) ?_
      · rintro G ds ⟨⟨c, r, t, v, rfl, h1, h2⟩, hm, hd⟩
        exact ⟨_, (ev_bin (ev_bin (ev_bin (ev_var 9 (by rfl) (pv 9)) ev_int (by walk_at "od")) (ev_bin ev_int (ev_var 8 (by rfl) (pv 8)) (by walk_at "od")) (by walk_at "od")) ev_int (by walk_at "od")), rfl, ⟨_, _, _, _, rfl, by omega, by omega⟩, hm, hd⟩
      refine hts_cons (ht_append ?_ (pv 4)) (hts_nil fun _ _ h => h)
      rintro G ds ⟨⟨c, r, t, v, rfl, h1, h2⟩, hm, hd⟩
      have hl := hd.len
      exact ⟨.int (v * v % 998244353 % 1000000), ev_eq (ev_bin (ev_bin (ev_bin (ev_var 9 (by rfl) (pv 9)) (ev_var 9 (by rfl) (pv 9)) (by walk_at "od")) ev_int (by walk_at "od")) (ev_bin ev_int ev_int (by walk_at "od")) (by walk_at "od")) rfl, rfl, by rw [hl, sizeLine_eq]; omega, ⟨_, _, _, _, _, rfl⟩, hm, hd.snoc (by omega) (by omega)⟩
    · rintro G ds ⟨_, hm, hd⟩
      have e : m + ((many : Int) - (m : Int)).toNat = many := by omega
      rw [e] at hd
      exact hd
end
section
variable {P : Program} {w : World} {K : PySem.W.Frag} {mg : Str → Option Value} {base : Heap}
def okW (l : List Int) : Bool := l.all fun i => decide (0 ≤ i) && decide (i < 4096)
def F_are (ds : List PyData) (d : PyData) : Prop := ∃ (l : List Int) (m : Int), l.length ≤ 100000 ∧ ds = [.list (l.map PyData.int), .int m] ∧ d = .bool (decide ((l.length : Int) = m) && okW l)
theorem eqv_int (i j : Int) : PyData.eqv (.int i) (.int j) = decide (i = j) := by
  simp only [PyData.eqv]
  rfl
theorem d_are_words (T : Txt mg) {f : Addr} {fd : FuncData} (D_is_word : DFn P w K mg base 2 "is_word" F_is_word) (F : Fun K "are_words" "are_words" s_are_words f fd) (hm : mg "are_words" = some (.ref f)) : DFn P w K mg base 3 "are_words" F_are := by
  refine F.data hm (F.binds fun _ _ _ _ _ _ us hl => match us, hl with | [_, _], _ => rfl) sc_are_words (fun ds d ⟨_, _, _, e, _⟩ => by rw [e]; rfl) fun cdv A outer s H E ds d hr ⟨l, m, hl, e, e2⟩ => ?_
  subst e e2
  refine svs_ret (sv_ret (ev_and (k := decide ((l.length : Int) = m)) (ev_eq (ev_cmp (ev_callB2 "len" (av_cons (ev_var 0 (by rfl) (pv 0)) av_nil) (by walk_at "cd") rfl T.b_len (by decide +kernel)) (ev_var 1 (by rfl) (pv 1)) (by walk_at "od") (nomark _)) (by rw [eqv_int, List.length_map])) (fun h => ev_one (ev_eq (ev_callB2 "all" (ds := [.list ((l.map fun i => decide (0 ≤ i) && decide (i < 4096)).map PyData.bool)]) (av_cons (ev_eq (ev_comp (ix := []) (N := ["thing"]) (B := bind1) (as := l) (D := PyData.int) (fun _ => true) (fun i => PyData.bool (decide (0 ≤ i) && decide (i < 4096))) rfl (of_decide_eq_true (by kernel_rfl)) (own_name (by decide)) (iv_list (ev_var 0 (by rfl) (pv 0))) (by rw [sizeLine_eq]; omega) (fun _ _ => bindD1 _) (fun _ _ _ _ _ => pg_name (i := 0) (show List.Nodup (["thing"] : List Str) by decide +kernel) rfl (Or.inl rfl)) (fun a ha cl C s H fp => pf_D0) (fun a ha hP cl C s H fp => ev_call D_is_word (by walk_at "rm") rfl (av_cons (ev_var 0 (by rfl) (pv 0)) av_nil) ⟨.int a, rfl, rfl, rfl⟩)) (by rw [filter_true, List.map_map]; rfl)) av_nil) (cd_all rfl) rfl T.b_all (by decide +kernel)) ?_)) ?_))
  · rw [h, Bool.true_and, List.all_map]
    rfl
  · intro h
    rw [h]
    rfl
abbrev okP (ps : List PyData) : Prop := 1 ≤ ps.length ∧ ps.length ≤ 8
def F_cp (CP : Addr) (ds : List PyData) (r : Res) : Prop := ∃ ps : List PyData, ds = [.list ps] ∧ ((okP ps ∧ r = .ok .none) ∨ (¬ okP ps ∧ r = .exc CP))
theorem chain_pages (n : Nat) : (decide ((1 : Int) ≤ (n : Int)) && decide ((n : Int) ≤ 8)) = decide (1 ≤ n ∧ n ≤ 8) := by
  by_cases h1 : 1 ≤ n <;> by_cases h2 : n ≤ 8 <;> simp [h1, h2] <;> omega
theorem x_check_pages (T : Txt mg) {CP : Addr} (O : ExcCls K CP) (hC : mg "BadPages" = some (.ref CP)) {f : Addr} {fd : FuncData} (F : Fun K "check_pages" "check_pages" s_check_pages f fd) (hm : mg "check_pages" = some (.ref f)) : XFn P w K mg base 2 "check_pages" (F_cp CP) := by
  refine F.dataX hm (F.binds fun _ _ _ _ _ _ us hl => match us, hl with | [_], _ => rfl) sc_check_pages (fun ds d ⟨_, e, _⟩ => by rw [e]; rfl) fun cdv A outer s H E ds r hr ⟨ps, e, h⟩ => ?_
  subst e
  rcases h with ⟨hp, e2⟩ | ⟨hp, e2⟩
  · subst e2
    refine .inr ⟨rfl, _, svs_cons (sv_if (k := false) (tv_not (k := true) (tv_eq (tv_chainB od_le od_le ev_int (ev_callB2 "len" (av_cons (ev_var 0 (by rfl) (pv 0)) av_nil) (by walk_at "cd") rfl T.b_len (by decide +kernel)) ev_int) ?_)) (fun h => by cases h) (fun _ => svs_nil)) svs_nil⟩
    rw [chain_pages]
    exact decide_eq_true hp
  · subst e2
    refine ⟨_, sx_head (sx_if (k := true) (tv_not (k := false) (tv_eq (tv_chainB od_le od_le ev_int (ev_callB2 "len" (av_cons (ev_var 0 (by rfl) (pv 0)) av_nil) (by walk_at "cd") rfl T.b_len (by decide +kernel)) ev_int) ?_)) (fun _ => sx_head (sx_raise _ rfl O rfl hC (av_cons ev_str av_nil) (by walk_at "sz"))) (fun h => by cases h))⟩
    rw [chain_pages]
    exact decide_eq_false hp
def okS (ps : List PyData) (cells boxes : List Int) (place : Int) : Prop := ((cells.length : Int) = 16 * (ps.length : Int) ∧ okW cells = true) ∧ ((boxes.length : Int) = 4 ∧ okW boxes = true) ∧ (0 ≤ place ∧ place < 4096)
def F_cs (CP CS : Addr) (ds : List PyData) (r : Res) : Prop := ∃ (ps : List PyData) (cells boxes : List Int) (place : Int), cells.length ≤ 100000 ∧ boxes.length ≤ 100000 ∧ ds = [.list ps, .list (cells.map PyData.int), .list (boxes.map PyData.int), .int place] ∧
  ((okP ps ∧ okS ps cells boxes place ∧ r = .ok .none) ∨ (¬ okP ps ∧ r = .exc CP) ∨ (okP ps ∧ ¬ okS ps cells boxes place ∧ r = .exc CS))
theorem andB {a : Int} {b : Int} {k : Bool} : (decide (a = b) && k) = true ↔ (a = b ∧ k = true) := by rw [Bool.and_eq_true, decide_eq_true_iff]
theorem x_check_state (T : Txt mg) {CP CS : Addr} (O : ExcCls K CS) (hC : mg "BadState" = some (.ref CS)) {f : Addr} {fd : FuncData} (D_cp : XFn P w K mg base 2 "check_pages" (F_cp CP)) (D_are_words : DFn P w K mg base 3 "are_words" F_are) (D_is_word : DFn P w K mg base 2 "is_word" F_is_word) (F : Fun K "check_state" "check_state" s_check_state f fd) (hm : mg "check_state" = some (.ref f)) : XFn P w K mg base 4 "check_state" (F_cs CP CS) := by
  refine F.dataX hm (F.binds fun _ _ _ _ _ _ us hl => match us, hl with | [_, _, _, _], _ => rfl) sc_check_state (fun ds d ⟨_, _, _, _, _, _, e, _⟩ => by rw [e]; rfl) fun cdv A outer s H E ds r hr ⟨ps, cells, boxes, place, hl1, hl2, e, h⟩ => ?_
  subst e
  rcases h with ⟨hp, hs, e2⟩ | ⟨hp, e2⟩ | ⟨hp, hs, e2⟩
  · subst e2
    obtain ⟨h1, h2, h3⟩ := hs
    have h1 := andB.mpr h1
    have h2 := andB.mpr h2
    have h3 : belowB (.int place) 4096 = true := by simpa [belowB] using h3
    refine .inr ⟨rfl, (startG ["pages", "cells", "boxes", "place"] [.list ps, .list (cells.map PyData.int), .list (boxes.map PyData.int), .int place]), svs_cons (sv_expr (ev_callX D_cp (by walk_at "rm") rfl (av_cons (ev_var 0 (by rfl) (pv 0)) av_nil) ⟨ps, rfl, .inl ⟨hp, rfl⟩⟩)) ?_⟩
    refine svs_cons (sv_if (k := false) (tv_not (k := true) (tv_val (ev_call D_are_words (by walk_at "rm") rfl (av_cons (ev_var 1 (by rfl) (pv 1)) (av_cons (ev_bin (T.g_page_cells rfl) (ev_callB2 "len" (av_cons (ev_var 0 (by rfl) (pv 0)) av_nil) (by walk_at "cd") rfl T.b_len (by decide +kernel)) (by walk_at "od")) av_nil)) ⟨cells, _, hl1, rfl, by rw [h1]⟩))) (fun h => by cases h) (fun _ => svs_nil)) ?_
    refine svs_cons (sv_if (k := false) (tv_not (k := true) (tv_val (ev_call D_are_words (by walk_at "rm") rfl (av_cons (ev_var 2 (by rfl) (pv 2)) (av_cons ev_int av_nil)) ⟨boxes, _, hl2, rfl, by rw [h2]⟩))) (fun h => by cases h) (fun _ => svs_nil)) ?_
    exact svs_cons (sv_if (k := false) (tv_not (k := true) (tv_val (ev_call D_is_word (by walk_at "rm") rfl (av_cons (ev_var 3 (by rfl) (pv 3)) av_nil) ⟨_, rfl, rfl, by rw [h3]⟩))) (fun h => by cases h) (fun _ => svs_nil)) svs_nil
  · subst e2
    exact ⟨(startG ["pages", "cells", "boxes", "place"] [.list ps, .list (cells.map PyData.int), .list (boxes.map PyData.int), .int place]), sx_head (sx_expr (ex_call xw_cx D_cp (by walk_at "rm") rfl (av_cons (ev_var 0 (by rfl) (pv 0)) av_nil) ⟨ps, rfl, .inr ⟨hp, rfl⟩⟩))⟩
  · subst e2
    by_cases h1 : (cells.length : Int) = 16 * (ps.length : Int) ∧ okW cells = true
    · have g1 := andB.mpr h1
      by_cases h2 : (boxes.length : Int) = 4 ∧ okW boxes = true
      · have g2 := andB.mpr h2
        have g3 : belowB (.int place) 4096 = false := by
          cases hb : belowB (.int place) 4096 with
          | false => rfl
          | true => exact absurd ⟨h1, h2, by simpa [belowB] using hb⟩ hs
        refine ⟨(startG ["pages", "cells", "boxes", "place"] [.list ps, .list (cells.map PyData.int), .list (boxes.map PyData.int), .int place]), sx_cons (sv_expr (ev_callX D_cp (by walk_at "rm") rfl (av_cons (ev_var 0 (by rfl) (pv 0)) av_nil) ⟨ps, rfl, .inl ⟨hp, rfl⟩⟩)) ?_⟩
        refine sx_cons (sv_if (k := false) (tv_not (k := true) (tv_val (ev_call D_are_words (by walk_at "rm") rfl (av_cons (ev_var 1 (by rfl) (pv 1)) (av_cons (ev_bin (T.g_page_cells rfl) (ev_callB2 "len" (av_cons (ev_var 0 (by rfl) (pv 0)) av_nil) (by walk_at "cd") rfl T.b_len (by decide +kernel)) (by walk_at "od")) av_nil)) ⟨cells, _, hl1, rfl, by rw [g1]⟩))) (fun h => by cases h) (fun _ => svs_nil)) ?_
        refine sx_cons (sv_if (k := false) (tv_not (k := true) (tv_val (ev_call D_are_words (by walk_at "rm") rfl (av_cons (ev_var 2 (by rfl) (pv 2)) (av_cons ev_int av_nil)) ⟨boxes, _, hl2, rfl, by rw [g2]⟩))) (fun h => by cases h) (fun _ => svs_nil)) ?_
        exact sx_head (sx_if (k := true) (tv_not (k := false) (tv_val (ev_call D_is_word (by walk_at "rm") rfl (av_cons (ev_var 3 (by rfl) (pv 3)) av_nil) ⟨_, rfl, rfl, by rw [g3]⟩))) (fun _ => sx_head (sx_raise _ rfl O rfl hC (av_cons ev_str av_nil) (by walk_at "sz"))) (fun h => by cases h))
      · have g2 : (decide ((boxes.length : Int) = 4) && okW boxes) = false := by
          cases hb : (decide ((boxes.length : Int) = 4) && okW boxes) with
          | false => rfl
          | true => exact absurd (andB.mp hb) h2
        refine ⟨(startG ["pages", "cells", "boxes", "place"] [.list ps, .list (cells.map PyData.int), .list (boxes.map PyData.int), .int place]), sx_cons (sv_expr (ev_callX D_cp (by walk_at "rm") rfl (av_cons (ev_var 0 (by rfl) (pv 0)) av_nil) ⟨ps, rfl, .inl ⟨hp, rfl⟩⟩)) ?_⟩
        refine sx_cons (sv_if (k := false) (tv_not (k := true) (tv_val (ev_call D_are_words (by walk_at "rm") rfl (av_cons (ev_var 1 (by rfl) (pv 1)) (av_cons (ev_bin (T.g_page_cells rfl) (ev_callB2 "len" (av_cons (ev_var 0 (by rfl) (pv 0)) av_nil) (by walk_at "cd") rfl T.b_len (by decide +kernel)) (by walk_at "od")) av_nil)) ⟨cells, _, hl1, rfl, by rw [g1]⟩))) (fun h => by cases h) (fun _ => svs_nil)) ?_
        exact sx_head (sx_if (k := true) (tv_not (k := false) (tv_val (ev_call D_are_words (by walk_at "rm") rfl (av_cons (ev_var 2 (by rfl) (pv 2)) (av_cons ev_int av_nil)) ⟨boxes, _, hl2, rfl, by rw [g2]⟩))) (fun _ => sx_head (sx_raise _ rfl O rfl hC (av_cons ev_str av_nil) (by walk_at "sz"))) (fun h => by cases h))
    · have g1 : (decide ((cells.length : Int) = 16 * (ps.length : Int)) && okW cells) = false := by
        cases hb : (decide ((cells.length : Int) = 16 * (ps.length : Int)) && okW cells) with
        | false => rfl
        | true => exact absurd (andB.mp hb) h1
      refine ⟨(startG ["pages", "cells", "boxes", "place"] [.list ps, .list (cells.map PyData.int), .list (boxes.map PyData.int), .int place]), sx_cons (sv_expr (ev_callX D_cp (by walk_at "rm") rfl (av_cons (ev_var 0 (by rfl) (pv 0)) av_nil) ⟨ps, rfl, .inl ⟨hp, rfl⟩⟩)) ?_⟩
      exact sx_head (sx_if (k := true) (tv_not (k := false) (tv_val (ev_call D_are_words (by walk_at "rm") rfl (av_cons (ev_var 1 (by rfl) (pv 1)) (av_cons (ev_bin (T.g_page_cells rfl) (ev_callB2 "len" (av_cons (ev_var 0 (by rfl) (pv 0)) av_nil) (by walk_at "cd") rfl T.b_len (by decide +kernel)) (by walk_at "od")) av_nil)) ⟨cells, _, hl1, rfl, by rw [g1]⟩))) (fun _ => sx_head (sx_raise _ rfl O rfl hC (av_cons ev_str av_nil) (by walk_at "sz"))) (fun h => by cases h))
end
section
variable {P : Program} {w : World} {K : PySem.W.Frag} {mg : Str → Option Value} {base : Heap}
structure ClsM (K : PySem.W.Frag) (mg : Str → Option Value) (C : Addr) : Prop where
  cl : Cls K C
  n0 : NoAttr K C "rights"
  n1 : NoAttr K C "memory"
  n2 : NoAttr K C "box_words"
  n3 : NoAttr K C "here"
  n4 : NoAttr K C "truth_pair"
  n5 : NoAttr K C "told_words"
  n6 : NoAttr K C "stored_cells"
  n7 : NoAttr K C "done_count"
  at_ : mg "Machine" = some (.ref C)
def spInit (K : PySem.W.Frag) (C CP CS : Addr) : Sp := fun vs H Q E => ∃ (a dx : Addr) (v1 v2 v3 v4 : V) (ps : List PyData) (cells boxes : List Int) (place : Int) (r : Res), vs = [.ref a, v1, v2, v3, v4] ∧ H a = some (.ins C dx []) ∧ DVs K H [v1, v2, v3, v4] [.list ps, .list (cells.map PyData.int), .list (boxes.map PyData.int), .int place] ∧ F_cs CP CS [.list ps, .list (cells.map PyData.int), .list (boxes.map PyData.int), .int place] r ∧ (match r with
  | .ok _ => ∀ fs H', H' a = some (.ins C dx fs) → (∀ b, b ≠ a → ∀ o, H b = some o → H' b = some o) → Flds K H' fs [("done_count", .int 0)] → fs.lookup ("done" : Str) = none → Q .non H'
  | .exc Cx => ∀ H', Same H H' → E (.ref Cx) none H')
theorem ok_init (T : Txt mg) {C CP CS f : Addr} {fd : FuncData} (CM : ClsM K mg C) (D_cs : XFn P w K mg base 4 "check_state" (F_cs CP CS)) (F : Fun K "__init__" "Machine.__init__" s_Machine_init f fd) : FnOk P w K mg base (CXr P w) 5 f fd ["self", "pages", "cells", "boxes", "place"] (spInit K C CP CS) := by
  refine F.okX sc_Machine_init (fun vs H Q E ⟨_, _, _, _, _, _, _, _, _, _, _, e, _⟩ => by rw [e]; rfl) fun cdv A outer s H vs Q E hr ⟨a, dx, v1, v2, v3, v4, ps, cells, boxes, place, r, e, ha, dv, hcs, q⟩ => ?_
  subst e
  cases dv with
  | cons d1 t1 =>
  cases t1 with
  | cons d2 t2 =>
  cases t2 with
  | cons d3 t3 =>
  cases t3 with
  | cons d4 t4 =>
  have sd : SD K H (start ["self", "pages", "cells", "boxes", "place"] [.ref a, v1, v2, v3, v4]) [none, some (.list ps), some (.list (cells.map PyData.int)), some (.list (boxes.map PyData.int)), some (.int place)] := ⟨rfl, fun i d z => by
    match i, z with
    | 0, z => cases z
    | 1, z => cases z; exact ⟨_, rfl, d1⟩
    | 2, z => cases z; exact ⟨_, rfl, d2⟩
    | 3, z => cases z; exact ⟨_, rfl, d3⟩
    | 4, z => cases z; exact ⟨_, rfl, d4⟩
    | n + 5, z => cases z⟩
  cases r with
  | exc Cx =>
    have z : SXvs (cxR P w K mg base ["self", "pages", "cells", "boxes", "place"] "Machine.__init__" (defScope s_Machine_init) f cdv A outer s H E) (exR E) [none, some (.list ps), some (.list (cells.map PyData.int)), some (.list (boxes.map PyData.int)), some (.int place)] (defBody s_Machine_init) [none, some (.list ps), some (.list (cells.map PyData.int)), some (.list (boxes.map PyData.int)), some (.int place)] Cx := sx_head (sx_expr (ex_call xw_cx D_cs (by walk_at "rm") rfl (av_cons (ev_var 1 (by rfl) (pv 1)) (av_cons (ev_var 2 (by rfl) (pv 2)) (av_cons (ev_var 3 (by rfl) (pv 3)) (av_cons (ev_var 4 (by rfl) (pv 4)) av_nil)))) hcs))
    exact ⟨_, z, sd, fun σ' H' s' _ => q H' s'⟩
  | ok dd =>
    refine ⟨_, pss_cons (ps_exprD2 (a := a) (C := C) (dx := dx) (H0 := H) (n := 0) (names := []) (fd := []) (G := [none, some (.list ps), some (.list (cells.map PyData.int)), some (.list (boxes.map PyData.int)), some (.int place)]) (ev_callX D_cs (by walk_at "rm") rfl (av_cons (ev_var 1 (by rfl) (pv 1)) (av_cons (ev_var 2 (by rfl) (pv 2)) (av_cons (ev_var 3 (by rfl) (pv 3)) (av_cons (ev_var 4 (by rfl) (pv 4)) av_nil)))) hcs))
      (pss_cons (ps_fldD2 (a := a) (dx := dx) (H0 := H) (n := 0) (names := []) (fd := []) (d := .list ps) (G := [none, some (.list ps), some (.list (cells.map PyData.int)), some (.list (boxes.map PyData.int)), some (.int place)]) CM.cl CM.n0 (pv 0) (ev_callTy2 "list" (av_cons (ev_var 1 (by rfl) (pv 1)) av_nil) cd_listL rfl T.b_list (by decide +kernel)) (by decide) (ne_all (names := []) rfl (by decide +kernel)))
      (pss_cons (ps_fldD2 (a := a) (dx := dx) (H0 := H) (n := 1) (names := ["rights"]) (fd := [("rights", .list ps)]) (d := .list (cells.map PyData.int)) (G := [none, some (.list ps), some (.list (cells.map PyData.int)), some (.list (boxes.map PyData.int)), some (.int place)]) CM.cl CM.n1 (pv 0) (ev_callTy2 "list" (av_cons (ev_var 2 (by rfl) (pv 2)) av_nil) cd_listL rfl T.b_list (by decide +kernel)) (by decide) (ne_all (names := ["rights"]) rfl (by decide +kernel)))
      (pss_cons (ps_fldD2 (a := a) (dx := dx) (H0 := H) (n := 2) (names := ["memory", "rights"]) (fd := [("memory", .list (cells.map PyData.int)), ("rights", .list ps)]) (d := .list (boxes.map PyData.int)) (G := [none, some (.list ps), some (.list (cells.map PyData.int)), some (.list (boxes.map PyData.int)), some (.int place)]) CM.cl CM.n2 (pv 0) (ev_callTy2 "list" (av_cons (ev_var 3 (by rfl) (pv 3)) av_nil) cd_listL rfl T.b_list (by decide +kernel)) (by decide) (ne_all (names := ["memory", "rights"]) rfl (by decide +kernel)))
      (pss_cons (ps_fldD2 (a := a) (dx := dx) (H0 := H) (n := 3) (names := ["box_words", "memory", "rights"]) (fd := [("box_words", .list (boxes.map PyData.int)), ("memory", .list (cells.map PyData.int)), ("rights", .list ps)]) (d := .int place) (G := [none, some (.list ps), some (.list (cells.map PyData.int)), some (.list (boxes.map PyData.int)), some (.int place)]) CM.cl CM.n3 (pv 0) (ev_var 4 (by rfl) (pv 4)) (by decide) (ne_all (names := ["box_words", "memory", "rights"]) rfl (by decide +kernel)))
      (pss_cons (ps_fldD2 (a := a) (dx := dx) (H0 := H) (n := 4) (names := ["here", "box_words", "memory", "rights"]) (fd := [("here", .int place), ("box_words", .list (boxes.map PyData.int)), ("memory", .list (cells.map PyData.int)), ("rights", .list ps)]) (d := .tuple [.bool false, .bool false]) (G := [none, some (.list ps), some (.list (cells.map PyData.int)), some (.list (boxes.map PyData.int)), some (.int place)]) CM.cl CM.n4 (pv 0) (ev_tup (av_cons ev_bl (av_cons ev_bl av_nil)) (by walk_at "sz")) (by decide) (ne_all (names := ["here", "box_words", "memory", "rights"]) rfl (by decide +kernel)))
      (pss_cons (ps_fldD2 (a := a) (dx := dx) (H0 := H) (n := 5) (names := ["truth_pair", "here", "box_words", "memory", "rights"]) (fd := [("truth_pair", .tuple [.bool false, .bool false]), ("here", .int place), ("box_words", .list (boxes.map PyData.int)), ("memory", .list (cells.map PyData.int)), ("rights", .list ps)]) (d := .list []) (G := [none, some (.list ps), some (.list (cells.map PyData.int)), some (.list (boxes.map PyData.int)), some (.int place)]) CM.cl CM.n5 (pv 0) (ev_lst av_nil (by walk_at "sz")) (by decide) (ne_all (names := ["truth_pair", "here", "box_words", "memory", "rights"]) rfl (by decide +kernel)))
      (pss_cons (ps_fldD2 (a := a) (dx := dx) (H0 := H) (n := 6) (names := ["told_words", "truth_pair", "here", "box_words", "memory", "rights"]) (fd := [("told_words", .list []), ("truth_pair", .tuple [.bool false, .bool false]), ("here", .int place), ("box_words", .list (boxes.map PyData.int)), ("memory", .list (cells.map PyData.int)), ("rights", .list ps)]) (d := .list []) (G := [none, some (.list ps), some (.list (cells.map PyData.int)), some (.list (boxes.map PyData.int)), some (.int place)]) CM.cl CM.n6 (pv 0) (ev_lst av_nil (by walk_at "sz")) (by decide) (ne_all (names := ["told_words", "truth_pair", "here", "box_words", "memory", "rights"]) rfl (by decide +kernel)))
      (pss_cons (ps_fldD2 (a := a) (dx := dx) (H0 := H) (n := 7) (names := ["stored_cells", "told_words", "truth_pair", "here", "box_words", "memory", "rights"]) (fd := [("stored_cells", .list []), ("told_words", .list []), ("truth_pair", .tuple [.bool false, .bool false]), ("here", .int place), ("box_words", .list (boxes.map PyData.int)), ("memory", .list (cells.map PyData.int)), ("rights", .list ps)]) (d := .int 0) (G := [none, some (.list ps), some (.list (cells.map PyData.int)), some (.list (boxes.map PyData.int)), some (.int place)]) CM.cl CM.n7 (pv 0) ev_int (by decide) (ne_all (names := ["stored_cells", "told_words", "truth_pair", "here", "box_words", "memory", "rights"]) rfl (by decide +kernel)))
      pss_nil)))))))), ?_⟩
    have o0 : OI2 K a C dx H 0 [] [] (start ["self", "pages", "cells", "boxes", "place"] [.ref a, v1, v2, v3, v4]) [none, some (.list ps), some (.list (cells.map PyData.int)), some (.list (boxes.map PyData.int)), some (.int place)] [] H := ⟨⟨rfl, ha, sd, fun b _ o e => e, (fun q hq => by cases hq), Nat.le_refl _⟩, fun _ _ => rfl⟩
    exact ⟨⟨_, o0⟩, fun f0 H0 o0 => ⟨⟨_, o0⟩, fun f1 H1 o1 => ⟨⟨_, o1⟩, fun f2 H2 o2 => ⟨⟨_, o2⟩, fun f3 H3 o3 => ⟨⟨_, o3⟩, fun f4 H4 o4 => ⟨⟨_, o4⟩, fun f5 H5 o5 => ⟨⟨_, o5⟩, fun f6 H6 o6 => ⟨⟨_, o6⟩, fun f7 H7 o7 => ⟨⟨_, o7⟩, fun f8 H8 o8 => q f8 H8 o8.oi.obj o8.oi.keep (fun z hz => o8.oi.flds z (by
      have := List.mem_singleton.mp hz
      subst this
      exact List.mem_cons_self)) (o8.no "done" (by decide +kernel))⟩⟩⟩⟩⟩⟩⟩⟩⟩
def spDone (C : Addr) : Sp := fun vs H Q _ => ∃ (a dx : Addr) (fs : List (Str × V)), vs = [.ref a] ∧ H a = some (.ins C dx fs) ∧ fs.lookup ("done_count" : Str) = some (.int 0) ∧ Q (.int 0) H
theorem ok_done {C f : Addr} {fd : FuncData} (CM : ClsM K mg C) (F : Fun K "done" "Machine.done" s_Machine_done f fd) : FnOk P w K mg base CX0 1 f fd ["self"] (spDone C) := by
  refine F.ok sc_Machine_done (fun vs H Q E ⟨_, _, _, e, _⟩ => by rw [e]; rfl) fun cdv A outer s H vs Q E hr ⟨a, dx, fs, e, ha, hl, q⟩ => ?_
  subst e
  exact ⟨_, pss_one (ps_ret (pe_fld (pv 0) rfl)), .ref a, rfl, a, C, dx, fs, .int 0, rfl, ha, CM.cl, CM.n7, hl, q⟩
end
section
variable {P : Program} {w : World} {K : PySem.W.Frag} {mg : Str → Option Value} {base : Heap}
theorem cut_to (l : List PyData) {i : Int} (h0 : 0 ≤ i) (h1 : i ≤ l.length) : cutD l none (some i) = l.take i.toNat := by
  unfold cutD
  rw [HT.sIx_none]
  unfold HT.sIx
  dsimp only
  rw [if_neg (by omega), List.drop_zero, Nat.sub_zero]
  congr 1
  omega
theorem cut_from (l : List PyData) {i : Int} (h0 : 0 ≤ i) (h1 : i ≤ l.length) : cutD l (some i) none = l.drop i.toNat := by
  unfold cutD
  rw [HT.sIx_none]
  unfold HT.sIx
  dsimp only
  rw [if_neg (by omega), show min i.toNat l.length = i.toNat by omega]
  exact List.take_of_length_le (by rw [List.length_drop]; omega)
theorem cut_front (l : List PyData) (h : 0 < l.length) : cutD l none (some (-1)) = l.dropLast := by
  unfold cutD
  rw [HT.sIx_none]
  unfold HT.sIx
  dsimp only
  rw [if_pos (by decide), List.drop_zero, Nat.sub_zero, List.dropLast_eq_take]
  congr 1
  omega
def oddV (c d : Int) : Int := if d % 5 = 0 then 4096 else if d % 5 = 1 then -1 else if d % 5 = 2 then 4096 + c else if d % 5 = 3 then -1 - c else 10 ^ 40
theorem odd_bad {c d : Int} (h : 0 ≤ c) : ¬ (0 ≤ oddV c d ∧ oddV c d < 4096) := by
  unfold oddV
  have : (10 : Int) ^ 40 = 10000000000000000000000000000000000000000 := by decide
  repeat' split
  all_goals omega
theorem odd_at (c d : Int) : atI ([.int 4096, .int (-1), .int (4096 + c), .int (-1 - c), .int (10 ^ 40)] : List PyData) (d % 5) = some (.int (oddV c d)) := by
  have h : d % 5 = 0 ∨ d % 5 = 1 ∨ d % 5 = 2 ∨ d % 5 = 3 ∨ d % 5 = 4 := by omega
  unfold oddV
  rcases h with h | h | h | h | h <;> rw [h] <;> rfl
abbrev okL (l : List Int) (n : Nat) : Prop := (l.length : Int) = (n : Int) ∧ okW l = true
def preSp (ds : List PyData) : Prop := ∃ (l : List Int) (a b c d : Int), l.length ≤ 1000 ∧ 0 ≤ c ∧ ds = [.list (l.map PyData.int), .list [.int a, .int b, .int c, .int d]]
def F_spoilt (ds : List PyData) (r : PyData) : Prop := ∃ (l l' : List Int) (x : PyData), ds = [.list (l.map PyData.int), x] ∧ r = .list (l'.map PyData.int) ∧ ¬ okL l' l.length ∧ l'.length ≤ 2000
theorem not_okW {l r : List Int} {o : Int} (h : ¬ (0 ≤ o ∧ o < 4096)) : okW (l ++ o :: r) = false := by
  unfold okW
  rw [List.all_append, List.all_cons]
  have : (decide (0 ≤ o) && decide (o < 4096)) = false := by
    cases hb : (decide (0 ≤ o) && decide (o < 4096)) with
    | false => rfl
    | true => exact absurd (by simpa using hb) h
  rw [this, Bool.false_and, Bool.and_false]
end
section
variable {P : Program} {w : World} {K : PySem.W.Frag} {mg : Str → Option Value} {base : Heap}
set_option maxHeartbeats 2000000 in
theorem st0 (T : Txt mg) {f : Addr} {l : List Int} {a b c d : Int} (hl : l.length ≤ 1000) (hc : 0 ≤ c) (h : a % 6 = 0) (cdv : Value) (A : Around) (outer : List Env) (s : Shared) (H : Hp) (E : XK) (hr : Room 0 (A.deeper (PyProof.Rows.envOfC "_law_spoilt" (defScope s_law_spoilt) s.heap.objs.size f cdv))) :
    RVs (cxOf CX0 P w K mg base ["words", "numbers", "how", "at", "odd"] "_law_spoilt" (defScope s_law_spoilt) f cdv A outer s H E).nox (startG ["words", "numbers", "how", "at", "odd"] [.list (l.map PyData.int), .list [.int a, .int b, .int c, .int d]]) (defBody s_law_spoilt) (F_spoilt [.list (l.map PyData.int), .list [.int a, .int b, .int c, .int d]]) := by
  have out : ∀ l' : List Int, ¬ okL l' l.length → l'.length ≤ 2000 → F_spoilt [.list (l.map PyData.int), .list [.int a, .int b, .int c, .int d]] (.list (l'.map PyData.int)) := fun l' h1 h2 => ⟨l, l', _, rfl, rfl, h1, h2⟩
  have hlen : ((l.map PyData.int).length : Int) = l.length := by rw [List.length_map]
  have hodd := odd_bad (c := c) (d := d) hc
  by_cases hz : l.length = 0
  · refine rvs_cons (sv_set (i := 2) sc_law_spoilt.nd rfl (Or.inl rfl) (ev_eq (ev_bin (by first | exact ev_ixL (ev_var 1 (by rfl) (pv 1)) ev_int (by walk_at "at") | exact ev_ixT (ev_var 1 (by rfl) (pv 1)) ev_int (by walk_at "at")) ev_int (by walk_at "od")) (congrArg PyData.int h))) ?_
    refine rvs_cons (sv_set (i := 3) sc_law_spoilt.nd rfl (Or.inl rfl) (ev_bin (by first | exact ev_ixL (ev_var 1 (by rfl) (pv 1)) ev_int (by walk_at "at") | exact ev_ixT (ev_var 1 (by rfl) (pv 1)) ev_int (by walk_at "at")) (ev_bin (ev_callB2 "len" (av_cons (ev_var 0 (by rfl) (pv 0)) av_nil) (by walk_at "cd") rfl T.b_len (by decide +kernel)) ev_int (by walk_at "od")) (od_mod (by rw [hlen]; omega)))) ?_
    refine rvs_cons (sv_if (k := false) (tv_w (wv_and (k := true) (k' := false) (tv_cmp (ev_var 2 (by rfl) (pv 2)) ev_int (by walk_at "od") (nomark _)) (fun _ => wv_and1 (tv_eq (tv_cmp (ev_callB2 "len" (av_cons (ev_var 0 (by rfl) (pv 0)) av_nil) (by walk_at "cd") rfl T.b_len (by decide +kernel)) ev_int (by walk_at "od") (nomark _)) (by rw [hlen]; first | exact decide_eq_true (by omega) | exact decide_eq_false (by omega)))))) (fun h => by cases h) (fun _ => svs_nil)) ?_
    refine rvs_cons (sv_if (k := false) (tv_cmp (ev_var 2 (by rfl) (pv 2)) ev_int (by walk_at "od") (nomark _)) (fun h => by cases h) (fun _ => svs_nil)) ?_
    refine rvs_cons (sv_set (i := 4) sc_law_spoilt.nd rfl (Or.inl rfl) (ev_ixL (ev_lst (av_cons ev_int (av_cons (ev_neg ev_int) (av_cons (ev_bin ev_int (by first | exact ev_ixL (ev_var 1 (by rfl) (pv 1)) ev_int (by walk_at "at") | exact ev_ixT (ev_var 1 (by rfl) (pv 1)) ev_int (by walk_at "at")) (by walk_at "od")) (av_cons (ev_bin (ev_neg ev_int) (by first | exact ev_ixL (ev_var 1 (by rfl) (pv 1)) ev_int (by walk_at "at") | exact ev_ixT (ev_var 1 (by rfl) (pv 1)) ev_int (by walk_at "at")) (by walk_at "od")) (av_cons (ev_bin ev_int ev_int (by walk_at "od")) av_nil))))) (by walk_at "sz")) (ev_bin (by first | exact ev_ixL (ev_var 1 (by rfl) (pv 1)) ev_int (by walk_at "at") | exact ev_ixT (ev_var 1 (by rfl) (pv 1)) ev_int (by walk_at "at")) ev_int (by walk_at "od")) (odd_at c d))) ?_
    refine rvs_cons (sv_if (k := false) (tv_cmp (ev_var 2 (by rfl) (pv 2)) ev_int (by walk_at "od") (nomark _)) (fun h => by cases h) (fun _ => svs_nil)) ?_
    refine rvs_cons (sv_if (k := false) (tv_w (wv_and (k := false) (k' := false) (tv_cmp (ev_var 2 (by rfl) (pv 2)) ev_int (by walk_at "od") (nomark _)) (fun h => by cases h))) (fun h => by cases h) (fun _ => svs_nil)) ?_
    refine rvs_of (svs_ret (sv_if (k := true) (tv_cmp (ev_callB2 "len" (av_cons (ev_var 0 (by rfl) (pv 0)) av_nil) (by walk_at "cd") rfl T.b_len (by decide +kernel)) ev_int (od_eq (by walk_at "un") rfl rfl (by walk_at "dp") (by rw [hlen, eqv_int]; first | exact decide_eq_true (by omega) | exact decide_eq_false (by omega))) (nomark _)) (fun _ => svs_ret (sv_ret (ev_eq (ev_lst (av_cons (ev_var 4 (by rfl) (pv 4)) av_nil) (by walk_at "sz")) (show _ = PyData.list ([oddV c d].map PyData.int) from rfl)))) (fun h => by cases h))) (out [oddV c d] (fun z => ?_) (by simp))
    have := z.1
    simp at this
    omega
  · refine rvs_cons (sv_set (i := 2) sc_law_spoilt.nd rfl (Or.inl rfl) (ev_eq (ev_bin (by first | exact ev_ixL (ev_var 1 (by rfl) (pv 1)) ev_int (by walk_at "at") | exact ev_ixT (ev_var 1 (by rfl) (pv 1)) ev_int (by walk_at "at")) ev_int (by walk_at "od")) (congrArg PyData.int h))) ?_
    refine rvs_cons (sv_set (i := 3) sc_law_spoilt.nd rfl (Or.inl rfl) (ev_bin (by first | exact ev_ixL (ev_var 1 (by rfl) (pv 1)) ev_int (by walk_at "at") | exact ev_ixT (ev_var 1 (by rfl) (pv 1)) ev_int (by walk_at "at")) (ev_bin (ev_callB2 "len" (av_cons (ev_var 0 (by rfl) (pv 0)) av_nil) (by walk_at "cd") rfl T.b_len (by decide +kernel)) ev_int (by walk_at "od")) (od_mod (by rw [hlen]; omega)))) ?_
    refine rvs_of (svs_ret (sv_if (k := true) (tv_w (wv_and (k := true) (k' := true) (tv_cmp (ev_var 2 (by rfl) (pv 2)) ev_int (by walk_at "od") (nomark _)) (fun _ => wv_and1 (tv_eq (tv_cmp (ev_callB2 "len" (av_cons (ev_var 0 (by rfl) (pv 0)) av_nil) (by walk_at "cd") rfl T.b_len (by decide +kernel)) ev_int (by walk_at "od") (nomark _)) (by rw [hlen]; first | exact decide_eq_true (by omega) | exact decide_eq_false (by omega)))))) (fun _ => svs_ret (sv_ret (ev_eq (ev_slL (ev_var 0 (by rfl) (pv 0)) ov_none (ov_some (ev_neg ev_int))) (show _ = PyData.list ((l.dropLast).map PyData.int) from by rw [cut_front _ (by rw [List.length_map]; omega), List.map_dropLast])))) (fun h => by cases h))) (out l.dropLast (fun z => ?_) (by simp; omega))
    have := z.1
    simp at this
    omega
end
section
variable {P : Program} {w : World} {K : PySem.W.Frag} {mg : Str → Option Value} {base : Heap}
set_option maxHeartbeats 2000000 in
theorem st1 (T : Txt mg) {f : Addr} {l : List Int} {a b c d : Int} (hl : l.length ≤ 1000) (hc : 0 ≤ c) (h : a % 6 = 1) (cdv : Value) (A : Around) (outer : List Env) (s : Shared) (H : Hp) (E : XK) (hr : Room 0 (A.deeper (PyProof.Rows.envOfC "_law_spoilt" (defScope s_law_spoilt) s.heap.objs.size f cdv))) :
    RVs (cxOf CX0 P w K mg base ["words", "numbers", "how", "at", "odd"] "_law_spoilt" (defScope s_law_spoilt) f cdv A outer s H E).nox (startG ["words", "numbers", "how", "at", "odd"] [.list (l.map PyData.int), .list [.int a, .int b, .int c, .int d]]) (defBody s_law_spoilt) (F_spoilt [.list (l.map PyData.int), .list [.int a, .int b, .int c, .int d]]) := by
  have out : ∀ l' : List Int, ¬ okL l' l.length → l'.length ≤ 2000 → F_spoilt [.list (l.map PyData.int), .list [.int a, .int b, .int c, .int d]] (.list (l'.map PyData.int)) := fun l' h1 h2 => ⟨l, l', _, rfl, rfl, h1, h2⟩
  have hlen : ((l.map PyData.int).length : Int) = l.length := by rw [List.length_map]
  have hodd := odd_bad (c := c) (d := d) hc
  refine rvs_cons (sv_set (i := 2) sc_law_spoilt.nd rfl (Or.inl rfl) (ev_eq (ev_bin (by first | exact ev_ixL (ev_var 1 (by rfl) (pv 1)) ev_int (by walk_at "at") | exact ev_ixT (ev_var 1 (by rfl) (pv 1)) ev_int (by walk_at "at")) ev_int (by walk_at "od")) (congrArg PyData.int h))) ?_
  refine rvs_cons (sv_set (i := 3) sc_law_spoilt.nd rfl (Or.inl rfl) (ev_bin (by first | exact ev_ixL (ev_var 1 (by rfl) (pv 1)) ev_int (by walk_at "at") | exact ev_ixT (ev_var 1 (by rfl) (pv 1)) ev_int (by walk_at "at")) (ev_bin (ev_callB2 "len" (av_cons (ev_var 0 (by rfl) (pv 0)) av_nil) (by walk_at "cd") rfl T.b_len (by decide +kernel)) ev_int (by walk_at "od")) (od_mod (by rw [hlen]; omega)))) ?_
  refine rvs_cons (sv_if (k := false) (tv_w (wv_and (k := false) (k' := false) (tv_cmp (ev_var 2 (by rfl) (pv 2)) ev_int (by walk_at "od") (nomark _)) (fun h => by cases h))) (fun h => by cases h) (fun _ => svs_nil)) ?_
  refine rvs_of (svs_ret (sv_if (k := true) (tv_cmp (ev_var 2 (by rfl) (pv 2)) ev_int (by walk_at "od") (nomark _)) (fun _ => svs_ret (sv_ret (ev_eq (ev_bin (ev_var 0 (by rfl) (pv 0)) (ev_lst (av_cons (ev_bin (by first | exact ev_ixL (ev_var 1 (by rfl) (pv 1)) ev_int (by walk_at "at") | exact ev_ixT (ev_var 1 (by rfl) (pv 1)) ev_int (by walk_at "at")) ev_int (by walk_at "od")) av_nil) (by walk_at "sz")) (od_catL (by rw [sizeLine_eq]; simp; omega))) (show _ = PyData.list ((l ++ [c % 4096]).map PyData.int) from by simp)))) (fun h => by cases h))) (out (l ++ [c % 4096]) (fun z => ?_) (by simp; omega))
  have := z.1
  simp at this
  omega
end
section
variable {P : Program} {w : World} {K : PySem.W.Frag} {mg : Str → Option Value} {base : Heap}
set_option maxHeartbeats 2000000 in
theorem st2 (T : Txt mg) {f : Addr} {l : List Int} {a b c d : Int} (hl : l.length ≤ 1000) (hc : 0 ≤ c) (h : a % 6 = 2) (cdv : Value) (A : Around) (outer : List Env) (s : Shared) (H : Hp) (E : XK) (hr : Room 0 (A.deeper (PyProof.Rows.envOfC "_law_spoilt" (defScope s_law_spoilt) s.heap.objs.size f cdv))) :
    RVs (cxOf CX0 P w K mg base ["words", "numbers", "how", "at", "odd"] "_law_spoilt" (defScope s_law_spoilt) f cdv A outer s H E).nox (startG ["words", "numbers", "how", "at", "odd"] [.list (l.map PyData.int), .list [.int a, .int b, .int c, .int d]]) (defBody s_law_spoilt) (F_spoilt [.list (l.map PyData.int), .list [.int a, .int b, .int c, .int d]]) := by
  have out : ∀ l' : List Int, ¬ okL l' l.length → l'.length ≤ 2000 → F_spoilt [.list (l.map PyData.int), .list [.int a, .int b, .int c, .int d]] (.list (l'.map PyData.int)) := fun l' h1 h2 => ⟨l, l', _, rfl, rfl, h1, h2⟩
  have hlen : ((l.map PyData.int).length : Int) = l.length := by rw [List.length_map]
  have hodd := odd_bad (c := c) (d := d) hc
  refine rvs_cons (sv_set (i := 2) sc_law_spoilt.nd rfl (Or.inl rfl) (ev_eq (ev_bin (by first | exact ev_ixL (ev_var 1 (by rfl) (pv 1)) ev_int (by walk_at "at") | exact ev_ixT (ev_var 1 (by rfl) (pv 1)) ev_int (by walk_at "at")) ev_int (by walk_at "od")) (congrArg PyData.int h))) ?_
  refine rvs_cons (sv_set (i := 3) sc_law_spoilt.nd rfl (Or.inl rfl) (ev_bin (by first | exact ev_ixL (ev_var 1 (by rfl) (pv 1)) ev_int (by walk_at "at") | exact ev_ixT (ev_var 1 (by rfl) (pv 1)) ev_int (by walk_at "at")) (ev_bin (ev_callB2 "len" (av_cons (ev_var 0 (by rfl) (pv 0)) av_nil) (by walk_at "cd") rfl T.b_len (by decide +kernel)) ev_int (by walk_at "od")) (od_mod (by rw [hlen]; omega)))) ?_
  refine rvs_cons (sv_if (k := false) (tv_w (wv_and (k := false) (k' := false) (tv_cmp (ev_var 2 (by rfl) (pv 2)) ev_int (by walk_at "od") (nomark _)) (fun h => by cases h))) (fun h => by cases h) (fun _ => svs_nil)) ?_
  refine rvs_cons (sv_if (k := false) (tv_cmp (ev_var 2 (by rfl) (pv 2)) ev_int (by walk_at "od") (nomark _)) (fun h => by cases h) (fun _ => svs_nil)) ?_
  refine rvs_cons (sv_set (i := 4) sc_law_spoilt.nd rfl (Or.inl rfl) (ev_ixL (ev_lst (av_cons ev_int (av_cons (ev_neg ev_int) (av_cons (ev_bin ev_int (by first | exact ev_ixL (ev_var 1 (by rfl) (pv 1)) ev_int (by walk_at "at") | exact ev_ixT (ev_var 1 (by rfl) (pv 1)) ev_int (by walk_at "at")) (by walk_at "od")) (av_cons (ev_bin (ev_neg ev_int) (by first | exact ev_ixL (ev_var 1 (by rfl) (pv 1)) ev_int (by walk_at "at") | exact ev_ixT (ev_var 1 (by rfl) (pv 1)) ev_int (by walk_at "at")) (by walk_at "od")) (av_cons (ev_bin ev_int ev_int (by walk_at "od")) av_nil))))) (by walk_at "sz")) (ev_bin (by first | exact ev_ixL (ev_var 1 (by rfl) (pv 1)) ev_int (by walk_at "at") | exact ev_ixT (ev_var 1 (by rfl) (pv 1)) ev_int (by walk_at "at")) ev_int (by walk_at "od")) (odd_at c d))) ?_
  refine rvs_of (svs_ret (sv_if (k := true) (tv_cmp (ev_var 2 (by rfl) (pv 2)) ev_int (by walk_at "od") (nomark _)) (fun _ => svs_ret (sv_ret (ev_eq (ev_bin (ev_var 0 (by rfl) (pv 0)) (ev_bin (ev_lst (av_cons ev_int av_nil) (by walk_at "sz")) ev_int (od_repL (by decide) (by decide) (by rw [sizeLine_eq]; decide))) (od_catL (by rw [sizeLine_eq]; simp; omega))) (show _ = PyData.list ((l ++ List.replicate 16 0).map PyData.int) from by simp)))) (fun h => by cases h))) (out (l ++ List.replicate 16 0) (fun z => ?_) (by simp; omega))
  have := z.1
  simp at this
  omega
end
section
variable {P : Program} {w : World} {K : PySem.W.Frag} {mg : Str → Option Value} {base : Heap}
set_option maxHeartbeats 2000000 in
theorem st3 (T : Txt mg) {f : Addr} {l : List Int} {a b c d : Int} (hl : l.length ≤ 1000) (hc : 0 ≤ c) (h : a % 6 = 3) (cdv : Value) (A : Around) (outer : List Env) (s : Shared) (H : Hp) (E : XK) (hr : Room 0 (A.deeper (PyProof.Rows.envOfC "_law_spoilt" (defScope s_law_spoilt) s.heap.objs.size f cdv))) :
    RVs (cxOf CX0 P w K mg base ["words", "numbers", "how", "at", "odd"] "_law_spoilt" (defScope s_law_spoilt) f cdv A outer s H E).nox (startG ["words", "numbers", "how", "at", "odd"] [.list (l.map PyData.int), .list [.int a, .int b, .int c, .int d]]) (defBody s_law_spoilt) (F_spoilt [.list (l.map PyData.int), .list [.int a, .int b, .int c, .int d]]) := by
  have out : ∀ l' : List Int, ¬ okL l' l.length → l'.length ≤ 2000 → F_spoilt [.list (l.map PyData.int), .list [.int a, .int b, .int c, .int d]] (.list (l'.map PyData.int)) := fun l' h1 h2 => ⟨l, l', _, rfl, rfl, h1, h2⟩
  have hlen : ((l.map PyData.int).length : Int) = l.length := by rw [List.length_map]
  have hodd := odd_bad (c := c) (d := d) hc
  by_cases h15 : l.length ≤ 15
  · refine rvs_cons (sv_set (i := 2) sc_law_spoilt.nd rfl (Or.inl rfl) (ev_eq (ev_bin (by first | exact ev_ixL (ev_var 1 (by rfl) (pv 1)) ev_int (by walk_at "at") | exact ev_ixT (ev_var 1 (by rfl) (pv 1)) ev_int (by walk_at "at")) ev_int (by walk_at "od")) (congrArg PyData.int h))) ?_
    refine rvs_cons (sv_set (i := 3) sc_law_spoilt.nd rfl (Or.inl rfl) (ev_bin (by first | exact ev_ixL (ev_var 1 (by rfl) (pv 1)) ev_int (by walk_at "at") | exact ev_ixT (ev_var 1 (by rfl) (pv 1)) ev_int (by walk_at "at")) (ev_bin (ev_callB2 "len" (av_cons (ev_var 0 (by rfl) (pv 0)) av_nil) (by walk_at "cd") rfl T.b_len (by decide +kernel)) ev_int (by walk_at "od")) (od_mod (by rw [hlen]; omega)))) ?_
    refine rvs_cons (sv_if (k := false) (tv_w (wv_and (k := false) (k' := false) (tv_cmp (ev_var 2 (by rfl) (pv 2)) ev_int (by walk_at "od") (nomark _)) (fun h => by cases h))) (fun h => by cases h) (fun _ => svs_nil)) ?_
    refine rvs_cons (sv_if (k := false) (tv_cmp (ev_var 2 (by rfl) (pv 2)) ev_int (by walk_at "od") (nomark _)) (fun h => by cases h) (fun _ => svs_nil)) ?_
    refine rvs_cons (sv_set (i := 4) sc_law_spoilt.nd rfl (Or.inl rfl) (ev_ixL (ev_lst (av_cons ev_int (av_cons (ev_neg ev_int) (av_cons (ev_bin ev_int (by first | exact ev_ixL (ev_var 1 (by rfl) (pv 1)) ev_int (by walk_at "at") | exact ev_ixT (ev_var 1 (by rfl) (pv 1)) ev_int (by walk_at "at")) (by walk_at "od")) (av_cons (ev_bin (ev_neg ev_int) (by first | exact ev_ixL (ev_var 1 (by rfl) (pv 1)) ev_int (by walk_at "at") | exact ev_ixT (ev_var 1 (by rfl) (pv 1)) ev_int (by walk_at "at")) (by walk_at "od")) (av_cons (ev_bin ev_int ev_int (by walk_at "od")) av_nil))))) (by walk_at "sz")) (ev_bin (by first | exact ev_ixL (ev_var 1 (by rfl) (pv 1)) ev_int (by walk_at "at") | exact ev_ixT (ev_var 1 (by rfl) (pv 1)) ev_int (by walk_at "at")) ev_int (by walk_at "od")) (odd_at c d))) ?_
    refine rvs_cons (sv_if (k := false) (tv_cmp (ev_var 2 (by rfl) (pv 2)) ev_int (by walk_at "od") (nomark _)) (fun h => by cases h) (fun _ => svs_nil)) ?_
    refine rvs_cons (sv_if (k := false) (tv_w (wv_and (k := true) (k' := false) (tv_cmp (ev_var 2 (by rfl) (pv 2)) ev_int (by walk_at "od") (nomark _)) (fun _ => wv_and1 (tv_eq (tv_cmp (ev_callB2 "len" (av_cons (ev_var 0 (by rfl) (pv 0)) av_nil) (by walk_at "cd") rfl T.b_len (by decide +kernel)) ev_int (by walk_at "od") (nomark _)) (by rw [hlen]; first | exact decide_eq_true (by omega) | exact decide_eq_false (by omega)))))) (fun h => by cases h) (fun _ => svs_nil)) ?_
    by_cases hz : l.length = 0
    · refine rvs_of (svs_ret (sv_if (k := true) (tv_cmp (ev_callB2 "len" (av_cons (ev_var 0 (by rfl) (pv 0)) av_nil) (by walk_at "cd") rfl T.b_len (by decide +kernel)) ev_int (od_eq (by walk_at "un") rfl rfl (by walk_at "dp") (by rw [hlen, eqv_int]; first | exact decide_eq_true (by omega) | exact decide_eq_false (by omega))) (nomark _)) (fun _ => svs_ret (sv_ret (ev_eq (ev_lst (av_cons (ev_var 4 (by rfl) (pv 4)) av_nil) (by walk_at "sz")) (show _ = PyData.list ([oddV c d].map PyData.int) from rfl)))) (fun h => by cases h))) (out [oddV c d] (fun z => ?_) (by simp))
      have := z.1
      simp at this
      omega
    · have hp : 0 < (l.length : Int) := by omega
      have k0 := Int.emod_nonneg (b % ((l.length : Int) + 1)) (b := (l.length : Int)) (by omega)
      have k1 := Int.emod_lt_of_pos (b % ((l.length : Int) + 1)) hp
      refine rvs_cons (sv_if (k := false) (tv_cmp (ev_callB2 "len" (av_cons (ev_var 0 (by rfl) (pv 0)) av_nil) (by walk_at "cd") rfl T.b_len (by decide +kernel)) ev_int (od_eq (by walk_at "un") rfl rfl (by walk_at "dp") (by rw [hlen, eqv_int]; first | exact decide_eq_true (by omega) | exact decide_eq_false (by omega))) (nomark _)) (fun h => by cases h) (fun _ => svs_nil)) ?_
      refine rvs_of (svs_ret (sv_ret (ev_eq (ev_bin (ev_bin (ev_slL (ev_var 0 (by rfl) (pv 0)) ov_none (ov_some (ev_bin (ev_var 3 (by rfl) (pv 3)) (ev_callB2 "len" (av_cons (ev_var 0 (by rfl) (pv 0)) av_nil) (by walk_at "cd") rfl T.b_len (by decide +kernel)) (od_mod (by rw [hlen]; exact hp))))) (ev_lst (av_cons (ev_var 4 (by rfl) (pv 4)) av_nil) (by walk_at "sz")) (od_catL ?z1)) (ev_slL (ev_var 0 (by rfl) (pv 0)) (ov_some (ev_bin (ev_bin (ev_var 3 (by rfl) (pv 3)) (ev_callB2 "len" (av_cons (ev_var 0 (by rfl) (pv 0)) av_nil) (by walk_at "cd") rfl T.b_len (by decide +kernel)) (od_mod (by rw [hlen]; exact hp))) ev_int od_add)) ov_none) (od_catL ?z2)) ?_))) (out (l.take (b % ((l.length : Int) + 1) % (l.length : Int)).toNat ++ oddV c d :: l.drop (b % ((l.length : Int) + 1) % (l.length : Int) + 1).toNat) (fun z => by have z2 := z.2; rw [not_okW hodd] at z2; cases z2) ?_)
      case z1 =>
        rw [hlen, cut_to _ k0 (by rw [List.length_map]; omega), sizeLine_eq]
        simp
        omega
      case z2 =>
        rw [hlen, cut_to _ k0 (by rw [List.length_map]; omega), cut_from _ (by omega) (by rw [List.length_map]; omega), sizeLine_eq]
        simp
        omega
      · rw [hlen, cut_to _ k0 (by rw [List.length_map]; omega), cut_from _ (by omega) (by rw [List.length_map]; omega)]
        simp
      · simp
        omega
  · refine rvs_cons (sv_set (i := 2) sc_law_spoilt.nd rfl (Or.inl rfl) (ev_eq (ev_bin (by first | exact ev_ixL (ev_var 1 (by rfl) (pv 1)) ev_int (by walk_at "at") | exact ev_ixT (ev_var 1 (by rfl) (pv 1)) ev_int (by walk_at "at")) ev_int (by walk_at "od")) (congrArg PyData.int h))) ?_
    refine rvs_cons (sv_set (i := 3) sc_law_spoilt.nd rfl (Or.inl rfl) (ev_bin (by first | exact ev_ixL (ev_var 1 (by rfl) (pv 1)) ev_int (by walk_at "at") | exact ev_ixT (ev_var 1 (by rfl) (pv 1)) ev_int (by walk_at "at")) (ev_bin (ev_callB2 "len" (av_cons (ev_var 0 (by rfl) (pv 0)) av_nil) (by walk_at "cd") rfl T.b_len (by decide +kernel)) ev_int (by walk_at "od")) (od_mod (by rw [hlen]; omega)))) ?_
    refine rvs_cons (sv_if (k := false) (tv_w (wv_and (k := false) (k' := false) (tv_cmp (ev_var 2 (by rfl) (pv 2)) ev_int (by walk_at "od") (nomark _)) (fun h => by cases h))) (fun h => by cases h) (fun _ => svs_nil)) ?_
    refine rvs_cons (sv_if (k := false) (tv_cmp (ev_var 2 (by rfl) (pv 2)) ev_int (by walk_at "od") (nomark _)) (fun h => by cases h) (fun _ => svs_nil)) ?_
    refine rvs_cons (sv_set (i := 4) sc_law_spoilt.nd rfl (Or.inl rfl) (ev_ixL (ev_lst (av_cons ev_int (av_cons (ev_neg ev_int) (av_cons (ev_bin ev_int (by first | exact ev_ixL (ev_var 1 (by rfl) (pv 1)) ev_int (by walk_at "at") | exact ev_ixT (ev_var 1 (by rfl) (pv 1)) ev_int (by walk_at "at")) (by walk_at "od")) (av_cons (ev_bin (ev_neg ev_int) (by first | exact ev_ixL (ev_var 1 (by rfl) (pv 1)) ev_int (by walk_at "at") | exact ev_ixT (ev_var 1 (by rfl) (pv 1)) ev_int (by walk_at "at")) (by walk_at "od")) (av_cons (ev_bin ev_int ev_int (by walk_at "od")) av_nil))))) (by walk_at "sz")) (ev_bin (by first | exact ev_ixL (ev_var 1 (by rfl) (pv 1)) ev_int (by walk_at "at") | exact ev_ixT (ev_var 1 (by rfl) (pv 1)) ev_int (by walk_at "at")) ev_int (by walk_at "od")) (odd_at c d))) ?_
    refine rvs_cons (sv_if (k := false) (tv_cmp (ev_var 2 (by rfl) (pv 2)) ev_int (by walk_at "od") (nomark _)) (fun h => by cases h) (fun _ => svs_nil)) ?_
    refine rvs_of (svs_ret (sv_if (k := true) (tv_w (wv_and (k := true) (k' := true) (tv_cmp (ev_var 2 (by rfl) (pv 2)) ev_int (by walk_at "od") (nomark _)) (fun _ => wv_and1 (tv_eq (tv_cmp (ev_callB2 "len" (av_cons (ev_var 0 (by rfl) (pv 0)) av_nil) (by walk_at "cd") rfl T.b_len (by decide +kernel)) ev_int (by walk_at "od") (nomark _)) (by rw [hlen]; first | exact decide_eq_true (by omega) | exact decide_eq_false (by omega)))))) (fun _ => svs_ret (sv_ret (ev_eq (ev_slL (ev_var 0 (by rfl) (pv 0)) (ov_some ev_int) ov_none) (show _ = PyData.list ((l.drop 16).map PyData.int) from by rw [cut_from _ (by decide) (by rw [List.length_map]; omega)]; simp)))) (fun h => by cases h))) (out (l.drop 16) (fun z => ?_) (by simp; omega))
    have := z.1
    simp at this
    omega
end
section
variable {P : Program} {w : World} {K : PySem.W.Frag} {mg : Str → Option Value} {base : Heap}
set_option maxHeartbeats 2000000 in
theorem st4 (T : Txt mg) {f : Addr} {l : List Int} {a b c d : Int} (hl : l.length ≤ 1000) (hc : 0 ≤ c) (h : a % 6 = 4) (cdv : Value) (A : Around) (outer : List Env) (s : Shared) (H : Hp) (E : XK) (hr : Room 0 (A.deeper (PyProof.Rows.envOfC "_law_spoilt" (defScope s_law_spoilt) s.heap.objs.size f cdv))) :
    RVs (cxOf CX0 P w K mg base ["words", "numbers", "how", "at", "odd"] "_law_spoilt" (defScope s_law_spoilt) f cdv A outer s H E).nox (startG ["words", "numbers", "how", "at", "odd"] [.list (l.map PyData.int), .list [.int a, .int b, .int c, .int d]]) (defBody s_law_spoilt) (F_spoilt [.list (l.map PyData.int), .list [.int a, .int b, .int c, .int d]]) := by
  have out : ∀ l' : List Int, ¬ okL l' l.length → l'.length ≤ 2000 → F_spoilt [.list (l.map PyData.int), .list [.int a, .int b, .int c, .int d]] (.list (l'.map PyData.int)) := fun l' h1 h2 => ⟨l, l', _, rfl, rfl, h1, h2⟩
  have hlen : ((l.map PyData.int).length : Int) = l.length := by rw [List.length_map]
  have hodd := odd_bad (c := c) (d := d) hc
  refine rvs_cons (sv_set (i := 2) sc_law_spoilt.nd rfl (Or.inl rfl) (ev_eq (ev_bin (by first | exact ev_ixL (ev_var 1 (by rfl) (pv 1)) ev_int (by walk_at "at") | exact ev_ixT (ev_var 1 (by rfl) (pv 1)) ev_int (by walk_at "at")) ev_int (by walk_at "od")) (congrArg PyData.int h))) ?_
  refine rvs_cons (sv_set (i := 3) sc_law_spoilt.nd rfl (Or.inl rfl) (ev_bin (by first | exact ev_ixL (ev_var 1 (by rfl) (pv 1)) ev_int (by walk_at "at") | exact ev_ixT (ev_var 1 (by rfl) (pv 1)) ev_int (by walk_at "at")) (ev_bin (ev_callB2 "len" (av_cons (ev_var 0 (by rfl) (pv 0)) av_nil) (by walk_at "cd") rfl T.b_len (by decide +kernel)) ev_int (by walk_at "od")) (od_mod (by rw [hlen]; omega)))) ?_
  refine rvs_cons (sv_if (k := false) (tv_w (wv_and (k := false) (k' := false) (tv_cmp (ev_var 2 (by rfl) (pv 2)) ev_int (by walk_at "od") (nomark _)) (fun h => by cases h))) (fun h => by cases h) (fun _ => svs_nil)) ?_
  refine rvs_cons (sv_if (k := false) (tv_cmp (ev_var 2 (by rfl) (pv 2)) ev_int (by walk_at "od") (nomark _)) (fun h => by cases h) (fun _ => svs_nil)) ?_
  refine rvs_cons (sv_set (i := 4) sc_law_spoilt.nd rfl (Or.inl rfl) (ev_ixL (ev_lst (av_cons ev_int (av_cons (ev_neg ev_int) (av_cons (ev_bin ev_int (by first | exact ev_ixL (ev_var 1 (by rfl) (pv 1)) ev_int (by walk_at "at") | exact ev_ixT (ev_var 1 (by rfl) (pv 1)) ev_int (by walk_at "at")) (by walk_at "od")) (av_cons (ev_bin (ev_neg ev_int) (by first | exact ev_ixL (ev_var 1 (by rfl) (pv 1)) ev_int (by walk_at "at") | exact ev_ixT (ev_var 1 (by rfl) (pv 1)) ev_int (by walk_at "at")) (by walk_at "od")) (av_cons (ev_bin ev_int ev_int (by walk_at "od")) av_nil))))) (by walk_at "sz")) (ev_bin (by first | exact ev_ixL (ev_var 1 (by rfl) (pv 1)) ev_int (by walk_at "at") | exact ev_ixT (ev_var 1 (by rfl) (pv 1)) ev_int (by walk_at "at")) ev_int (by walk_at "od")) (odd_at c d))) ?_
  refine rvs_cons (sv_if (k := false) (tv_cmp (ev_var 2 (by rfl) (pv 2)) ev_int (by walk_at "od") (nomark _)) (fun h => by cases h) (fun _ => svs_nil)) ?_
  refine rvs_cons (sv_if (k := false) (tv_w (wv_and (k := false) (k' := false) (tv_cmp (ev_var 2 (by rfl) (pv 2)) ev_int (by walk_at "od") (nomark _)) (fun h => by cases h))) (fun h => by cases h) (fun _ => svs_nil)) ?_
  by_cases hz : l.length = 0
  · refine rvs_of (svs_ret (sv_if (k := true) (tv_cmp (ev_callB2 "len" (av_cons (ev_var 0 (by rfl) (pv 0)) av_nil) (by walk_at "cd") rfl T.b_len (by decide +kernel)) ev_int (od_eq (by walk_at "un") rfl rfl (by walk_at "dp") (by rw [hlen, eqv_int]; first | exact decide_eq_true (by omega) | exact decide_eq_false (by omega))) (nomark _)) (fun _ => svs_ret (sv_ret (ev_eq (ev_lst (av_cons (ev_var 4 (by rfl) (pv 4)) av_nil) (by walk_at "sz")) (show _ = PyData.list ([oddV c d].map PyData.int) from rfl)))) (fun h => by cases h))) (out [oddV c d] (fun z => ?_) (by simp))
    have := z.1
    simp at this
    omega
  · have hp : 0 < (l.length : Int) := by omega
    have k0 := Int.emod_nonneg (b % ((l.length : Int) + 1)) (b := (l.length : Int)) (by omega)
    have k1 := Int.emod_lt_of_pos (b % ((l.length : Int) + 1)) hp
    refine rvs_cons (sv_if (k := false) (tv_cmp (ev_callB2 "len" (av_cons (ev_var 0 (by rfl) (pv 0)) av_nil) (by walk_at "cd") rfl T.b_len (by decide +kernel)) ev_int (od_eq (by walk_at "un") rfl rfl (by walk_at "dp") (by rw [hlen, eqv_int]; first | exact decide_eq_true (by omega) | exact decide_eq_false (by omega))) (nomark _)) (fun h => by cases h) (fun _ => svs_nil)) ?_
    refine rvs_of (svs_ret (sv_ret (ev_eq (ev_bin (ev_bin (ev_slL (ev_var 0 (by rfl) (pv 0)) ov_none (ov_some (ev_bin (ev_var 3 (by rfl) (pv 3)) (ev_callB2 "len" (av_cons (ev_var 0 (by rfl) (pv 0)) av_nil) (by walk_at "cd") rfl T.b_len (by decide +kernel)) (od_mod (by rw [hlen]; exact hp))))) (ev_lst (av_cons (ev_var 4 (by rfl) (pv 4)) av_nil) (by walk_at "sz")) (od_catL ?z1)) (ev_slL (ev_var 0 (by rfl) (pv 0)) (ov_some (ev_bin (ev_bin (ev_var 3 (by rfl) (pv 3)) (ev_callB2 "len" (av_cons (ev_var 0 (by rfl) (pv 0)) av_nil) (by walk_at "cd") rfl T.b_len (by decide +kernel)) (od_mod (by rw [hlen]; exact hp))) ev_int od_add)) ov_none) (od_catL ?z2)) ?_))) (out (l.take (b % ((l.length : Int) + 1) % (l.length : Int)).toNat ++ oddV c d :: l.drop (b % ((l.length : Int) + 1) % (l.length : Int) + 1).toNat) (fun z => by have z2 := z.2; rw [not_okW hodd] at z2; cases z2) ?_)
    case z1 =>
      rw [hlen, cut_to _ k0 (by rw [List.length_map]; omega), sizeLine_eq]
      simp
      omega
    case z2 =>
      rw [hlen, cut_to _ k0 (by rw [List.length_map]; omega), cut_from _ (by omega) (by rw [List.length_map]; omega), sizeLine_eq]
      simp
      omega
    · rw [hlen, cut_to _ k0 (by rw [List.length_map]; omega), cut_from _ (by omega) (by rw [List.length_map]; omega)]
      simp
    · simp
      omega
end
section
variable {P : Program} {w : World} {K : PySem.W.Frag} {mg : Str → Option Value} {base : Heap}
set_option maxHeartbeats 2000000 in
theorem st5 (T : Txt mg) {f : Addr} {l : List Int} {a b c d : Int} (hl : l.length ≤ 1000) (hc : 0 ≤ c) (h : a % 6 = 5) (cdv : Value) (A : Around) (outer : List Env) (s : Shared) (H : Hp) (E : XK) (hr : Room 0 (A.deeper (PyProof.Rows.envOfC "_law_spoilt" (defScope s_law_spoilt) s.heap.objs.size f cdv))) :
    RVs (cxOf CX0 P w K mg base ["words", "numbers", "how", "at", "odd"] "_law_spoilt" (defScope s_law_spoilt) f cdv A outer s H E).nox (startG ["words", "numbers", "how", "at", "odd"] [.list (l.map PyData.int), .list [.int a, .int b, .int c, .int d]]) (defBody s_law_spoilt) (F_spoilt [.list (l.map PyData.int), .list [.int a, .int b, .int c, .int d]]) := by
  have out : ∀ l' : List Int, ¬ okL l' l.length → l'.length ≤ 2000 → F_spoilt [.list (l.map PyData.int), .list [.int a, .int b, .int c, .int d]] (.list (l'.map PyData.int)) := fun l' h1 h2 => ⟨l, l', _, rfl, rfl, h1, h2⟩
  have hlen : ((l.map PyData.int).length : Int) = l.length := by rw [List.length_map]
  have hodd := odd_bad (c := c) (d := d) hc
  refine rvs_cons (sv_set (i := 2) sc_law_spoilt.nd rfl (Or.inl rfl) (ev_eq (ev_bin (by first | exact ev_ixL (ev_var 1 (by rfl) (pv 1)) ev_int (by walk_at "at") | exact ev_ixT (ev_var 1 (by rfl) (pv 1)) ev_int (by walk_at "at")) ev_int (by walk_at "od")) (congrArg PyData.int h))) ?_
  refine rvs_cons (sv_set (i := 3) sc_law_spoilt.nd rfl (Or.inl rfl) (ev_bin (by first | exact ev_ixL (ev_var 1 (by rfl) (pv 1)) ev_int (by walk_at "at") | exact ev_ixT (ev_var 1 (by rfl) (pv 1)) ev_int (by walk_at "at")) (ev_bin (ev_callB2 "len" (av_cons (ev_var 0 (by rfl) (pv 0)) av_nil) (by walk_at "cd") rfl T.b_len (by decide +kernel)) ev_int (by walk_at "od")) (od_mod (by rw [hlen]; omega)))) ?_
  refine rvs_cons (sv_if (k := false) (tv_w (wv_and (k := false) (k' := false) (tv_cmp (ev_var 2 (by rfl) (pv 2)) ev_int (by walk_at "od") (nomark _)) (fun h => by cases h))) (fun h => by cases h) (fun _ => svs_nil)) ?_
  refine rvs_cons (sv_if (k := false) (tv_cmp (ev_var 2 (by rfl) (pv 2)) ev_int (by walk_at "od") (nomark _)) (fun h => by cases h) (fun _ => svs_nil)) ?_
  refine rvs_cons (sv_set (i := 4) sc_law_spoilt.nd rfl (Or.inl rfl) (ev_ixL (ev_lst (av_cons ev_int (av_cons (ev_neg ev_int) (av_cons (ev_bin ev_int (by first | exact ev_ixL (ev_var 1 (by rfl) (pv 1)) ev_int (by walk_at "at") | exact ev_ixT (ev_var 1 (by rfl) (pv 1)) ev_int (by walk_at "at")) (by walk_at "od")) (av_cons (ev_bin (ev_neg ev_int) (by first | exact ev_ixL (ev_var 1 (by rfl) (pv 1)) ev_int (by walk_at "at") | exact ev_ixT (ev_var 1 (by rfl) (pv 1)) ev_int (by walk_at "at")) (by walk_at "od")) (av_cons (ev_bin ev_int ev_int (by walk_at "od")) av_nil))))) (by walk_at "sz")) (ev_bin (by first | exact ev_ixL (ev_var 1 (by rfl) (pv 1)) ev_int (by walk_at "at") | exact ev_ixT (ev_var 1 (by rfl) (pv 1)) ev_int (by walk_at "at")) ev_int (by walk_at "od")) (odd_at c d))) ?_
  refine rvs_cons (sv_if (k := false) (tv_cmp (ev_var 2 (by rfl) (pv 2)) ev_int (by walk_at "od") (nomark _)) (fun h => by cases h) (fun _ => svs_nil)) ?_
  refine rvs_cons (sv_if (k := false) (tv_w (wv_and (k := false) (k' := false) (tv_cmp (ev_var 2 (by rfl) (pv 2)) ev_int (by walk_at "od") (nomark _)) (fun h => by cases h))) (fun h => by cases h) (fun _ => svs_nil)) ?_
  by_cases hz : l.length = 0
  · refine rvs_of (svs_ret (sv_if (k := true) (tv_cmp (ev_callB2 "len" (av_cons (ev_var 0 (by rfl) (pv 0)) av_nil) (by walk_at "cd") rfl T.b_len (by decide +kernel)) ev_int (od_eq (by walk_at "un") rfl rfl (by walk_at "dp") (by rw [hlen, eqv_int]; first | exact decide_eq_true (by omega) | exact decide_eq_false (by omega))) (nomark _)) (fun _ => svs_ret (sv_ret (ev_eq (ev_lst (av_cons (ev_var 4 (by rfl) (pv 4)) av_nil) (by walk_at "sz")) (show _ = PyData.list ([oddV c d].map PyData.int) from rfl)))) (fun h => by cases h))) (out [oddV c d] (fun z => ?_) (by simp))
    have := z.1
    simp at this
    omega
  · have hp : 0 < (l.length : Int) := by omega
    have k0 := Int.emod_nonneg (b % ((l.length : Int) + 1)) (b := (l.length : Int)) (by omega)
    have k1 := Int.emod_lt_of_pos (b % ((l.length : Int) + 1)) hp
    refine rvs_cons (sv_if (k := false) (tv_cmp (ev_callB2 "len" (av_cons (ev_var 0 (by rfl) (pv 0)) av_nil) (by walk_at "cd") rfl T.b_len (by decide +kernel)) ev_int (od_eq (by walk_at "un") rfl rfl (by walk_at "dp") (by rw [hlen, eqv_int]; first | exact decide_eq_true (by omega) | exact decide_eq_false (by omega))) (nomark _)) (fun h => by cases h) (fun _ => svs_nil)) ?_
    refine rvs_of (svs_ret (sv_ret (ev_eq (ev_bin (ev_bin (ev_slL (ev_var 0 (by rfl) (pv 0)) ov_none (ov_some (ev_bin (ev_var 3 (by rfl) (pv 3)) (ev_callB2 "len" (av_cons (ev_var 0 (by rfl) (pv 0)) av_nil) (by walk_at "cd") rfl T.b_len (by decide +kernel)) (od_mod (by rw [hlen]; exact hp))))) (ev_lst (av_cons (ev_var 4 (by rfl) (pv 4)) av_nil) (by walk_at "sz")) (od_catL ?z1)) (ev_slL (ev_var 0 (by rfl) (pv 0)) (ov_some (ev_bin (ev_bin (ev_var 3 (by rfl) (pv 3)) (ev_callB2 "len" (av_cons (ev_var 0 (by rfl) (pv 0)) av_nil) (by walk_at "cd") rfl T.b_len (by decide +kernel)) (od_mod (by rw [hlen]; exact hp))) ev_int od_add)) ov_none) (od_catL ?z2)) ?_))) (out (l.take (b % ((l.length : Int) + 1) % (l.length : Int)).toNat ++ oddV c d :: l.drop (b % ((l.length : Int) + 1) % (l.length : Int) + 1).toNat) (fun z => by have z2 := z.2; rw [not_okW hodd] at z2; cases z2) ?_)
    case z1 =>
      rw [hlen, cut_to _ k0 (by rw [List.length_map]; omega), sizeLine_eq]
      simp
      omega
    case z2 =>
      rw [hlen, cut_to _ k0 (by rw [List.length_map]; omega), cut_from _ (by omega) (by rw [List.length_map]; omega), sizeLine_eq]
      simp
      omega
    · rw [hlen, cut_to _ k0 (by rw [List.length_map]; omega), cut_from _ (by omega) (by rw [List.length_map]; omega)]
      simp
    · simp
      omega
end
section
variable {P : Program} {w : World} {K : PySem.W.Frag} {mg : Str → Option Value} {base : Heap}
theorem r_law_spoilt (T : Txt mg) {f : Addr} {fd : FuncData} (F : Fun K "_law_spoilt" "_law_spoilt" s_law_spoilt f fd) (hm : mg "_law_spoilt" = some (.ref f)) : RFn P w K mg base 1 "_law_spoilt" F_spoilt preSp := by
  refine F.dataR hm (F.binds fun _ _ _ _ _ _ us hl => match us, hl with | [_, _], _ => rfl) sc_law_spoilt (fun ds ⟨_, _, _, _, _, _, _, e⟩ => by rw [e]; rfl) fun cdv A outer s H E ds hr ⟨l, a, b, c, d, hl, hc, e⟩ => ?_
  subst e
  have hw : a % 6 = 0 ∨ a % 6 = 1 ∨ a % 6 = 2 ∨ a % 6 = 3 ∨ a % 6 = 4 ∨ a % 6 = 5 := by omega
  rcases hw with h | h | h | h | h | h
  · exact st0 T hl hc h cdv A outer s H E hr
  · exact st1 T hl hc h cdv A outer s H E hr
  · exact st2 T hl hc h cdv A outer s H E hr
  · exact st3 T hl hc h cdv A outer s H E hr
  · exact st4 T hl hc h cdv A outer s H E hr
  · exact st5 T hl hc h cdv A outer s H E hr
end
section
variable {P : Program} {w : World} {K : PySem.W.Frag} {mg : Str → Option Value} {base : Heap}
def isTri (d : PyData) : Prop := ∃ a b c : Bool, d = .tuple [.bool a, .bool b, .bool c]
def drawOk (r : PyData) : Prop := ∃ (ps : List PyData) (cells boxes : List Int) (place : Int), r = .tuple [.list ps, .list (cells.map PyData.int), .list (boxes.map PyData.int), .int place] ∧ ps.length ≤ 12 ∧ (∀ p ∈ ps, isTri p) ∧ okL cells (16 * ps.length) ∧ okL boxes 4 ∧ 0 ≤ place ∧ place < 4096
def preDr (ds : List PyData) : Prop := ∃ ns : List Int, ns.length = 20 ∧ (∀ r ∈ ns, 0 ≤ r ∧ r < 1000000) ∧ ds = [.list (ns.map PyData.int)]
def manyOf (n : Int) : Int := if n / 13 % 3 = 1 then (if n / 39 % 4 = 0 then 1 else if n / 39 % 4 = 1 then 8 else if n / 39 % 4 = 2 then 0 else 9) else n % 13
theorem many_ok (n : Int) : 0 ≤ manyOf n ∧ manyOf n ≤ 12 := by
  unfold manyOf
  repeat' split
  all_goals omega
theorem many_at (n : Int) : atI ([.int 1, .int 8, .int 0, .int 9] : List PyData) (n / 39 % 4) = some (.int (if n / 39 % 4 = 0 then 1 else if n / 39 % 4 = 1 then 8 else if n / 39 % 4 = 2 then 0 else 9)) := by
  have h : n / 39 % 4 = 0 ∨ n / 39 % 4 = 1 ∨ n / 39 % 4 = 2 ∨ n / 39 % 4 = 3 := by omega
  rcases h with h | h | h | h <;> rw [h] <;> rfl
theorem okW_mod {α : Type} (g : α → Int) (l : List α) : okW (l.map fun k => g k % 4096) = true := by
  unfold okW
  rw [List.all_map, List.all_eq_true]
  intro k _
  have h1 := Int.emod_nonneg (g k) (b := 4096) (by decide)
  have h2 := Int.emod_lt_of_pos (g k) (b := 4096) (by decide)
  simp [h1, h2]
theorem r_law_drawn (T : Txt mg) {f : Addr} {fd : FuncData} (F : Fun K "_law_drawn" "_law_drawn" s_law_drawn f fd) (hm : mg "_law_drawn" = some (.ref f)) : RFn P w K mg base 1 "_law_drawn" (fun _ r => drawOk r) preDr := by
  refine F.dataR hm (F.binds fun _ _ _ _ _ _ us hl => match us, hl with | [_], _ => rfl) sc_law_drawn (fun ds ⟨_, _, _, e⟩ => by rw [e]; rfl) fun cdv A outer s H E ds hr ⟨ns, hl, hb, e⟩ => ?_
  subst e
  have g0 : ∀ (i : Int), 0 ≤ i → i < 20 → atI (ns.map PyData.int) i = some (.int (ns.getD i.toNat 0)) := fun i h0 h1 => at_ints h0 (by omega)
  have hm0 := many_ok (ns.getD 0 0)
  refine rvs_cons (G1 := [some (.list (ns.map PyData.int)), some (.int (ns.getD 0 0 % 13)), none, none, none]) (sv_set (i := 1) sc_law_drawn.nd rfl (by first | exact Or.inl rfl | exact Or.inr rfl) (ev_bin (ev_ixL (ev_var 0 (by rfl) (pv 0)) ev_int (g0 0 (by decide) (by decide))) ev_int (by walk_at "od"))) ?_
  refine rvs_cons (G1 := [some (.list (ns.map PyData.int)), some (.int (manyOf (ns.getD 0 0))), none, none, none]) ?_ ?_
  · by_cases h : ns.getD 0 0 / 13 % 3 = 1
    · refine sv_if (k := true) (tv_cmp (ev_bin (ev_bin (ev_ixL (ev_var 0 (by rfl) (pv 0)) ev_int (g0 0 (by decide) (by decide))) ev_int (by walk_at "od")) ev_int (by walk_at "od")) ev_int (od_eq (by walk_at "un") rfl rfl (by walk_at "dp") (by rw [eqv_int]; exact decide_eq_true h)) (nomark _)) (fun _ => svs_cons (sv_set (i := 1) sc_law_drawn.nd rfl (by first | exact Or.inl rfl | exact Or.inr rfl) (ev_eq (ev_ixL (ev_lst (av_cons ev_int (av_cons ev_int (av_cons ev_int (av_cons ev_int av_nil)))) (by walk_at "sz")) (ev_bin (ev_bin (ev_ixL (ev_var 0 (by rfl) (pv 0)) ev_int (g0 0 (by decide) (by decide))) ev_int (by walk_at "od")) ev_int (by walk_at "od")) (many_at _)) ?_)) svs_nil) (fun h => by cases h)
      unfold manyOf
      rw [if_pos h]
      rfl
    · have e : manyOf (ns.getD 0 0) = ns.getD 0 0 % 13 := by unfold manyOf; rw [if_neg h]
      rw [e]
      exact sv_if (k := false) (tv_cmp (ev_bin (ev_bin (ev_ixL (ev_var 0 (by rfl) (pv 0)) ev_int (g0 0 (by decide) (by decide))) ev_int (by walk_at "od")) ev_int (by walk_at "od")) ev_int (od_eq (by walk_at "un") rfl rfl (by walk_at "dp") (by rw [eqv_int]; exact decide_eq_false h)) (nomark _)) (fun h => by cases h) (fun _ => svs_nil)
  generalize hmm : manyOf (ns.getD 0 0) = m at hm0
  have mn : ((m.toNat : Nat) : Int) = m := Int.toNat_of_nonneg hm0.1
  have one : ∀ k : Nat, (1 : Int) + (0 + (k : Int)) > 0 := fun k => by omega
  refine rvs_cons (sv_setComp (ix := [0]) (N := ["k", "numbers"]) (B := bind1) (as := List.range m.toNat) (D := fun (k : Nat) => PyData.int (0 + (k : Int))) (fun _ => true) (fun k => PyData.tuple [.bool (decide (ns.getD 1 0 / (1 + (0 + (k : Int))) % 2 = 0)), .bool (decide (ns.getD 2 0 / (1 + (0 + (k : Int))) % 2 = 0)), .bool (decide ((0 + (k : Int)) % 2 = 0))]) rfl sc_law_drawn.nd (i := 2) rfl rfl (of_decide_eq_true (by kernel_rfl)) (own_name (by decide)) (iv_range1 (ev_var 1 (by rfl) (pv 1)) (by omega) (by omega) rfl T.b_range) (by rw [List.length_range, sizeLine_eq]; omega) (fun _ _ => bindD1 _) (fun _ _ _ _ _ => pg_name (i := 0) (show List.Nodup (["k", "numbers"] : List Str) by decide +kernel) rfl (Or.inl rfl)) (fun a ha cl C s H fp => pf_D0)
    (fun a ha hP cl C s H fp => by
      have ha := List.mem_range.mp ha
      refine ev_tup (av_cons (ev_eq (ev_cmp (ev_bin (ev_bin (ev_ixL (ev_var 1 (by rfl) (pv 1)) ev_int (at_ints (by decide) (by rw [hl]; decide))) (ev_bin ev_int (ev_var 0 (by rfl) (pv 0)) (by walk_at "od")) (od_fdiv ⟨one a, by omega⟩)) ev_int (by walk_at "od")) ev_int (od_eq (by walk_at "un") rfl rfl (by walk_at "dp") rfl) (nomark _)) (by rw [eqv_int]; rfl)) (av_cons (ev_eq (ev_cmp (ev_bin (ev_bin (ev_ixL (ev_var 1 (by rfl) (pv 1)) ev_int (at_ints (by decide) (by rw [hl]; decide))) (ev_bin ev_int (ev_var 0 (by rfl) (pv 0)) (by walk_at "od")) (od_fdiv ⟨one a, by omega⟩)) ev_int (by walk_at "od")) ev_int (od_eq (by walk_at "un") rfl rfl (by walk_at "dp") rfl) (nomark _)) (by rw [eqv_int]; rfl)) (av_cons (ev_eq (ev_cmp (ev_bin (ev_var 0 (by rfl) (pv 0)) ev_int (by walk_at "od")) ev_int (by walk_at "od") (nomark _)) (by rw [eqv_int])) av_nil))) (by walk_at "sz"))) ?_
  refine rvs_cons (sv_setComp (ix := [0]) (N := ["k", "numbers"]) (B := bind1) (as := List.range (16 * m).toNat) (D := fun (k : Nat) => PyData.int (0 + (k : Int))) (fun _ => true) (fun k => PyData.int (ns.getD (3 + (0 + (k : Int)) % 5).toNat 0 / (1 + (0 + (k : Int))) % 4096)) rfl sc_law_drawn.nd (i := 3) rfl rfl (of_decide_eq_true (by kernel_rfl)) (own_name (by decide)) (iv_range1 (ev_bin ev_int (ev_var 1 (by rfl) (pv 1)) (by walk_at "od")) (by omega) (by omega) rfl T.b_range) (by rw [List.length_range, sizeLine_eq]; omega) (fun _ _ => bindD1 _) (fun _ _ _ _ _ => pg_name (i := 0) (show List.Nodup (["k", "numbers"] : List Str) by decide +kernel) rfl (Or.inl rfl)) (fun a ha cl C s H fp => pf_D0)
    (fun a ha hP cl C s H fp => by
      have ha := List.mem_range.mp ha
      exact ev_bin (ev_bin (ev_ixL (ev_var 1 (by rfl) (pv 1)) (ev_bin ev_int (ev_bin (ev_var 0 (by rfl) (pv 0)) ev_int (by walk_at "od")) (by walk_at "od")) (at_ints (by omega) (by rw [hl]; omega))) (ev_bin ev_int (ev_var 0 (by rfl) (pv 0)) (by walk_at "od")) (od_fdiv ⟨one a, by omega⟩)) ev_int (by walk_at "od"))) ?_
  refine rvs_cons (sv_setComp (ix := [0]) (N := ["k", "numbers"]) (B := bind1) (as := List.range (4 : Int).toNat) (D := fun (k : Nat) => PyData.int (0 + (k : Int))) (fun _ => true) (fun k => PyData.int (ns.getD (8 + (0 + (k : Int))).toNat 0 % 4096)) rfl sc_law_drawn.nd (i := 4) rfl rfl (of_decide_eq_true (by kernel_rfl)) (own_name (by decide)) (iv_range1 ev_int (by decide) (by decide) rfl T.b_range) (by rw [sizeLine_eq]; decide) (fun _ _ => bindD1 _) (fun _ _ _ _ _ => pg_name (i := 0) (show List.Nodup (["k", "numbers"] : List Str) by decide +kernel) rfl (Or.inl rfl)) (fun a ha cl C s H fp => pf_D0)
    (fun a ha hP cl C s H fp => by
      have ha : a < 4 := List.mem_range.mp ha
      exact ev_bin (ev_ixL (ev_var 1 (by rfl) (pv 1)) (ev_bin ev_int (ev_var 0 (by rfl) (pv 0)) (by walk_at "od")) (at_ints (by omega) (by rw [hl]; omega))) ev_int (by walk_at "od"))) ?_
  refine rvs_of (svs_ret (sv_ret (ev_tup (av_cons (ev_var 2 (by rfl) (pv 2)) (av_cons (ev_var 3 (by rfl) (pv 3)) (av_cons (ev_var 4 (by rfl) (pv 4)) (av_cons (ev_bin (ev_ixL (ev_var 0 (by rfl) (pv 0)) ev_int (g0 12 (by decide) (by decide))) ev_int (by walk_at "od")) av_nil)))) (by walk_at "sz")))) ?_
  refine ⟨(List.range m.toNat).map (fun (k : Nat) => PyData.tuple [.bool (decide (ns.getD 1 0 / (1 + (0 + (k : Int))) % 2 = 0)), .bool (decide (ns.getD 2 0 / (1 + (0 + (k : Int))) % 2 = 0)), .bool (decide ((0 + (k : Int)) % 2 = 0))]), (List.range (16 * m).toNat).map (fun (k : Nat) => (ns.getD (3 + (0 + (k : Int)) % 5).toNat 0 / (1 + (0 + (k : Int)))) % 4096), (List.range (4 : Int).toNat).map (fun (k : Nat) => ns.getD (8 + (0 + (k : Int))).toNat 0 % 4096), ns.getD 12 0 % 4096, ?_, ?_, ?_, ⟨?_, okW_mod _ _⟩, ⟨?_, okW_mod _ _⟩, ?_, ?_⟩
  · simp only [filter_true, List.map_map]
    rfl
  · rw [List.length_map, List.length_range]; omega
  · intro p hp
    obtain ⟨k, _, rfl⟩ := List.mem_map.mp hp
    exact ⟨_, _, _, rfl⟩
  · rw [List.length_map, List.length_range, List.length_map, List.length_range]; omega
  · rfl
  · exact Int.emod_nonneg _ (by decide)
  · exact Int.emod_lt_of_pos _ (by decide)
end
section
variable {P : Program} {w : World} {K : PySem.W.Frag} {mg : Str → Option Value} {base : Heap}
theorem dvs4 {K : PySem.W.Frag} {H : Hp} {vs : List V} {a b c d : PyData} (h : DVs K H vs [a, b, c, d]) : ∃ v1 v2 v3 v4, vs = [v1, v2, v3, v4] := by
  have := h.length
  match vs, this with
  | [v1, v2, v3, v4], _ => exact ⟨v1, v2, v3, v4, rfl⟩
theorem none_ne {H : Hp} {b x : Addr} {o} (e : H b = some o) (hx : H x = none) : b ≠ x := fun c => by
  subst c
  rw [hx] at e
  cases e
theorem ex_meth {X : Cx} {Ex : St → Hp → Addr → Prop} {G : Gam} {o : Expr} {Cx : Addr} {m : Str} {apos pos : Pos} {pl : Sem Bool} (he : EXv X Ex G o Cx)
    (ht : eval (.Call (.Attribute o m apos) [] [] pos) X.env = (do
      let ov ← eval o X.env
      standAt apos.atName
      let (f, first) ← holding [ov] (getMethod ov m pl)
      callWith pos f first (backTo pos (starEach [] X.env)) (backToKw pos (keywordEach [] X.env))) := by rfl) :
    EXv X Ex G (.Call (.Attribute o m apos) [] [] pos) Cx := by
  intro pins s σ H Q I h
  exact PySem.W.methodCall_KW (pl := pl) (thn (he pins s σ H (fun _ _ => False) I h) fun u s1 ⟨_, _, _, _, z⟩ => z.elim) ht
abbrev mDs (ps : List PyData) (cells boxes : List Int) (place : Int) : List PyData := [.list ps, .list (cells.map PyData.int), .list (boxes.map PyData.int), .int place]
theorem mx_new {X : Cx} {Ex : St → Hp → Addr → Prop} {G : Gam} {C CP CS Cx fI : Addr} {fdI : FuncData} {ps : List PyData} {cells boxes : List Int} {place : Int} {a1 a2 a3 a4 : Expr} {p1 p2 p3 p4 : Pos} {pl : Sem Bool} (CM : ClsM X.K X.mg C) (M : Mk X.K C fI) (bI : Binds X.K fdI ["self", "pages", "cells", "boxes", "place"] []) (FI : FnOk X.prog X.w X.K X.mg X.base (CXr X.prog X.w) 5 fI fdI ["self", "pages", "cells", "boxes", "place"] (spInit X.K C CP CS))
    (hr : Room 6 X.A) (g1 : Gl X "Machine") (W : XW X Ex) (ha : AV X G [a1, a2, a3, a4] (mDs ps cells boxes place)) (hF : F_cs CP CS (mDs ps cells boxes place) (.exc Cx))
    (e1 : starEach [a1, a2, a3, a4] X.env = (false, eval a1 X.env) :: starEach [a2, a3, a4] X.env := by rfl) (e2 : (backTo p2 (starEach [a2, a3, a4] X.env)).any (·.1) = false := by rfl)
    (ht : eval (.Call (.Attribute (.Call (.Name "Machine" p1) [a1, a2, a3, a4] [] p2) "done" p3) [] [] p4) X.env = (do
      let ov ← eval (.Call (.Name "Machine" p1) [a1, a2, a3, a4] [] p2) X.env
      standAt p3.atName
      let (f, first) ← holding [ov] (getMethod ov "done" pl)
      callWith p4 f first (backTo p4 (starEach [] X.env)) (backToKw p4 (keywordEach [] X.env))) := by rfl) :
    EXv X Ex G (.Call (.Attribute (.Call (.Name "Machine" p1) [a1, a2, a3, a4] [] p2) "done" p3) [] [] p4) Cx := by
  refine ex_meth (pl := pl) (ex_make M FI hr g1 CM.at_ bI W ha (fun vs H y dy Q E dv hy hdy hne hE => ?_) (by decide) e1 e2) ht
  obtain ⟨v1, v2, v3, v4, rfl⟩ := dvs4 dv
  have sm : Same H (upd (upd H dy (.own y)) y (.ins C dy [])) := fun b o e => by
    rw [upd_ne (none_ne e hy), upd_ne (none_ne e hdy)]
    exact e
  exact ⟨y, dy, v1, v2, v3, v4, ps, cells, boxes, place, .exc Cx, rfl, upd_same, dv.mono sm, hF, fun H' s' => hE H' (sm.trans s')⟩
theorem ev_new {X : Cx} {G : Gam} {C CP CS fI fD : Addr} {fdI fdD : FuncData} {ps : List PyData} {cells boxes : List Int} {place : Int} {a1 a2 a3 a4 : Expr} {p1 p2 p3 p4 : Pos} {pl : Sem Bool} (CM : ClsM X.K X.mg C) (M : Mk X.K C fI) (bI : Binds X.K fdI ["self", "pages", "cells", "boxes", "place"] []) (FI : FnOk X.prog X.w X.K X.mg X.base (CXr X.prog X.w) 5 fI fdI ["self", "pages", "cells", "boxes", "place"] (spInit X.K C CP CS))
    (hmt : Meth X.K C "done" fD) (bD : Binds X.K fdD ["self"] []) (FD : FnOk X.prog X.w X.K X.mg X.base CX0 1 fD fdD ["self"] (spDone C))
    (hr : Room 6 X.A) (g1 : Gl X "Machine") (ha : AV X G [a1, a2, a3, a4] (mDs ps cells boxes place)) (hF : F_cs CP CS (mDs ps cells boxes place) (.ok .none))
    (e1 : starEach [a1, a2, a3, a4] X.env = (false, eval a1 X.env) :: starEach [a2, a3, a4] X.env := by rfl) (e2 : (backTo p2 (starEach [a2, a3, a4] X.env)).any (·.1) = false := by rfl)
    (ht : eval (.Call (.Attribute (.Call (.Name "Machine" p1) [a1, a2, a3, a4] [] p2) "done" p3) [] [] p4) X.env = (do
      let ov ← eval (.Call (.Name "Machine" p1) [a1, a2, a3, a4] [] p2) X.env
      standAt p3.atName
      let (f, first) ← holding [ov] (getMethod ov "done" pl)
      callWith p4 f first (backTo p4 (starEach [] X.env)) (backToKw p4 (keywordEach [] X.env))) := by rfl) :
    EV X G (.Call (.Attribute (.Call (.Name "Machine" p1) [a1, a2, a3, a4] [] p2) "done" p3) [] [] p4) (.int 0) := by
  refine (pe_meth0 (pl := pl) (pe_make M FI hr g1 CM.at_ bI .nil (E := fun _ _ _ => False) (fun _ _ _ _ _ _ _ ⟨_, _, _, _, _, _, _, _, _, _, z⟩ => z.elim) ha (by decide) e1 e2) CM.cl hmt FD (hr.mono (by decide)) bD .nil pass0 ht).imp fun σ H Q ⟨h, qq⟩ => ⟨h, fun vs H1 s1 dvs x dx hx hdx hne => ?_⟩
  obtain ⟨v1, v2, v3, v4, rfl⟩ := dvs4 dvs
  have sm : Same H1 (upd (upd H1 dx (.own x)) x (.ins C dx [])) := fun b o e => by
    rw [upd_ne (none_ne e hx), upd_ne (none_ne e hdx)]
    exact e
  refine ⟨x, dx, v1, v2, v3, v4, ps, cells, boxes, place, .ok .none, rfl, upd_same, dvs.mono sm, hF, fun fs H2 o2 keep2 fl2 nd => ⟨rfl, ?_⟩⟩
  have s2 : Same H1 H2 := fun b o e => keep2 b (none_ne e hx) o (sm b o e)
  obtain ⟨v, l, dv⟩ := fl2 _ List.mem_cons_self
  obtain rfl := dv.of_int
  exact ⟨x, dx, fs, rfl, o2, nd, x, dx, fs, rfl, o2, l, qq (.int 0) H2 (s1.trans s2) dv⟩
end
section
variable {P : Program} {w : World} {K : PySem.W.Frag} {mg : Str → Option Value} {base : Heap}
structure ExcS (K : PySem.W.Frag) (mg : Str → Option Value) (CP CS L B1 B2 B3 B4 : Addr) : Prop where
  mP : mg "BadPages" = some (.ref CP)
  mS : mg "BadState" = some (.ref CS)
  mL : mg "LikeError" = some (.ref L)
  m1 : mg "BadDeed" = some (.ref B1)
  m2 : mg "BadRow" = some (.ref B2)
  m3 : mg "TooMany" = some (.ref B3)
  m4 : mg "Unknown" = some (.ref B4)
  clP : ExcCls K CP
  clS : ExcCls K CS
  catP : ExcCatch K CP L
  catS : ExcCatch K CS L
  lkP : ExcIsi K CP
  lkS : ExcIsi K CS
  kPP : PySem.W.kitOne K (.ref CP) (.ref CP) = some true
  kPS : PySem.W.kitOne K (.ref CP) (.ref CS) = some false
  kPA : PySem.W.kitAny K (.ref CP) [.ref B1, .ref B2, .ref B3, .ref B4] = some false
  kPV : PySem.W.kitOne K (.ref CP) (.type "ValueError") = some true
  kSP : PySem.W.kitOne K (.ref CS) (.ref CP) = some false
  kSS : PySem.W.kitOne K (.ref CS) (.ref CS) = some true
  kSA : PySem.W.kitAny K (.ref CS) [.ref B1, .ref B2, .ref B3, .ref B4] = some false
  bV : mg "ValueError" = none
  kSV : PySem.W.kitOne K (.ref CS) (.type "ValueError") = some true
theorem exc_inj {C C' : Addr} (h : excD C = excD C') : C = C' := by
  unfold excD at h
  injection h with h
  injection h with h _
  injection h with _ h
  injection h with h
  exact Int.ofNat.inj h
theorem hXof {C : Addr} (h : ExcIsi K C) : ∀ C', excD C = excD C' → ExcIsi K C' := fun C' e => exc_inj e ▸ h
def wordD (which : Int) (bp bs : Bool) : PyData := if bp = false then .str "pages" else if which = 0 then .none else if bs = false then .str "state" else if which = 1 then .none else .int 0
def F_word (ds : List PyData) (d : PyData) : Prop := ∃ (which : Int) (ps : List PyData) (cells boxes : List Int) (place : Int) (bp bs : Bool), (which = 0 ∨ which = 1 ∨ which = 2) ∧ cells.length ≤ 100000 ∧ boxes.length ≤ 100000 ∧ (bp = true ↔ okP ps) ∧ (bs = true ↔ okS ps cells boxes place) ∧
  ds = [.int which, .list ps, .list (cells.map PyData.int), .list (boxes.map PyData.int), .int place] ∧ d = wordD which bp bs
end
section
variable {P : Program} {w : World} {K : PySem.W.Frag} {mg : Str → Option Value} {base : Heap}
set_option maxHeartbeats 2000000 in
theorem wd0ok (T : Txt mg) {CP CS L B1 B2 B3 B4 CM fI fD f : Addr} {fdI fdD : FuncData} (Te : ExcS K mg CP CS L B1 B2 B3 B4) (Mc : ClsM K mg CM) (M : Mk K CM fI) (bI : Binds K fdI ["self", "pages", "cells", "boxes", "place"] []) (FI : FnOk P w K mg base (CXr P w) 5 fI fdI ["self", "pages", "cells", "boxes", "place"] (spInit K CM CP CS)) (hmt : Meth K CM "done" fD) (bD : Binds K fdD ["self"] []) (FD : FnOk P w K mg base CX0 1 fD fdD ["self"] (spDone CM)) (D_cp : XFn P w K mg base 2 "check_pages" (F_cp CP)) (D_cs : XFn P w K mg base 4 "check_state" (F_cs CP CS)) {ps : List PyData} {cells boxes : List Int} {place : Int} (hl1 : cells.length ≤ 100000) (hl2 : boxes.length ≤ 100000) (hp : okP ps) (cdv : Value) (A : Around) (outer : List Env) (s : Shared) (H : Hp) (E : XK) (hr : Room 9 (A.deeper (PyProof.Rows.envOfC "_law_word" (defScope s_law_word) s.heap.objs.size f cdv))) :
    SVs (cxOf CX0 P w K mg base ["which", "pages", "cells", "boxes", "place", "told", "e", "kinds"] "_law_word" (defScope s_law_word) f cdv A outer s H E).nox (startG ["which", "pages", "cells", "boxes", "place", "told", "e", "kinds"] [.int 0, .list ps, .list (cells.map PyData.int), .list (boxes.map PyData.int), .int place]) (defBody s_law_word) (.ret .none) := by
  refine svs_cons (sv_set (i := 5) sc_law_word.nd rfl (Or.inl rfl) ev_str) ?_
  refine svs_cons (sv_try_ok (svs_cons (sv_if (k := true) (tv_cmp (ev_var 0 (by rfl) (pv 0)) ev_int (by walk_at "od") (nomark _)) (fun _ => svs_cons (sv_set (i := 5) sc_law_word.nd rfl (Or.inl rfl) (ev_callX D_cp (by walk_at "rm") rfl (av_cons (ev_var 1 (by rfl) (pv 1)) av_nil) ⟨ps, rfl, .inl ⟨hp, rfl⟩⟩)) svs_nil) (fun h => by cases h)) svs_nil)) ?_
  exact svs_ret (sv_ret (ev_var 5 (by rfl) (pv 5)))
end
section
variable {P : Program} {w : World} {K : PySem.W.Frag} {mg : Str → Option Value} {base : Heap}
set_option maxHeartbeats 2000000 in
theorem wd0P (T : Txt mg) {CP CS L B1 B2 B3 B4 CM fI fD f : Addr} {fdI fdD : FuncData} (Te : ExcS K mg CP CS L B1 B2 B3 B4) (Mc : ClsM K mg CM) (M : Mk K CM fI) (bI : Binds K fdI ["self", "pages", "cells", "boxes", "place"] []) (FI : FnOk P w K mg base (CXr P w) 5 fI fdI ["self", "pages", "cells", "boxes", "place"] (spInit K CM CP CS)) (hmt : Meth K CM "done" fD) (bD : Binds K fdD ["self"] []) (FD : FnOk P w K mg base CX0 1 fD fdD ["self"] (spDone CM)) (D_cp : XFn P w K mg base 2 "check_pages" (F_cp CP)) (D_cs : XFn P w K mg base 4 "check_state" (F_cs CP CS)) {ps : List PyData} {cells boxes : List Int} {place : Int} (hl1 : cells.length ≤ 100000) (hl2 : boxes.length ≤ 100000) (hp : ¬ okP ps) (cdv : Value) (A : Around) (outer : List Env) (s : Shared) (H : Hp) (E : XK) (hr : Room 9 (A.deeper (PyProof.Rows.envOfC "_law_word" (defScope s_law_word) s.heap.objs.size f cdv))) :
    SVs (cxOf CX0 P w K mg base ["which", "pages", "cells", "boxes", "place", "told", "e", "kinds"] "_law_word" (defScope s_law_word) f cdv A outer s H E).nox (startG ["which", "pages", "cells", "boxes", "place", "told", "e", "kinds"] [.int 0, .list ps, .list (cells.map PyData.int), .list (boxes.map PyData.int), .int place]) (defBody s_law_word) (.ret (.str "pages")) := by
  refine svs_cons (sv_set (i := 5) sc_law_word.nd rfl (Or.inl rfl) ev_str) ?_
  refine svs_cons (sv_try_exc (o := .next [some (.int 0), some (.list ps), some (.list (cells.map PyData.int)), some (.list (boxes.map PyData.int)), some (.int place), some (.str "pages"), some (excD CP), some (.list [.bool true, .bool false, .bool false])]) (C := CP) (D := L) (ie := 6) rfl rfl sc_law_word.nd rfl rfl rfl Te.mL Te.catP (fun pn Ex => sx_head (sx_if (k := true) (tv_cmp (ev_var 0 (by rfl) (pv 0)) ev_int (by walk_at "od") (nomark _)) (fun _ => sx_head (sx_set (i := 5) sc_law_word.nd rfl (Or.inl rfl) (ex_call xw_tr D_cp (by walk_at "rm") rfl (av_cons (ev_var 1 (by rfl) (pv 1)) av_nil) ⟨ps, rfl, .inr ⟨hp, rfl⟩⟩))) (fun h => by cases h))) (fun pn a => by
      refine svs_cons (sv_set (i := 5) sc_law_word.nd rfl (Or.inl rfl) ev_str) ?_
      refine svs_cons (sv_set (i := 7) sc_law_word.nd rfl (Or.inl rfl) (ev_lst (av_cons (ev_isiO (da := excD CP) (ev_var 6 (by rfl) (pv 6)) rfl T.b_isinstance rfl Te.mP Te.kPP (hXof Te.lkP)) (av_cons (ev_isiO (da := excD CP) (ev_var 6 (by rfl) (pv 6)) rfl T.b_isinstance rfl Te.mS Te.kPS (hXof Te.lkP)) (av_cons (ev_isi4 (C := CP) (ev_var 6 (by rfl) (pv 6)) rfl T.b_isinstance rfl Te.m1 rfl Te.m2 rfl Te.m3 rfl Te.m4 Te.kPA Te.lkP) av_nil))) (by walk_at "sz"))) ?_
      refine svs_cons (sv_if (k := true) (tv_w (wv_and (k := true) (k' := true) (tv_cmp (ev_countB (ss := [true, false, false]) (ev_var 7 (by rfl) (pv 7)) ev_bl) ev_int (od_eq hr.units rfl rfl (by walk_at "dp") rfl) (nomark _)) (fun _ => wv_and1 (tv_val (ev_isi (da := excD CP) (n := "ValueError") (ev_var 6 (by rfl) (pv 6)) rfl T.b_isinstance rfl Te.bV (by decide +kernel) Te.kPV (hXof Te.lkP)))))) (fun _ => svs_cons (sv_set (i := 5) sc_law_word.nd rfl (Or.inl rfl) (ev_ixL (ev_lst (av_cons ev_str (av_cons ev_str (av_cons ev_str av_nil))) (by walk_at "sz")) (ev_indexB (ss := [true, false, false]) (j := 0) (ev_var 7 (by rfl) (pv 7)) ev_bl rfl (by decide)) rfl)) svs_nil) (fun h => by cases h)) svs_nil)) ?_
  exact svs_ret (sv_ret (ev_var 5 (by rfl) (pv 5)))
end
section
variable {P : Program} {w : World} {K : PySem.W.Frag} {mg : Str → Option Value} {base : Heap}
set_option maxHeartbeats 2000000 in
theorem wd1ok (T : Txt mg) {CP CS L B1 B2 B3 B4 CM fI fD f : Addr} {fdI fdD : FuncData} (Te : ExcS K mg CP CS L B1 B2 B3 B4) (Mc : ClsM K mg CM) (M : Mk K CM fI) (bI : Binds K fdI ["self", "pages", "cells", "boxes", "place"] []) (FI : FnOk P w K mg base (CXr P w) 5 fI fdI ["self", "pages", "cells", "boxes", "place"] (spInit K CM CP CS)) (hmt : Meth K CM "done" fD) (bD : Binds K fdD ["self"] []) (FD : FnOk P w K mg base CX0 1 fD fdD ["self"] (spDone CM)) (D_cp : XFn P w K mg base 2 "check_pages" (F_cp CP)) (D_cs : XFn P w K mg base 4 "check_state" (F_cs CP CS)) {ps : List PyData} {cells boxes : List Int} {place : Int} (hl1 : cells.length ≤ 100000) (hl2 : boxes.length ≤ 100000) (hp : okP ps) (hs : okS ps cells boxes place) (cdv : Value) (A : Around) (outer : List Env) (s : Shared) (H : Hp) (E : XK) (hr : Room 9 (A.deeper (PyProof.Rows.envOfC "_law_word" (defScope s_law_word) s.heap.objs.size f cdv))) :
    SVs (cxOf CX0 P w K mg base ["which", "pages", "cells", "boxes", "place", "told", "e", "kinds"] "_law_word" (defScope s_law_word) f cdv A outer s H E).nox (startG ["which", "pages", "cells", "boxes", "place", "told", "e", "kinds"] [.int 1, .list ps, .list (cells.map PyData.int), .list (boxes.map PyData.int), .int place]) (defBody s_law_word) (.ret .none) := by
  refine svs_cons (sv_set (i := 5) sc_law_word.nd rfl (Or.inl rfl) ev_str) ?_
  refine svs_cons (sv_try_ok (svs_cons (sv_if (k := false) (tv_cmp (ev_var 0 (by rfl) (pv 0)) ev_int (by walk_at "od") (nomark _)) (fun h => by cases h) (fun _ => svs_cons (sv_if (k := true) (tv_cmp (ev_var 0 (by rfl) (pv 0)) ev_int (by walk_at "od") (nomark _)) (fun _ => svs_cons (sv_set (i := 5) sc_law_word.nd rfl (Or.inl rfl) (ev_callX D_cs (by walk_at "rm") rfl (av_cons (ev_var 1 (by rfl) (pv 1)) (av_cons (ev_var 2 (by rfl) (pv 2)) (av_cons (ev_var 3 (by rfl) (pv 3)) (av_cons (ev_var 4 (by rfl) (pv 4)) av_nil)))) ⟨ps, cells, boxes, place, hl1, hl2, rfl, .inl ⟨hp, hs, rfl⟩⟩)) svs_nil) (fun h => by cases h)) svs_nil)) svs_nil)) ?_
  exact svs_ret (sv_ret (ev_var 5 (by rfl) (pv 5)))
end
section
variable {P : Program} {w : World} {K : PySem.W.Frag} {mg : Str → Option Value} {base : Heap}
set_option maxHeartbeats 2000000 in
theorem wd1P (T : Txt mg) {CP CS L B1 B2 B3 B4 CM fI fD f : Addr} {fdI fdD : FuncData} (Te : ExcS K mg CP CS L B1 B2 B3 B4) (Mc : ClsM K mg CM) (M : Mk K CM fI) (bI : Binds K fdI ["self", "pages", "cells", "boxes", "place"] []) (FI : FnOk P w K mg base (CXr P w) 5 fI fdI ["self", "pages", "cells", "boxes", "place"] (spInit K CM CP CS)) (hmt : Meth K CM "done" fD) (bD : Binds K fdD ["self"] []) (FD : FnOk P w K mg base CX0 1 fD fdD ["self"] (spDone CM)) (D_cp : XFn P w K mg base 2 "check_pages" (F_cp CP)) (D_cs : XFn P w K mg base 4 "check_state" (F_cs CP CS)) {ps : List PyData} {cells boxes : List Int} {place : Int} (hl1 : cells.length ≤ 100000) (hl2 : boxes.length ≤ 100000) (hp : ¬ okP ps) (cdv : Value) (A : Around) (outer : List Env) (s : Shared) (H : Hp) (E : XK) (hr : Room 9 (A.deeper (PyProof.Rows.envOfC "_law_word" (defScope s_law_word) s.heap.objs.size f cdv))) :
    SVs (cxOf CX0 P w K mg base ["which", "pages", "cells", "boxes", "place", "told", "e", "kinds"] "_law_word" (defScope s_law_word) f cdv A outer s H E).nox (startG ["which", "pages", "cells", "boxes", "place", "told", "e", "kinds"] [.int 1, .list ps, .list (cells.map PyData.int), .list (boxes.map PyData.int), .int place]) (defBody s_law_word) (.ret (.str "pages")) := by
  refine svs_cons (sv_set (i := 5) sc_law_word.nd rfl (Or.inl rfl) ev_str) ?_
  refine svs_cons (sv_try_exc (o := .next [some (.int 1), some (.list ps), some (.list (cells.map PyData.int)), some (.list (boxes.map PyData.int)), some (.int place), some (.str "pages"), some (excD CP), some (.list [.bool true, .bool false, .bool false])]) (C := CP) (D := L) (ie := 6) rfl rfl sc_law_word.nd rfl rfl rfl Te.mL Te.catP (fun pn Ex => sx_head (sx_if (k := false) (tv_cmp (ev_var 0 (by rfl) (pv 0)) ev_int (by walk_at "od") (nomark _)) (fun h => by cases h) (fun _ => sx_head (sx_if (k := true) (tv_cmp (ev_var 0 (by rfl) (pv 0)) ev_int (by walk_at "od") (nomark _)) (fun _ => sx_head (sx_set (i := 5) sc_law_word.nd rfl (Or.inl rfl) (ex_call xw_tr D_cs (by walk_at "rm") rfl (av_cons (ev_var 1 (by rfl) (pv 1)) (av_cons (ev_var 2 (by rfl) (pv 2)) (av_cons (ev_var 3 (by rfl) (pv 3)) (av_cons (ev_var 4 (by rfl) (pv 4)) av_nil)))) ⟨ps, cells, boxes, place, hl1, hl2, rfl, .inr (.inl ⟨hp, rfl⟩)⟩))) (fun h => by cases h))))) (fun pn a => by
      refine svs_cons (sv_set (i := 5) sc_law_word.nd rfl (Or.inl rfl) ev_str) ?_
      refine svs_cons (sv_set (i := 7) sc_law_word.nd rfl (Or.inl rfl) (ev_lst (av_cons (ev_isiO (da := excD CP) (ev_var 6 (by rfl) (pv 6)) rfl T.b_isinstance rfl Te.mP Te.kPP (hXof Te.lkP)) (av_cons (ev_isiO (da := excD CP) (ev_var 6 (by rfl) (pv 6)) rfl T.b_isinstance rfl Te.mS Te.kPS (hXof Te.lkP)) (av_cons (ev_isi4 (C := CP) (ev_var 6 (by rfl) (pv 6)) rfl T.b_isinstance rfl Te.m1 rfl Te.m2 rfl Te.m3 rfl Te.m4 Te.kPA Te.lkP) av_nil))) (by walk_at "sz"))) ?_
      refine svs_cons (sv_if (k := true) (tv_w (wv_and (k := true) (k' := true) (tv_cmp (ev_countB (ss := [true, false, false]) (ev_var 7 (by rfl) (pv 7)) ev_bl) ev_int (od_eq hr.units rfl rfl (by walk_at "dp") rfl) (nomark _)) (fun _ => wv_and1 (tv_val (ev_isi (da := excD CP) (n := "ValueError") (ev_var 6 (by rfl) (pv 6)) rfl T.b_isinstance rfl Te.bV (by decide +kernel) Te.kPV (hXof Te.lkP)))))) (fun _ => svs_cons (sv_set (i := 5) sc_law_word.nd rfl (Or.inl rfl) (ev_ixL (ev_lst (av_cons ev_str (av_cons ev_str (av_cons ev_str av_nil))) (by walk_at "sz")) (ev_indexB (ss := [true, false, false]) (j := 0) (ev_var 7 (by rfl) (pv 7)) ev_bl rfl (by decide)) rfl)) svs_nil) (fun h => by cases h)) svs_nil)) ?_
  exact svs_ret (sv_ret (ev_var 5 (by rfl) (pv 5)))
end
section
variable {P : Program} {w : World} {K : PySem.W.Frag} {mg : Str → Option Value} {base : Heap}
set_option maxHeartbeats 2000000 in
theorem wd1S (T : Txt mg) {CP CS L B1 B2 B3 B4 CM fI fD f : Addr} {fdI fdD : FuncData} (Te : ExcS K mg CP CS L B1 B2 B3 B4) (Mc : ClsM K mg CM) (M : Mk K CM fI) (bI : Binds K fdI ["self", "pages", "cells", "boxes", "place"] []) (FI : FnOk P w K mg base (CXr P w) 5 fI fdI ["self", "pages", "cells", "boxes", "place"] (spInit K CM CP CS)) (hmt : Meth K CM "done" fD) (bD : Binds K fdD ["self"] []) (FD : FnOk P w K mg base CX0 1 fD fdD ["self"] (spDone CM)) (D_cp : XFn P w K mg base 2 "check_pages" (F_cp CP)) (D_cs : XFn P w K mg base 4 "check_state" (F_cs CP CS)) {ps : List PyData} {cells boxes : List Int} {place : Int} (hl1 : cells.length ≤ 100000) (hl2 : boxes.length ≤ 100000) (hp : okP ps) (hs : ¬ okS ps cells boxes place) (cdv : Value) (A : Around) (outer : List Env) (s : Shared) (H : Hp) (E : XK) (hr : Room 9 (A.deeper (PyProof.Rows.envOfC "_law_word" (defScope s_law_word) s.heap.objs.size f cdv))) :
    SVs (cxOf CX0 P w K mg base ["which", "pages", "cells", "boxes", "place", "told", "e", "kinds"] "_law_word" (defScope s_law_word) f cdv A outer s H E).nox (startG ["which", "pages", "cells", "boxes", "place", "told", "e", "kinds"] [.int 1, .list ps, .list (cells.map PyData.int), .list (boxes.map PyData.int), .int place]) (defBody s_law_word) (.ret (.str "state")) := by
  refine svs_cons (sv_set (i := 5) sc_law_word.nd rfl (Or.inl rfl) ev_str) ?_
  refine svs_cons (sv_try_exc (o := .next [some (.int 1), some (.list ps), some (.list (cells.map PyData.int)), some (.list (boxes.map PyData.int)), some (.int place), some (.str "state"), some (excD CS), some (.list [.bool false, .bool true, .bool false])]) (C := CS) (D := L) (ie := 6) rfl rfl sc_law_word.nd rfl rfl rfl Te.mL Te.catS (fun pn Ex => sx_head (sx_if (k := false) (tv_cmp (ev_var 0 (by rfl) (pv 0)) ev_int (by walk_at "od") (nomark _)) (fun h => by cases h) (fun _ => sx_head (sx_if (k := true) (tv_cmp (ev_var 0 (by rfl) (pv 0)) ev_int (by walk_at "od") (nomark _)) (fun _ => sx_head (sx_set (i := 5) sc_law_word.nd rfl (Or.inl rfl) (ex_call xw_tr D_cs (by walk_at "rm") rfl (av_cons (ev_var 1 (by rfl) (pv 1)) (av_cons (ev_var 2 (by rfl) (pv 2)) (av_cons (ev_var 3 (by rfl) (pv 3)) (av_cons (ev_var 4 (by rfl) (pv 4)) av_nil)))) ⟨ps, cells, boxes, place, hl1, hl2, rfl, .inr (.inr ⟨hp, hs, rfl⟩)⟩))) (fun h => by cases h))))) (fun pn a => by
      refine svs_cons (sv_set (i := 5) sc_law_word.nd rfl (Or.inl rfl) ev_str) ?_
      refine svs_cons (sv_set (i := 7) sc_law_word.nd rfl (Or.inl rfl) (ev_lst (av_cons (ev_isiO (da := excD CS) (ev_var 6 (by rfl) (pv 6)) rfl T.b_isinstance rfl Te.mP Te.kSP (hXof Te.lkS)) (av_cons (ev_isiO (da := excD CS) (ev_var 6 (by rfl) (pv 6)) rfl T.b_isinstance rfl Te.mS Te.kSS (hXof Te.lkS)) (av_cons (ev_isi4 (C := CS) (ev_var 6 (by rfl) (pv 6)) rfl T.b_isinstance rfl Te.m1 rfl Te.m2 rfl Te.m3 rfl Te.m4 Te.kSA Te.lkS) av_nil))) (by walk_at "sz"))) ?_
      refine svs_cons (sv_if (k := true) (tv_w (wv_and (k := true) (k' := true) (tv_cmp (ev_countB (ss := [false, true, false]) (ev_var 7 (by rfl) (pv 7)) ev_bl) ev_int (od_eq hr.units rfl rfl (by walk_at "dp") rfl) (nomark _)) (fun _ => wv_and1 (tv_val (ev_isi (da := excD CS) (n := "ValueError") (ev_var 6 (by rfl) (pv 6)) rfl T.b_isinstance rfl Te.bV (by decide +kernel) Te.kSV (hXof Te.lkS)))))) (fun _ => svs_cons (sv_set (i := 5) sc_law_word.nd rfl (Or.inl rfl) (ev_ixL (ev_lst (av_cons ev_str (av_cons ev_str (av_cons ev_str av_nil))) (by walk_at "sz")) (ev_indexB (ss := [false, true, false]) (j := 1) (ev_var 7 (by rfl) (pv 7)) ev_bl rfl (by decide)) rfl)) svs_nil) (fun h => by cases h)) svs_nil)) ?_
  exact svs_ret (sv_ret (ev_var 5 (by rfl) (pv 5)))
end
section
variable {P : Program} {w : World} {K : PySem.W.Frag} {mg : Str → Option Value} {base : Heap}
set_option maxHeartbeats 2000000 in
theorem wd2ok (T : Txt mg) {CP CS L B1 B2 B3 B4 CM fI fD f : Addr} {fdI fdD : FuncData} (Te : ExcS K mg CP CS L B1 B2 B3 B4) (Mc : ClsM K mg CM) (M : Mk K CM fI) (bI : Binds K fdI ["self", "pages", "cells", "boxes", "place"] []) (FI : FnOk P w K mg base (CXr P w) 5 fI fdI ["self", "pages", "cells", "boxes", "place"] (spInit K CM CP CS)) (hmt : Meth K CM "done" fD) (bD : Binds K fdD ["self"] []) (FD : FnOk P w K mg base CX0 1 fD fdD ["self"] (spDone CM)) (D_cp : XFn P w K mg base 2 "check_pages" (F_cp CP)) (D_cs : XFn P w K mg base 4 "check_state" (F_cs CP CS)) {ps : List PyData} {cells boxes : List Int} {place : Int} (hl1 : cells.length ≤ 100000) (hl2 : boxes.length ≤ 100000) (hp : okP ps) (hs : okS ps cells boxes place) (cdv : Value) (A : Around) (outer : List Env) (s : Shared) (H : Hp) (E : XK) (hr : Room 9 (A.deeper (PyProof.Rows.envOfC "_law_word" (defScope s_law_word) s.heap.objs.size f cdv))) :
    SVs (cxOf CX0 P w K mg base ["which", "pages", "cells", "boxes", "place", "told", "e", "kinds"] "_law_word" (defScope s_law_word) f cdv A outer s H E).nox (startG ["which", "pages", "cells", "boxes", "place", "told", "e", "kinds"] [.int 2, .list ps, .list (cells.map PyData.int), .list (boxes.map PyData.int), .int place]) (defBody s_law_word) (.ret (.int 0)) := by
  refine svs_cons (sv_set (i := 5) sc_law_word.nd rfl (Or.inl rfl) ev_str) ?_
  refine svs_cons (sv_try_ok (svs_cons (sv_if (k := false) (tv_cmp (ev_var 0 (by rfl) (pv 0)) ev_int (by walk_at "od") (nomark _)) (fun h => by cases h) (fun _ => svs_cons (sv_if (k := false) (tv_cmp (ev_var 0 (by rfl) (pv 0)) ev_int (by walk_at "od") (nomark _)) (fun h => by cases h) (fun _ => svs_cons (sv_set (i := 5) sc_law_word.nd rfl (Or.inl rfl) (ev_new Mc M bI FI hmt bD FD (by walk_at "rm") rfl (av_cons (ev_var 1 (by rfl) (pv 1)) (av_cons (ev_var 2 (by rfl) (pv 2)) (av_cons (ev_var 3 (by rfl) (pv 3)) (av_cons (ev_var 4 (by rfl) (pv 4)) av_nil)))) ⟨ps, cells, boxes, place, hl1, hl2, rfl, .inl ⟨hp, hs, rfl⟩⟩)) svs_nil)) svs_nil)) svs_nil)) ?_
  exact svs_ret (sv_ret (ev_var 5 (by rfl) (pv 5)))
end
section
variable {P : Program} {w : World} {K : PySem.W.Frag} {mg : Str → Option Value} {base : Heap}
set_option maxHeartbeats 2000000 in
theorem wd2P (T : Txt mg) {CP CS L B1 B2 B3 B4 CM fI fD f : Addr} {fdI fdD : FuncData} (Te : ExcS K mg CP CS L B1 B2 B3 B4) (Mc : ClsM K mg CM) (M : Mk K CM fI) (bI : Binds K fdI ["self", "pages", "cells", "boxes", "place"] []) (FI : FnOk P w K mg base (CXr P w) 5 fI fdI ["self", "pages", "cells", "boxes", "place"] (spInit K CM CP CS)) (hmt : Meth K CM "done" fD) (bD : Binds K fdD ["self"] []) (FD : FnOk P w K mg base CX0 1 fD fdD ["self"] (spDone CM)) (D_cp : XFn P w K mg base 2 "check_pages" (F_cp CP)) (D_cs : XFn P w K mg base 4 "check_state" (F_cs CP CS)) {ps : List PyData} {cells boxes : List Int} {place : Int} (hl1 : cells.length ≤ 100000) (hl2 : boxes.length ≤ 100000) (hp : ¬ okP ps) (cdv : Value) (A : Around) (outer : List Env) (s : Shared) (H : Hp) (E : XK) (hr : Room 9 (A.deeper (PyProof.Rows.envOfC "_law_word" (defScope s_law_word) s.heap.objs.size f cdv))) :
    SVs (cxOf CX0 P w K mg base ["which", "pages", "cells", "boxes", "place", "told", "e", "kinds"] "_law_word" (defScope s_law_word) f cdv A outer s H E).nox (startG ["which", "pages", "cells", "boxes", "place", "told", "e", "kinds"] [.int 2, .list ps, .list (cells.map PyData.int), .list (boxes.map PyData.int), .int place]) (defBody s_law_word) (.ret (.str "pages")) := by
  refine svs_cons (sv_set (i := 5) sc_law_word.nd rfl (Or.inl rfl) ev_str) ?_
  refine svs_cons (sv_try_exc (o := .next [some (.int 2), some (.list ps), some (.list (cells.map PyData.int)), some (.list (boxes.map PyData.int)), some (.int place), some (.str "pages"), some (excD CP), some (.list [.bool true, .bool false, .bool false])]) (C := CP) (D := L) (ie := 6) rfl rfl sc_law_word.nd rfl rfl rfl Te.mL Te.catP (fun pn Ex => sx_head (sx_if (k := false) (tv_cmp (ev_var 0 (by rfl) (pv 0)) ev_int (by walk_at "od") (nomark _)) (fun h => by cases h) (fun _ => sx_head (sx_if (k := false) (tv_cmp (ev_var 0 (by rfl) (pv 0)) ev_int (by walk_at "od") (nomark _)) (fun h => by cases h) (fun _ => sx_head (sx_set (i := 5) sc_law_word.nd rfl (Or.inl rfl) (mx_new Mc M bI FI (by walk_at "rm") rfl xw_tr (av_cons (ev_var 1 (by rfl) (pv 1)) (av_cons (ev_var 2 (by rfl) (pv 2)) (av_cons (ev_var 3 (by rfl) (pv 3)) (av_cons (ev_var 4 (by rfl) (pv 4)) av_nil)))) ⟨ps, cells, boxes, place, hl1, hl2, rfl, .inr (.inl ⟨hp, rfl⟩)⟩))))))) (fun pn a => by
      refine svs_cons (sv_set (i := 5) sc_law_word.nd rfl (Or.inl rfl) ev_str) ?_
      refine svs_cons (sv_set (i := 7) sc_law_word.nd rfl (Or.inl rfl) (ev_lst (av_cons (ev_isiO (da := excD CP) (ev_var 6 (by rfl) (pv 6)) rfl T.b_isinstance rfl Te.mP Te.kPP (hXof Te.lkP)) (av_cons (ev_isiO (da := excD CP) (ev_var 6 (by rfl) (pv 6)) rfl T.b_isinstance rfl Te.mS Te.kPS (hXof Te.lkP)) (av_cons (ev_isi4 (C := CP) (ev_var 6 (by rfl) (pv 6)) rfl T.b_isinstance rfl Te.m1 rfl Te.m2 rfl Te.m3 rfl Te.m4 Te.kPA Te.lkP) av_nil))) (by walk_at "sz"))) ?_
      refine svs_cons (sv_if (k := true) (tv_w (wv_and (k := true) (k' := true) (tv_cmp (ev_countB (ss := [true, false, false]) (ev_var 7 (by rfl) (pv 7)) ev_bl) ev_int (od_eq hr.units rfl rfl (by walk_at "dp") rfl) (nomark _)) (fun _ => wv_and1 (tv_val (ev_isi (da := excD CP) (n := "ValueError") (ev_var 6 (by rfl) (pv 6)) rfl T.b_isinstance rfl Te.bV (by decide +kernel) Te.kPV (hXof Te.lkP)))))) (fun _ => svs_cons (sv_set (i := 5) sc_law_word.nd rfl (Or.inl rfl) (ev_ixL (ev_lst (av_cons ev_str (av_cons ev_str (av_cons ev_str av_nil))) (by walk_at "sz")) (ev_indexB (ss := [true, false, false]) (j := 0) (ev_var 7 (by rfl) (pv 7)) ev_bl rfl (by decide)) rfl)) svs_nil) (fun h => by cases h)) svs_nil)) ?_
  exact svs_ret (sv_ret (ev_var 5 (by rfl) (pv 5)))
end
section
variable {P : Program} {w : World} {K : PySem.W.Frag} {mg : Str → Option Value} {base : Heap}
set_option maxHeartbeats 2000000 in
theorem wd2S (T : Txt mg) {CP CS L B1 B2 B3 B4 CM fI fD f : Addr} {fdI fdD : FuncData} (Te : ExcS K mg CP CS L B1 B2 B3 B4) (Mc : ClsM K mg CM) (M : Mk K CM fI) (bI : Binds K fdI ["self", "pages", "cells", "boxes", "place"] []) (FI : FnOk P w K mg base (CXr P w) 5 fI fdI ["self", "pages", "cells", "boxes", "place"] (spInit K CM CP CS)) (hmt : Meth K CM "done" fD) (bD : Binds K fdD ["self"] []) (FD : FnOk P w K mg base CX0 1 fD fdD ["self"] (spDone CM)) (D_cp : XFn P w K mg base 2 "check_pages" (F_cp CP)) (D_cs : XFn P w K mg base 4 "check_state" (F_cs CP CS)) {ps : List PyData} {cells boxes : List Int} {place : Int} (hl1 : cells.length ≤ 100000) (hl2 : boxes.length ≤ 100000) (hp : okP ps) (hs : ¬ okS ps cells boxes place) (cdv : Value) (A : Around) (outer : List Env) (s : Shared) (H : Hp) (E : XK) (hr : Room 9 (A.deeper (PyProof.Rows.envOfC "_law_word" (defScope s_law_word) s.heap.objs.size f cdv))) :
    SVs (cxOf CX0 P w K mg base ["which", "pages", "cells", "boxes", "place", "told", "e", "kinds"] "_law_word" (defScope s_law_word) f cdv A outer s H E).nox (startG ["which", "pages", "cells", "boxes", "place", "told", "e", "kinds"] [.int 2, .list ps, .list (cells.map PyData.int), .list (boxes.map PyData.int), .int place]) (defBody s_law_word) (.ret (.str "state")) := by
  refine svs_cons (sv_set (i := 5) sc_law_word.nd rfl (Or.inl rfl) ev_str) ?_
  refine svs_cons (sv_try_exc (o := .next [some (.int 2), some (.list ps), some (.list (cells.map PyData.int)), some (.list (boxes.map PyData.int)), some (.int place), some (.str "state"), some (excD CS), some (.list [.bool false, .bool true, .bool false])]) (C := CS) (D := L) (ie := 6) rfl rfl sc_law_word.nd rfl rfl rfl Te.mL Te.catS (fun pn Ex => sx_head (sx_if (k := false) (tv_cmp (ev_var 0 (by rfl) (pv 0)) ev_int (by walk_at "od") (nomark _)) (fun h => by cases h) (fun _ => sx_head (sx_if (k := false) (tv_cmp (ev_var 0 (by rfl) (pv 0)) ev_int (by walk_at "od") (nomark _)) (fun h => by cases h) (fun _ => sx_head (sx_set (i := 5) sc_law_word.nd rfl (Or.inl rfl) (mx_new Mc M bI FI (by walk_at "rm") rfl xw_tr (av_cons (ev_var 1 (by rfl) (pv 1)) (av_cons (ev_var 2 (by rfl) (pv 2)) (av_cons (ev_var 3 (by rfl) (pv 3)) (av_cons (ev_var 4 (by rfl) (pv 4)) av_nil)))) ⟨ps, cells, boxes, place, hl1, hl2, rfl, .inr (.inr ⟨hp, hs, rfl⟩)⟩))))))) (fun pn a => by
      refine svs_cons (sv_set (i := 5) sc_law_word.nd rfl (Or.inl rfl) ev_str) ?_
      refine svs_cons (sv_set (i := 7) sc_law_word.nd rfl (Or.inl rfl) (ev_lst (av_cons (ev_isiO (da := excD CS) (ev_var 6 (by rfl) (pv 6)) rfl T.b_isinstance rfl Te.mP Te.kSP (hXof Te.lkS)) (av_cons (ev_isiO (da := excD CS) (ev_var 6 (by rfl) (pv 6)) rfl T.b_isinstance rfl Te.mS Te.kSS (hXof Te.lkS)) (av_cons (ev_isi4 (C := CS) (ev_var 6 (by rfl) (pv 6)) rfl T.b_isinstance rfl Te.m1 rfl Te.m2 rfl Te.m3 rfl Te.m4 Te.kSA Te.lkS) av_nil))) (by walk_at "sz"))) ?_
      refine svs_cons (sv_if (k := true) (tv_w (wv_and (k := true) (k' := true) (tv_cmp (ev_countB (ss := [false, true, false]) (ev_var 7 (by rfl) (pv 7)) ev_bl) ev_int (od_eq hr.units rfl rfl (by walk_at "dp") rfl) (nomark _)) (fun _ => wv_and1 (tv_val (ev_isi (da := excD CS) (n := "ValueError") (ev_var 6 (by rfl) (pv 6)) rfl T.b_isinstance rfl Te.bV (by decide +kernel) Te.kSV (hXof Te.lkS)))))) (fun _ => svs_cons (sv_set (i := 5) sc_law_word.nd rfl (Or.inl rfl) (ev_ixL (ev_lst (av_cons ev_str (av_cons ev_str (av_cons ev_str av_nil))) (by walk_at "sz")) (ev_indexB (ss := [false, true, false]) (j := 1) (ev_var 7 (by rfl) (pv 7)) ev_bl rfl (by decide)) rfl)) svs_nil) (fun h => by cases h)) svs_nil)) ?_
  exact svs_ret (sv_ret (ev_var 5 (by rfl) (pv 5)))
end
section
variable {P : Program} {w : World} {K : PySem.W.Frag} {mg : Str → Option Value} {base : Heap}
theorem d_law_word (T : Txt mg) {CP CS L B1 B2 B3 B4 CM fI fD f : Addr} {fdI fdD fd : FuncData} (Te : ExcS K mg CP CS L B1 B2 B3 B4) (Mc : ClsM K mg CM) (M : Mk K CM fI) (bI : Binds K fdI ["self", "pages", "cells", "boxes", "place"] []) (FI : FnOk P w K mg base (CXr P w) 5 fI fdI ["self", "pages", "cells", "boxes", "place"] (spInit K CM CP CS)) (hmt : Meth K CM "done" fD) (bD : Binds K fdD ["self"] []) (FD : FnOk P w K mg base CX0 1 fD fdD ["self"] (spDone CM)) (D_cp : XFn P w K mg base 2 "check_pages" (F_cp CP)) (D_cs : XFn P w K mg base 4 "check_state" (F_cs CP CS)) (F : Fun K "_law_word" "_law_word" s_law_word f fd) (hm : mg "_law_word" = some (.ref f)) : DFn P w K mg base 10 "_law_word" F_word := by
  refine F.data hm (F.binds fun _ _ _ _ _ _ us hl => match us, hl with | [_, _, _, _, _], _ => rfl) sc_law_word (fun ds d ⟨_, _, _, _, _, _, _, _, _, _, _, _, e, _⟩ => by rw [e]; rfl) fun cdv A outer s H E ds d hr ⟨which, ps, cells, boxes, place, bp, bs, hw, hl1, hl2, hp, hs, e, e2⟩ => ?_
  subst e e2
  cases bp with
  | false =>
    have hp : ¬ okP ps := fun h => by have := hp.mpr h; cases this
    rcases hw with rfl | rfl | rfl
    · exact wd0P T Te Mc M bI FI hmt bD FD D_cp D_cs hl1 hl2 hp cdv A outer s H E hr
    · exact wd1P T Te Mc M bI FI hmt bD FD D_cp D_cs hl1 hl2 hp cdv A outer s H E hr
    · exact wd2P T Te Mc M bI FI hmt bD FD D_cp D_cs hl1 hl2 hp cdv A outer s H E hr
  | true =>
    have hp := hp.mp rfl
    cases bs with
    | false =>
      have hs : ¬ okS ps cells boxes place := fun h => by have := hs.mpr h; cases this
      rcases hw with rfl | rfl | rfl
      · exact wd0ok T Te Mc M bI FI hmt bD FD D_cp D_cs hl1 hl2 hp cdv A outer s H E hr
      · exact wd1S T Te Mc M bI FI hmt bD FD D_cp D_cs hl1 hl2 hp hs cdv A outer s H E hr
      · exact wd2S T Te Mc M bI FI hmt bD FD D_cp D_cs hl1 hl2 hp hs cdv A outer s H E hr
    | true =>
      have hs := hs.mp rfl
      rcases hw with rfl | rfl | rfl
      · exact wd0ok T Te Mc M bI FI hmt bD FD D_cp D_cs hl1 hl2 hp cdv A outer s H E hr
      · exact wd1ok T Te Mc M bI FI hmt bD FD D_cp D_cs hl1 hl2 hp hs cdv A outer s H E hr
      · exact wd2ok T Te Mc M bI FI hmt bD FD D_cp D_cs hl1 hl2 hp hs cdv A outer s H E hr
end
section
variable {P : Program} {w : World} {K : PySem.W.Frag} {mg : Str → Option Value} {base : Heap}
theorem lay_intsL (l : List Int) : (PyData.list (l.map PyData.int)).canLay0 = true := canLayAll_map l fun _ _ => rfl
theorem depth_intsL (l : List Int) : (PyData.list (l.map PyData.int)).depth ≤ 2 := by
  have := depthAll_map (f := PyData.int) (n := 1) l fun _ _ => by simp [PyData.depth]
  simp only [PyData.depth]
  omega
theorem lay_tris (ps : List PyData) (h : ∀ p ∈ ps, isTri p) : (PyData.list ps).canLay0 = true := by
  have := canLayAll_map (f := fun d : PyData => d) ps fun p hp => by
    obtain ⟨a, b, c, e⟩ := h p hp
    show p.canLay0 = true
    rw [e]
    rfl
  rw [List.map_id'] at this
  exact this
theorem depth_tris (ps : List PyData) (h : ∀ p ∈ ps, isTri p) : (PyData.list ps).depth ≤ 3 := by
  have := depthAll_map (f := fun d : PyData => d) (n := 2) ps fun p hp => by
    obtain ⟨a, b, c, e⟩ := h p hp
    show p.depth ≤ 2
    rw [e]
    simp [PyData.depth, PyData.depthAll]
  rw [List.map_id'] at this
  simp only [PyData.depth]
  omega
def dueL (fb bp : Bool) : List PyData := if bp = false then [.str "pages", .str "pages", .str "pages"] else if fb = true then [.none, .str "state", .str "state"] else [.none, .none, .int 0]
theorem due_at : ∀ i : Nat, i < 3 → ∀ fb bp : Bool, atI (dueL fb bp) (0 + (i : Int)) = some (wordD (0 + (i : Int)) bp (!fb)) := fun i hi fb bp => by
  match i, hi with
  | 0, _ => cases fb <;> cases bp <;> rfl
  | 1, _ => cases fb <;> cases bp <;> rfl
  | 2, _ => cases fb <;> cases bp <;> rfl
theorem word_lay : ∀ i : Nat, i < 3 → ∀ b bp : Bool, (wordD (0 + (i : Int)) bp b).canLay0 = true ∧ (wordD (0 + (i : Int)) bp b).depth ≤ 2 := fun i hi b bp => by
  match i, hi with
  | 0, _ => cases b <;> cases bp <;> exact ⟨by decide +kernel, by decide +kernel⟩
  | 1, _ => cases b <;> cases bp <;> exact ⟨by decide +kernel, by decide +kernel⟩
  | 2, _ => cases b <;> cases bp <;> exact ⟨by decide +kernel, by decide +kernel⟩
theorem ev_ofR {X : Cx} {G : Gam} {e : Expr} {R : PyData → Prop} {d0 : PyData} (h : EVR X G e R) (hR : ∀ d, R d → d = d0) : EV X G e d0 := h.imp fun σ H Q ⟨h, q⟩ => ⟨h, fun d v H' r s' dv => q v H' s' (hR d r ▸ dv)⟩
set_option maxHeartbeats 2000000 in
theorem hold_end (T : Txt mg) {f : Addr} (D_law_word : DFn P w K mg base 10 "_law_word" F_word) {nd : PyData} {ps : List PyData} {cells boxes : List Int} {place : Int} {f0 f1 f2 : Bool} (htri : ∀ p ∈ ps, isTri p) (hl0 : ps.length ≤ 12) (hl1 : cells.length ≤ 2000) (hl2 : boxes.length ≤ 2000) (hs : okS ps cells boxes place ↔ (f0 || f1 || f2) = false) (cdv : Value) (A : Around) (outer : List Env) (s : Shared) (H : Hp) (E : XK) (hr : Room 10 (A.deeper (PyProof.Rows.envOfC "_law_holds" (defScope s_law_holds) s.heap.objs.size f cdv))) :
    SVs (cxOf CX0 P w K mg base ["numbers", "pages", "cells", "boxes", "place", "faults", "handed", "due", "which"] "_law_holds" (defScope s_law_holds) f cdv A outer s H E).nox [some nd, some (.list ps), some (.list (cells.map PyData.int)), some (.list (boxes.map PyData.int)), some (.int place), some (.list [.bool f0, .bool f1, .bool f2]), none, none, none] ((defBody s_law_holds).drop 5) (.ret (.bool true)) := by
  have lc := lay_intsL cells
  have lb := lay_intsL boxes
  have lp := lay_tris ps htri
  have hall : (PyData.list [.list ps, .list (cells.map PyData.int), .list (boxes.map PyData.int)]).canLay0 = true := by
    have := canLayAll_map (f := fun d : PyData => d) [.list ps, .list (cells.map PyData.int), .list (boxes.map PyData.int)] fun p hp => by
      simp only [List.mem_cons, List.not_mem_nil, or_false] at hp
      rcases hp with rfl | rfl | rfl
      · exact lp
      · exact lc
      · exact lb
    exact this
  have hdep : (PyData.list [.list ps, .list (cells.map PyData.int), .list (boxes.map PyData.int)]).depth ≤ 6 := by
    have := depthAll_map (f := fun d : PyData => d) (n := 3) [.list ps, .list (cells.map PyData.int), .list (boxes.map PyData.int)] fun p hp => by
      simp only [List.mem_cons, List.not_mem_nil, or_false] at hp
      rcases hp with rfl | rfl | rfl
      · exact depth_tris ps htri
      · exact Nat.le_trans (depth_intsL _) (by decide)
      · exact Nat.le_trans (depth_intsL _) (by decide)
    have h2 : PyData.depthAll [.list ps, .list (cells.map PyData.int), .list (boxes.map PyData.int)] ≤ 3 := this
    have h3 : (PyData.list [.list ps, .list (cells.map PyData.int), .list (boxes.map PyData.int)]).depth = PyData.depthAll [.list ps, .list (cells.map PyData.int), .list (boxes.map PyData.int)] + 1 := by simp only [PyData.depth]
    omega
  refine svs_cons (sv_set (i := 6) sc_law_holds.nd rfl (Or.inl rfl) (ev_lst (av_cons (ev_callTy2 "list" (av_cons (ev_var 1 (by rfl) (pv 1)) av_nil) cd_listL rfl T.b_list (by decide +kernel)) (av_cons (ev_callTy2 "list" (av_cons (ev_var 2 (by rfl) (pv 2)) av_nil) cd_listL rfl T.b_list (by decide +kernel)) (av_cons (ev_callTy2 "list" (av_cons (ev_var 3 (by rfl) (pv 3)) av_nil) cd_listL rfl T.b_list (by decide +kernel)) av_nil))) (by walk_at "sz"))) ?_
  refine svs_cons (sv_set (i := 7) sc_law_holds.nd rfl (Or.inl rfl) (ev_lst (av_cons ev_non (av_cons ev_non (av_cons ev_int av_nil))) (by walk_at "sz"))) ?_
  refine svs_cons (G1 := [some nd, some (.list ps), some (.list (cells.map PyData.int)), some (.list (boxes.map PyData.int)), some (.int place), some (.list [.bool f0, .bool f1, .bool f2]), some (.list [.list ps, .list (cells.map PyData.int), .list (boxes.map PyData.int)]), some (.list (dueL (f0 || f1 || f2) true)), none]) ?i1 ?_
  case i1 =>
    cases f0 <;> cases f1 <;> cases f2 <;> first
      | exact sv_if (k := true) (tv_cmp ev_bl (ev_var 5 (by rfl) (pv 5)) (by walk_at "od") (by with_unfolding_all rfl)) (fun _ => svs_cons (sv_set (i := 7) sc_law_holds.nd rfl (Or.inl rfl) (ev_lst (av_cons ev_non (av_cons ev_str (av_cons ev_str av_nil))) (by walk_at "sz"))) svs_nil) (fun h => by cases h)
      | exact sv_if (k := false) (tv_cmp ev_bl (ev_var 5 (by rfl) (pv 5)) (by walk_at "od") (by with_unfolding_all rfl)) (fun h => by cases h) (fun _ => svs_nil)
  have hbp : ∃ bp : Bool, (bp = true ↔ okP ps) := ⟨decide (okP ps), decide_eq_true_iff⟩
  obtain ⟨bp, hbp⟩ := hbp
  refine svs_cons (G1 := [some nd, some (.list ps), some (.list (cells.map PyData.int)), some (.list (boxes.map PyData.int)), some (.int place), some (.list [.bool f0, .bool f1, .bool f2]), some (.list [.list ps, .list (cells.map PyData.int), .list (boxes.map PyData.int)]), some (.list (dueL (f0 || f1 || f2) bp)), none]) ?i2 ?_
  case i2 =>
    cases bp with
    | true =>
      have h := hbp.mp rfl
      exact sv_if (k := false) (tv_w (wv_or (k := false) (k' := false) (tv_eq (tv_cmp (ev_callB2 "len" (av_cons (ev_var 1 (by rfl) (pv 1)) av_nil) (by walk_at "cd") rfl T.b_len (by decide +kernel)) ev_int od_lt (nomark _)) (decide_eq_false (by have := h.1; omega))) (fun _ => wv_or1 (tv_eq (tv_cmp (ev_callB2 "len" (av_cons (ev_var 1 (by rfl) (pv 1)) av_nil) (by walk_at "cd") rfl T.b_len (by decide +kernel)) ev_int od_gt (nomark _)) (decide_eq_false (by have := h.2; omega)))))) (fun h => by cases h) (fun _ => svs_nil)
    | false =>
      have h : ¬ okP ps := fun c => by have := hbp.mpr c; cases this
      by_cases h1 : 1 ≤ ps.length
      · have h8 : 8 < ps.length := Nat.lt_of_not_le fun c => h ⟨h1, c⟩
        exact sv_if (k := true) (tv_w (wv_or (k := false) (k' := true) (tv_eq (tv_cmp (ev_callB2 "len" (av_cons (ev_var 1 (by rfl) (pv 1)) av_nil) (by walk_at "cd") rfl T.b_len (by decide +kernel)) ev_int od_lt (nomark _)) (decide_eq_false (by omega))) (fun _ => wv_or1 (tv_eq (tv_cmp (ev_callB2 "len" (av_cons (ev_var 1 (by rfl) (pv 1)) av_nil) (by walk_at "cd") rfl T.b_len (by decide +kernel)) ev_int od_gt (nomark _)) (decide_eq_true (by omega)))))) (fun _ => svs_cons (sv_set (i := 7) sc_law_holds.nd rfl (Or.inl rfl) (ev_lst (av_cons ev_str (av_cons ev_str (av_cons ev_str av_nil))) (by walk_at "sz"))) svs_nil) (fun h => by cases h)
      · exact sv_if (k := true) (tv_w (wv_or (k := true) (k' := true) (tv_eq (tv_cmp (ev_callB2 "len" (av_cons (ev_var 1 (by rfl) (pv 1)) av_nil) (by walk_at "cd") rfl T.b_len (by decide +kernel)) ev_int od_lt (nomark _)) (decide_eq_true (by omega))) (fun h => by cases h))) (fun _ => svs_cons (sv_set (i := 7) sc_law_holds.nd rfl (Or.inl rfl) (ev_lst (av_cons ev_str (av_cons ev_str (av_cons ev_str av_nil))) (by walk_at "sz"))) svs_nil) (fun h => by cases h)
  have hbs : (!(f0 || f1 || f2)) = true ↔ okS ps cells boxes place := by
    rw [hs]
    cases (f0 || f1 || f2) <;> simp
  generalize (f0 || f1 || f2) = fb at hbs
  refine svs_cons (sv_for (k := 0) (as := List.range (3 : Int).toNat) (D := fun (i : Nat) => PyData.int (0 + (i : Int))) (g := gName 8) (B := bindAt 8) (fun _ => [some nd, some (.list ps), some (.list (cells.map PyData.int)), some (.list (boxes.map PyData.int)), some (.int place), some (.list [.bool f0, .bool f1, .bool f2]), some (.list [.list ps, .list (cells.map PyData.int), .list (boxes.map PyData.int)]), some (.list (dueL fb bp)), none]) PassesOwn.never rfl (iv_range1 ev_int (by decide) (by decide) rfl T.b_range) (pg_name (i := 8) sc_law_holds.nd rfl (Or.inl rfl)) (fun _ _ => bindDAt 8 _) ?b1) (svs_ret (sv_ret (ev_cmp (ev_var 6 (by rfl) (pv 6)) (ev_lst (av_cons (ev_var 1 (by rfl) (pv 1)) (av_cons (ev_var 2 (by rfl) (pv 2)) (av_cons (ev_var 3 (by rfl) (pv 3)) av_nil))) (by walk_at "sz")) (od_eq (by walk_at "un") hall hall (by omega) (eqv_self _ hall)) (nomark _))))
  case b1 =>
    intro i a ha
    have hi : i < 3 := by
      have := (List.getElem?_eq_some_iff.mp ha).1
      simpa using this
    have ea : a = i := by
      have := (List.getElem?_eq_some_iff.mp ha).2
      simpa using this.symm
    subst ea
    have wl := word_lay a hi (!fb) bp
    refine svs_forget (G1 := [some nd, some (.list ps), some (.list (cells.map PyData.int)), some (.list (boxes.map PyData.int)), some (.int place), some (.list [.bool f0, .bool f1, .bool f2]), some (.list [.list ps, .list (cells.map PyData.int), .list (boxes.map PyData.int)]), some (.list (dueL fb bp)), some (.int (0 + (a : Int)))]) ?_ rfl ?_
    · exact svs_cons (sv_if (k := false) (tv_cmp (ev_call D_law_word (by walk_at "rm") rfl (av_cons (ev_var 8 (by rfl) (pv 8)) (av_cons (ev_ixL (ev_var 6 (by rfl) (pv 6)) ev_int rfl) (av_cons (ev_ixL (ev_var 6 (by rfl) (pv 6)) ev_int rfl) (av_cons (ev_ixL (ev_var 6 (by rfl) (pv 6)) ev_int rfl) (av_cons (ev_var 4 (by rfl) (pv 4)) av_nil))))) ⟨0 + (a : Int), ps, cells, boxes, place, bp, !fb, by omega, by omega, by omega, hbp, hbs, rfl, rfl⟩) (ev_ixL (ev_var 7 (by rfl) (pv 7)) (ev_var 8 (by rfl) (pv 8)) (due_at a hi fb bp)) (od_ne (by walk_at "un") wl.1 wl.1 (by have := wl.2; omega) (by rw [eqv_self _ wl.1]; rfl)) (nomark _)) (fun h => by cases h) (fun _ => svs_nil)) svs_nil
    · intro j d e
      match j, e with
      | 0, e => exact e
      | 1, e => exact e
      | 2, e => exact e
      | 3, e => exact e
      | 4, e => exact e
      | 5, e => exact e
      | 6, e => exact e
      | 7, e => exact e
      | 8, e => cases e
      | n + 9, e => cases e
end
section
variable {P : Program} {w : World} {K : PySem.W.Frag} {mg : Str → Option Value} {base : Heap}
def oddP (c d : Int) : Int := if d % 4 = 0 then 4096 else if d % 4 = 1 then -1 else if d % 4 = 2 then 4096 + c else -1 - c
theorem oddP_bad {c d : Int} (h : 0 ≤ c) : ¬ (0 ≤ oddP c d ∧ oddP c d < 4096) := by
  unfold oddP
  repeat' split
  all_goals omega
theorem oddP_at (c d : Int) : atI ([.int 4096, .int (-1), .int (4096 + c), .int (-1 - c)] : List PyData) (d % 4) = some (.int (oddP c d)) := by
  have h : d % 4 = 0 ∨ d % 4 = 1 ∨ d % 4 = 2 ∨ d % 4 = 3 := by omega
  unfold oddP
  rcases h with h | h | h | h <;> rw [h] <;> rfl
theorem okS_iff {ps : List PyData} {cells boxes : List Int} {place : Int} : okS ps cells boxes place ↔ (okL cells (16 * ps.length) ∧ okL boxes 4 ∧ (0 ≤ place ∧ place < 4096)) := by
  unfold okS
  constructor
  · rintro ⟨⟨a, b⟩, ⟨c, d⟩, e⟩
    exact ⟨⟨by omega, b⟩, ⟨by omega, d⟩, e⟩
  · rintro ⟨⟨a, b⟩, ⟨c, d⟩, e⟩
    exact ⟨⟨by omega, b⟩, ⟨by omega, d⟩, e⟩
theorem getD_pos {ns : List Int} (hb : ∀ r ∈ ns, 0 ≤ r ∧ r < 1000000) (i : Nat) : 0 ≤ ns.getD i 0 := by
  rw [List.getD_eq_getElem?_getD]
  cases h : ns[i]? with
  | none => exact Int.le_refl _
  | some v => exact (hb _ (List.mem_of_getElem? h)).1
theorem cut15 {ns : List Int} (hl : ns.length = 20) : cutD (ns.map PyData.int) (some 15) (some 19) = [.int (ns.getD 15 0), .int (ns.getD 16 0), .int (ns.getD 17 0), .int (ns.getD 18 0)] := by
  match ns, hl with
  | [a0, a1, a2, a3, a4, a5, a6, a7, a8, a9, b0, b1, b2, b3, b4, b5, b6, b7, b8, b9], _ => rfl
theorem cut14 {ns : List Int} (hl : ns.length = 20) : cutD (ns.map PyData.int) (some 14) (some 18) = [.int (ns.getD 14 0), .int (ns.getD 15 0), .int (ns.getD 16 0), .int (ns.getD 17 0)] := by
  match ns, hl with
  | [a0, a1, a2, a3, a4, a5, a6, a7, a8, a9, b0, b1, b2, b3, b4, b5, b6, b7, b8, b9], _ => rfl
theorem len_of {l l' : List Int} {x y : PyData} (e : [PyData.list (l.map PyData.int), x] = [PyData.list (l'.map PyData.int), y]) : l'.length = l.length := by
  have h := PyData.list.inj (List.cons.inj e).1
  have := congrArg List.length h
  simpa using this.symm
set_option maxHeartbeats 2000000 in
theorem hold3 (T : Txt mg) {f : Addr} (D_law_word : DFn P w K mg base 10 "_law_word" F_word) (R_law_spoilt : RFn P w K mg base 1 "_law_spoilt" F_spoilt preSp) {ns : List Int} {ps : List PyData} {cells boxes : List Int} {place : Int} {f0 f1 f2 : Bool} (hl : ns.length = 20) (hb : ∀ r ∈ ns, 0 ≤ r ∧ r < 1000000) (htri : ∀ p ∈ ps, isTri p) (hl0 : ps.length ≤ 12) (hl1 : cells.length ≤ 2000) (hl2 : boxes.length ≤ 2000) (hc : okL cells (16 * ps.length) ↔ f0 = false) (hx : okL boxes 4 ↔ f1 = false) (p0 : 0 ≤ place) (p1 : place < 4096) (cdv : Value) (A : Around) (outer : List Env) (s : Shared) (H : Hp) (E : XK) (hr : Room 10 (A.deeper (PyProof.Rows.envOfC "_law_holds" (defScope s_law_holds) s.heap.objs.size f cdv))) :
    SVs (cxOf CX0 P w K mg base ["numbers", "pages", "cells", "boxes", "place", "faults", "handed", "due", "which"] "_law_holds" (defScope s_law_holds) f cdv A outer s H E).nox [some (.list (ns.map PyData.int)), some (.list ps), some (.list (cells.map PyData.int)), some (.list (boxes.map PyData.int)), some (.int place), some (.list [.bool f0, .bool f1, .bool f2]), none, none, none] ((defBody s_law_holds).drop 4) (.ret (.bool true)) := by
  have g0 : ∀ (i : Int), 0 ≤ i → i < 20 → atI (ns.map PyData.int) i = some (.int (ns.getD i.toNat 0)) := fun i h0 h1 => at_ints h0 (by omega)
  have n19 := getD_pos hb 19
  cases f2 with
  | false =>
    refine svs_cons (sv_if (k := false) (tv_val (ev_ixL (ev_var 5 (by rfl) (pv 5)) ev_int rfl)) (fun h => by cases h) (fun _ => svs_nil)) (hold_end T D_law_word htri hl0 hl1 hl2 ?_ cdv A outer s H E hr)
    rw [okS_iff, hc, hx]
    cases f0 <;> cases f1 <;> simp [p0, p1]
  | true =>
    refine svs_cons (sv_if (k := true) (tv_val (ev_ixL (ev_var 5 (by rfl) (pv 5)) ev_int rfl)) (fun _ => svs_cons (sv_set (i := 4) (d := .int (oddP (ns.getD 19 0) (ns.getD 18 0))) sc_law_holds.nd rfl (Or.inl rfl) (ev_ixL (ev_lst (av_cons ev_int (av_cons (ev_neg ev_int) (av_cons (ev_bin ev_int (ev_ixL (ev_var 0 (by rfl) (pv 0)) ev_int (g0 19 (by decide) (by decide))) od_add) (av_cons (ev_bin (ev_neg ev_int) (ev_ixL (ev_var 0 (by rfl) (pv 0)) ev_int (g0 19 (by decide) (by decide))) od_sub) av_nil)))) (by walk_at "sz")) (ev_bin (ev_ixL (ev_var 0 (by rfl) (pv 0)) ev_int (g0 18 (by decide) (by decide))) ev_int (by walk_at "od")) (oddP_at _ _))) svs_nil) (fun h => by cases h)) (hold_end T D_law_word htri hl0 hl1 hl2 ?_ cdv A outer s H E hr)
    rw [okS_iff, hc, hx]
    constructor
    · exact fun h => absurd h.2.2 (oddP_bad n19)
    · intro h
      simp at h
set_option maxHeartbeats 2000000 in
theorem hold2 (T : Txt mg) {f : Addr} (D_law_word : DFn P w K mg base 10 "_law_word" F_word) (R_law_spoilt : RFn P w K mg base 1 "_law_spoilt" F_spoilt preSp) {ns : List Int} {ps : List PyData} {cells boxes : List Int} {place : Int} {f0 f1 f2 : Bool} (hl : ns.length = 20) (hb : ∀ r ∈ ns, 0 ≤ r ∧ r < 1000000) (htri : ∀ p ∈ ps, isTri p) (hl0 : ps.length ≤ 12) (hl1 : cells.length ≤ 2000) (hc : okL cells (16 * ps.length) ↔ f0 = false) (hx : okL boxes 4) (p0 : 0 ≤ place) (p1 : place < 4096) (cdv : Value) (A : Around) (outer : List Env) (s : Shared) (H : Hp) (E : XK) (hr : Room 10 (A.deeper (PyProof.Rows.envOfC "_law_holds" (defScope s_law_holds) s.heap.objs.size f cdv))) :
    SVs (cxOf CX0 P w K mg base ["numbers", "pages", "cells", "boxes", "place", "faults", "handed", "due", "which"] "_law_holds" (defScope s_law_holds) f cdv A outer s H E).nox [some (.list (ns.map PyData.int)), some (.list ps), some (.list (cells.map PyData.int)), some (.list (boxes.map PyData.int)), some (.int place), some (.list [.bool f0, .bool f1, .bool f2]), none, none, none] ((defBody s_law_holds).drop 3) (.ret (.bool true)) := by
  have hbl : boxes.length = 4 := by have := hx.1; omega
  cases f1 with
  | false => exact svs_cons (sv_if (k := false) (tv_val (ev_ixL (ev_var 5 (by rfl) (pv 5)) ev_int rfl)) (fun h => by cases h) (fun _ => svs_nil)) (hold3 T D_law_word R_law_spoilt hl hb htri hl0 hl1 (by omega) hc ⟨fun _ => rfl, fun _ => hx⟩ p0 p1 cdv A outer s H E hr)
  | true =>
    refine svs_ifSetR (i := 3) (tv_val (ev_ixL (ev_var 5 (by rfl) (pv 5)) ev_int rfl)) sc_law_holds.nd rfl (Or.inl rfl) (evr_call R_law_spoilt (by walk_at "rm") rfl (av_cons (ev_var 3 (by rfl) (pv 3)) (av_cons (ev_slL (ev_var 0 (by rfl) (pv 0)) (ov_some ev_int) (ov_some ev_int)) av_nil)) ⟨boxes, ns.getD 15 0, ns.getD 16 0, ns.getD 17 0, ns.getD 18 0, by omega, getD_pos hb 17, by rw [cut15 hl]⟩) ?_
    rintro d ⟨l, l', x, e, rfl, hn, hl'⟩
    have el := len_of e
    rw [el, hbl] at hn
    exact hold3 T D_law_word R_law_spoilt hl hb htri hl0 hl1 hl' hc ⟨fun h => absurd h hn, fun h => by cases h⟩ p0 p1 cdv A outer s H E hr
set_option maxHeartbeats 2000000 in
theorem hold1 (T : Txt mg) {f : Addr} (D_law_word : DFn P w K mg base 10 "_law_word" F_word) (R_law_spoilt : RFn P w K mg base 1 "_law_spoilt" F_spoilt preSp) {ns : List Int} {ps : List PyData} {cells boxes : List Int} {place : Int} {f0 f1 f2 : Bool} (hl : ns.length = 20) (hb : ∀ r ∈ ns, 0 ≤ r ∧ r < 1000000) (htri : ∀ p ∈ ps, isTri p) (hl0 : ps.length ≤ 12) (hc : okL cells (16 * ps.length)) (hx : okL boxes 4) (p0 : 0 ≤ place) (p1 : place < 4096) (cdv : Value) (A : Around) (outer : List Env) (s : Shared) (H : Hp) (E : XK) (hr : Room 10 (A.deeper (PyProof.Rows.envOfC "_law_holds" (defScope s_law_holds) s.heap.objs.size f cdv))) :
    SVs (cxOf CX0 P w K mg base ["numbers", "pages", "cells", "boxes", "place", "faults", "handed", "due", "which"] "_law_holds" (defScope s_law_holds) f cdv A outer s H E).nox [some (.list (ns.map PyData.int)), some (.list ps), some (.list (cells.map PyData.int)), some (.list (boxes.map PyData.int)), some (.int place), some (.list [.bool f0, .bool f1, .bool f2]), none, none, none] ((defBody s_law_holds).drop 2) (.ret (.bool true)) := by
  have hcl : cells.length = 16 * ps.length := by have := hc.1; omega
  cases f0 with
  | false => exact svs_cons (sv_if (k := false) (tv_val (ev_ixL (ev_var 5 (by rfl) (pv 5)) ev_int rfl)) (fun h => by cases h) (fun _ => svs_nil)) (hold2 T D_law_word R_law_spoilt hl hb htri hl0 (by omega) ⟨fun _ => rfl, fun _ => hc⟩ hx p0 p1 cdv A outer s H E hr)
  | true =>
    refine svs_ifSetR (i := 2) (tv_val (ev_ixL (ev_var 5 (by rfl) (pv 5)) ev_int rfl)) sc_law_holds.nd rfl (Or.inl rfl) (evr_call R_law_spoilt (by walk_at "rm") rfl (av_cons (ev_var 2 (by rfl) (pv 2)) (av_cons (ev_slL (ev_var 0 (by rfl) (pv 0)) (ov_some ev_int) (ov_some ev_int)) av_nil)) ⟨cells, ns.getD 14 0, ns.getD 15 0, ns.getD 16 0, ns.getD 17 0, by omega, getD_pos hb 16, by rw [cut14 hl]⟩) ?_
    rintro d ⟨l, l', x, e, rfl, hn, hl'⟩
    have el := len_of e
    rw [el, hcl] at hn
    exact hold2 T D_law_word R_law_spoilt hl hb htri hl0 hl' ⟨fun h => absurd h hn, fun h => by cases h⟩ hx p0 p1 cdv A outer s H E hr
set_option maxHeartbeats 2000000 in
theorem r_law_holds (T : Txt mg) {f : Addr} {fd : FuncData} (D_law_word : DFn P w K mg base 10 "_law_word" F_word) (R_law_spoilt : RFn P w K mg base 1 "_law_spoilt" F_spoilt preSp) (R_law_drawn : RFn P w K mg base 1 "_law_drawn" (fun _ r => drawOk r) preDr) (F : Fun K "_law_holds" "_law_holds" s_law_holds f fd) (hm : mg "_law_holds" = some (.ref f)) : RFn P w K mg base 11 "_law_holds" (fun _ d => d = .bool true) preDr := by
  refine F.dataR hm (F.binds fun _ _ _ _ _ _ us hl => match us, hl with | [_], _ => rfl) sc_law_holds (fun ds ⟨_, _, _, e⟩ => by rw [e]; rfl) fun cdv A outer s H E ds hr ⟨ns, hl, hb, e⟩ => ?_
  subst e
  refine rvs_of (d := .bool true) ?_ rfl
  have g0 : ∀ (i : Int), 0 ≤ i → i < 20 → atI (ns.map PyData.int) i = some (.int (ns.getD i.toNat 0)) := fun i h0 h1 => at_ints h0 (by omega)
  refine svs_asgR (is := [1, 2, 3, 4]) (evr_call R_law_drawn (by walk_at "rm") rfl (av_cons (ev_var 0 (by rfl) (pv 0)) av_nil) ⟨ns, hl, hb, rfl⟩) (pg_tup rfl (pgs_cons (pg_name (i := 1) sc_law_holds.nd rfl (by first | exact Or.inl rfl | exact Or.inr rfl)) (pgs_cons (pg_name (i := 2) sc_law_holds.nd rfl (by first | exact Or.inl rfl | exact Or.inr rfl)) (pgs_cons (pg_name (i := 3) sc_law_holds.nd rfl (by first | exact Or.inl rfl | exact Or.inr rfl)) (pgs_cons (pg_name (i := 4) sc_law_holds.nd rfl (by first | exact Or.inl rfl | exact Or.inr rfl)) pgs_nil))))) ?_ ?_
  · rintro d ⟨ps, cells, boxes, place, rfl, _⟩
    exact ⟨_, rfl, rfl⟩
  rintro dd ⟨ps, cells, boxes, place, e, hps, htri, hc, hx, p0, p1⟩ _
  cases e
  refine svs_cons (sv_set (i := 5) (d := .list [.bool (decide (ns.getD 13 0 % 3 = 1)), .bool (decide (ns.getD 13 0 / 3 % 3 = 1)), .bool (decide (ns.getD 13 0 / 9 % 3 = 1))]) sc_law_holds.nd rfl (Or.inl rfl) (ev_lst (av_cons (ev_eq (ev_cmp (ev_bin (ev_ixL (ev_var 0 (by rfl) (pv 0)) ev_int (g0 13 (by decide) (by decide))) ev_int (by walk_at "od")) ev_int (od_eq (by walk_at "un") rfl rfl (by walk_at "dp") rfl) (nomark _)) (by rw [eqv_int]; rfl)) (av_cons (ev_eq (ev_cmp (ev_bin (ev_bin (ev_ixL (ev_var 0 (by rfl) (pv 0)) ev_int (g0 13 (by decide) (by decide))) ev_int (by walk_at "od")) ev_int (by walk_at "od")) ev_int (od_eq (by walk_at "un") rfl rfl (by walk_at "dp") rfl) (nomark _)) (by rw [eqv_int]; rfl)) (av_cons (ev_eq (ev_cmp (ev_bin (ev_bin (ev_ixL (ev_var 0 (by rfl) (pv 0)) ev_int (g0 13 (by decide) (by decide))) ev_int (by walk_at "od")) ev_int (by walk_at "od")) ev_int (od_eq (by walk_at "un") rfl rfl (by walk_at "dp") rfl) (nomark _)) (by rw [eqv_int]; rfl)) av_nil))) (by walk_at "sz"))) ?_
  exact hold1 T D_law_word R_law_spoilt hl hb htri hps hc hx p0 p1 cdv A outer s H E hr
end
section
variable {P : Program} {w : World} {K : PySem.W.Frag} {mg : Str → Option Value} {base : Heap}
set_option maxHeartbeats 2000000 in
theorem ok_law (T : Txt mg) {f : Addr} {fd : FuncData} (R_law_numbers : RFn P w K mg base 1 "_law_numbers" numF numPre) (R_law_holds : RFn P w K mg base 11 "_law_holds" (fun _ d => d = .bool true) preDr) (F : Fun K "law" "law" s_law f fd) : FnOk P w K mg base CX0 20 f fd ["script"] (spD K F_law) := by
  refine F.dataOk sc_law (fun ds d ⟨_, e, _⟩ => by rw [e]; rfl) fun cdv A outer s H E ds d hr ⟨ns, e, hns, e2⟩ => ?_
  subst e e2
  have hm : ∃ m : Nat, max 1 (min 20 (ns.length : Int)) = (m : Int) ∧ m ≤ 20 := ⟨(max 1 (min 20 (ns.length : Int))).toNat, by omega, by omega⟩
  obtain ⟨m, hm, hm20⟩ := hm
  refine svs_cons (sv_for (k := 0) (as := List.range (m : Int).toNat) (D := fun (i : Nat) => PyData.int (0 + (i : Int))) (g := gName 1) (B := bindAt 1) (fun _ => [some (.list (ns.map PyData.int)), none]) PassesOwn.never rfl (iv_range1 (ev_eq (ev_callB2 "max" (av_cons ev_int (av_cons (ev_callB2 "min" (av_cons ev_int (av_cons (ev_callB2 "len" (av_cons (ev_var 0 (by rfl) (pv 0)) av_nil) (by walk_at "cd") rfl T.b_len (by decide +kernel)) av_nil)) (by walk_at "cd") rfl T.b_min (by decide +kernel)) av_nil)) (by walk_at "cd") rfl T.b_max (by decide +kernel)) ?mx) (by omega) (by omega) rfl T.b_range) (pg_name (i := 1) sc_law.nd rfl (Or.inl rfl)) (fun _ _ => bindDAt 1 _) ?b1) (svs_ret (sv_ret (ev_eq ev_bl rfl)))
  case mx =>
    rw [List.length_map]
    refine congrArg PyData.int ?_
    rw [← hm]
    repeat' split
    all_goals omega
  case b1 =>
    intro i a ha
    refine svs_forget (G1 := [some (.list (ns.map PyData.int)), some (.int (0 + (a : Int)))]) ?_ rfl ?_
    · refine svs_cons (sv_if (k := false) (tv_not (k := true) (tv_val (ev_ofR (evr_callR R_law_holds (by walk_at "rm") rfl (avr_cons (evr_call R_law_numbers (by walk_at "rm") rfl (av_cons (ev_var 0 (by rfl) (pv 0)) (av_cons (ev_var 1 (by rfl) (pv 1)) (av_cons ev_int av_nil))) ⟨ns, 0 + (a : Int), 20, hns, by decide, rfl⟩) (avr_of av_nil)) ?_) ?_))) (fun h => by cases h) (fun _ => svs_nil)) svs_nil
      · rintro ds ⟨d, r, rfl, ⟨_, _, many, em, rs, hrs, hb, rfl⟩, rfl⟩
        have em : many = 20 := by
          have := List.cons.inj (List.cons.inj (List.cons.inj em).2).2
          have := PyData.int.inj this.1
          omega
        subst em
        exact ⟨rs, hrs, hb, rfl⟩
      · rintro d ⟨ds, _, h⟩
        exact h
    · intro j d e
      match j, e with
      | 0, e => exact e
      | 1, e => cases e
      | n + 2, e => cases e
end
section
variable {P : Program} {w : World} {K : PySem.W.Frag} {mg : Str → Option Value} {base : Heap}
theorem kit_any {K : PySem.W.Frag} {C B1 B2 B3 B4 : Addr} (h1 : PySem.W.kitOne K (.ref C) (.ref B1) = some false) (h2 : PySem.W.kitOne K (.ref C) (.ref B2) = some false) (h3 : PySem.W.kitOne K (.ref C) (.ref B3) = some false) (h4 : PySem.W.kitOne K (.ref C) (.ref B4) = some false) : PySem.W.kitAny K (.ref C) [.ref B1, .ref B2, .ref B3, .ref B4] = some false := by
  simp [PySem.W.kitAny, h1, h2, h3, h4]
theorem all_mk {l : PySem.W.OpenLaw} {w : World} {K : PySem.W.Frag} {h : Heap} {mg : Str → Option Value} {fa CP CS L B1 B2 B3 B4 CM fI fD : Addr} {cdL cdCP cdCS : ClassData} {t1 : Tok} {oc1 oc2 : Value} {od1 an1 od2 an2 : Option Addr} {osl1 osl2 : Array (Option Value)} {kV1 doc1 pm1 cdv1 ct1 kV2 doc2 pm2 cdv2 ct2 : Value} (X : K.In h) (G : h.Ns mainGlobals mg) (hfa : mg "law" = some (.ref fa))
    (f1 : ∃ f fd, FnIn K "is_below" s_is_below f fd) (f2 : ∃ f fd, FnIn K "is_word" s_is_word f fd) (f3 : ∃ f fd, FnIn K "check_pages" s_check_pages f fd) (f4 : ∃ f fd, FnIn K "are_words" s_are_words f fd) (f5 : ∃ f fd, FnIn K "check_state" s_check_state f fd) (f6 : ∃ f fd, FnIn K "_law_numbers" s_law_numbers f fd) (f7 : ∃ f fd, FnIn K "_law_spoilt" s_law_spoilt f fd) (f8 : ∃ f fd, FnIn K "_law_drawn" s_law_drawn f fd) (f9 : ∃ f fd, FnIn K "_law_word" s_law_word f fd) (f10 : ∃ f fd, FnIn K "_law_holds" s_law_holds f fd) (f11 : ∃ f fd, FnIn K "law" s_law f fd)
    (z1 : PySem.W.nsIn K mainGlobals "len" = some none) (z2 : PySem.W.nsIn K mainGlobals "isinstance" = some none) (z3 : PySem.W.nsIn K mainGlobals "int" = some none) (z4 : PySem.W.nsIn K mainGlobals "bool" = some none) (z5 : PySem.W.nsIn K mainGlobals "all" = some none) (z6 : PySem.W.nsIn K mainGlobals "list" = some none) (z7 : PySem.W.nsIn K mainGlobals "range" = some none) (z8 : PySem.W.nsIn K mainGlobals "max" = some none) (z9 : PySem.W.nsIn K mainGlobals "min" = some none) (z10 : PySem.W.nsIn K mainGlobals "tuple" = some none) (z11 : PySem.W.nsIn K mainGlobals "ValueError" = some none) (i1 : PySem.W.nsIn K mainGlobals "PAGE_CELLS" = some (some (.int 16 t1)))
    (p0 : PySem.W.nsIn K mainGlobals "BadPages" = some (some (.ref CP))) (p1 : PySem.W.nsIn K mainGlobals "BadState" = some (some (.ref CS))) (p2 : PySem.W.nsIn K mainGlobals "LikeError" = some (some (.ref L))) (p3 : PySem.W.nsIn K mainGlobals "BadDeed" = some (some (.ref B1))) (p4 : PySem.W.nsIn K mainGlobals "BadRow" = some (some (.ref B2))) (p5 : PySem.W.nsIn K mainGlobals "TooMany" = some (some (.ref B3))) (p6 : PySem.W.nsIn K mainGlobals "Unknown" = some (some (.ref B4))) (p7 : PySem.W.nsIn K mainGlobals "Machine" = some (some (.ref CM))) (p8 : PySem.W.excIn K CP bmV "ValueError.__new__" = true) (p9 : PySem.W.excIn K CS bmV "ValueError.__new__" = true) (p10 : PySem.W.instIn K (.ref L) (.type "tuple") = some false) (p11 : PySem.W.clsIn K L = some cdL) (p12 : PySem.W.subIn K (.ref L) (.type "BaseException") = some true) (p13 : PySem.W.subIn K (.ref CP) (.ref L) = some true) (p14 : PySem.W.findIn K (.ref CP) "__getattribute__" = some (some (.builtin "BaseException.__getattribute__"))) (p15 : PySem.W.findIn K (.ref CP) "__getattr__" = some none) (p16 : PySem.W.findIn K (.ref CP) "__class__" = some (some (.builtin "object.__class__"))) (p17 : PySem.W.specialIn K (.builtin "object.__class__") "__get__" = some (some (.builtin "getset_descriptor.__get__"))) (p18 : PySem.W.takesIn K (.builtin "object.__class__") = some true) (p19 : PySem.W.mroIn K CP (.type "object") = some true) (p20 : PySem.W.mroIn K CP (.type "BaseException") = some true) (p21 : PySem.W.clsIn K CP = some cdCP) (p22 : PySem.W.kitOne K (.ref CP) (.ref CP) = some true) (p23 : PySem.W.kitOne K (.ref CP) (.ref CS) = some false) (p24 : PySem.W.kitOne K (.ref CP) (.ref B1) = some false) (p25 : PySem.W.kitOne K (.ref CP) (.ref B2) = some false) (p26 : PySem.W.kitOne K (.ref CP) (.ref B3) = some false) (p27 : PySem.W.kitOne K (.ref CP) (.ref B4) = some false) (p28 : PySem.W.kitOne K (.ref CP) (.type "ValueError") = some true) (p29 : PySem.W.subIn K (.ref CS) (.ref L) = some true) (p30 : PySem.W.findIn K (.ref CS) "__getattribute__" = some (some (.builtin "BaseException.__getattribute__"))) (p31 : PySem.W.findIn K (.ref CS) "__getattr__" = some none) (p32 : PySem.W.findIn K (.ref CS) "__class__" = some (some (.builtin "object.__class__"))) (p33 : PySem.W.specialIn K (.builtin "object.__class__") "__get__" = some (some (.builtin "getset_descriptor.__get__"))) (p34 : PySem.W.takesIn K (.builtin "object.__class__") = some true) (p35 : PySem.W.mroIn K CS (.type "object") = some true) (p36 : PySem.W.mroIn K CS (.type "BaseException") = some true) (p37 : PySem.W.clsIn K CS = some cdCS) (p38 : PySem.W.kitOne K (.ref CS) (.ref CP) = some false) (p39 : PySem.W.kitOne K (.ref CS) (.ref CS) = some true) (p40 : PySem.W.kitOne K (.ref CS) (.ref B1) = some false) (p41 : PySem.W.kitOne K (.ref CS) (.ref B2) = some false) (p42 : PySem.W.kitOne K (.ref CS) (.ref B3) = some false) (p43 : PySem.W.kitOne K (.ref CS) (.ref B4) = some false) (p44 : PySem.W.kitOne K (.ref CS) (.type "ValueError") = some true) (p45 : PySem.W.findIn K (.ref CM) "__init__" = some (some (.ref fI))) (p46 : PySem.W.isFn K (.ref fI) = true) (p47 : K.lookup fI = some ⟨oc1, od1, .func (PySem.W.fnOf "__init__" "Machine.__init__" (defArgs s_Machine_init) (defBody s_Machine_init) (defScope s_Machine_init) .none kV1 doc1 pm1 an1 cdv1 ct1), osl1⟩) (p48 : PySem.W.codeIn K cdv1 "Machine.__init__" = true) (p49 : PySem.W.keepIn K (.ref fI) = true) (p50 : PySem.W.findIn K (.ref CM) "done" = some (some (.ref fD))) (p51 : PySem.W.isFn K (.ref fD) = true) (p52 : K.lookup fD = some ⟨oc2, od2, .func (PySem.W.fnOf "done" "Machine.done" (defArgs s_Machine_done) (defBody s_Machine_done) (defScope s_Machine_done) .none kV2 doc2 pm2 an2 cdv2 ct2), osl2⟩) (p53 : PySem.W.codeIn K cdv2 "Machine.done" = true) (p54 : PySem.W.keepIn K (.ref fD) = true) (p55 : PySem.W.plainGet K CM Str.empty = true) (p56 : PySem.W.hasDictIn K CM = true) (p57 : PySem.W.plainOver K CM = true) (p58 : PySem.W.findIn K (.ref CM) "__setattr__" = some (some (.builtin "object.__setattr__"))) (p59 : PySem.W.makesIn K CM = true) (p60 : PySem.W.keepIn K (.ref CM) = true) (p61 : PySem.W.findIn K (.ref CM) "rights" = some none) (p62 : PySem.W.findIn K (.ref CM) "memory" = some none) (p63 : PySem.W.findIn K (.ref CM) "box_words" = some none) (p64 : PySem.W.findIn K (.ref CM) "here" = some none) (p65 : PySem.W.findIn K (.ref CM) "truth_pair" = some none) (p66 : PySem.W.findIn K (.ref CM) "told_words" = some none) (p67 : PySem.W.findIn K (.ref CM) "stored_cells" = some none) (p68 : PySem.W.findIn K (.ref CM) "done_count" = some none) :
    ∃ fd : FuncData, (∀ (s : Shared) (v : Value), BindsTo s fd ⟨[v], []⟩ [("script", v)]) ∧ ∀ base : Heap, K.In base → base.Ns mainGlobals mg → FnOk l.prog w K mg base CX0 20 fa fd ["script"] (spD K F_law) := by
  have T : Txt mg := ⟨PySem.W.mg_none_of X G z1, PySem.W.mg_none_of X G z2, PySem.W.mg_none_of X G z3, PySem.W.mg_none_of X G z4, PySem.W.mg_none_of X G z5, PySem.W.mg_none_of X G z6, PySem.W.mg_none_of X G z7, PySem.W.mg_none_of X G z8, PySem.W.mg_none_of X G z9, PySem.W.mg_none_of X G z10, PySem.W.mg_none_of X G z11, ⟨t1, PySem.W.mg_of X G i1⟩⟩
  have Te : ExcS K mg CP CS L B1 B2 B3 B4 := ⟨PySem.W.mg_of X G p0, PySem.W.mg_of X G p1, PySem.W.mg_of X G p2, PySem.W.mg_of X G p3, PySem.W.mg_of X G p4, PySem.W.mg_of X G p5, PySem.W.mg_of X G p6, ⟨p8⟩, ⟨p9⟩, ⟨p10, by rw [p11]; rfl, p12, p13⟩, ⟨p10, by rw [p11]; rfl, p12, p29⟩, exc_kit ⟨p14, p15, p16, p17, p18, p19, p20, by rw [p21]; rfl⟩, exc_kit ⟨p30, p31, p32, p33, p34, p35, p36, by rw [p37]; rfl⟩, p22, p23, kit_any p24 p25 p26 p27, p28, p38, p39, kit_any p40 p41 p42 p43, T.b_ValueError, p44⟩
  have Mc : ClsM K mg CM := ⟨⟨p55, p56, p57, p58⟩, p61, p62, p63, p64, p65, p66, p67, p68, PySem.W.mg_of X G p7⟩
  have M : Mk K CM fI := ⟨p59, p45, p46, p60⟩
  have FI0 : Fun K "__init__" "Machine.__init__" s_Machine_init fI _ := fun_mk p47 p48 p49
  have FD0 : Fun K "done" "Machine.done" s_Machine_done fD _ := fun_mk p52 p53 p54
  have hmt : Meth K CM "done" fD := ⟨p50, p51, p54⟩
  obtain ⟨a1, b1, F1⟩ := f1
  obtain ⟨a2, b2, F2⟩ := f2
  obtain ⟨a3, b3, F3⟩ := f3
  obtain ⟨a4, b4, F4⟩ := f4
  obtain ⟨a5, b5, F5⟩ := f5
  obtain ⟨a6, b6, F6⟩ := f6
  obtain ⟨a7, b7, F7⟩ := f7
  obtain ⟨a8, b8, F8⟩ := f8
  obtain ⟨a9, b9, F9⟩ := f9
  obtain ⟨a10, b10, F10⟩ := f10
  obtain ⟨a11, b11, F11⟩ := f11
  have e := hfa.symm.trans (PySem.W.mg_of X G F11.ns)
  cases e
  have bs : ∀ (s : Shared) (v : Value), BindsTo s b11 ⟨[v], []⟩ [("script", v)] := by
    obtain ⟨oc, od, kV, doc, pm, an, cdv, ct, osl, rfl, _⟩ := F11.fn.ex
    exact fun s v => .of_eq rfl
  refine ⟨b11, bs, fun base _ _ => ?_⟩
  have D1 : DFn l.prog w K mg base 1 "is_below" F_is_below := d_is_below T F1.fn (PySem.W.mg_of X G F1.ns)
  have D2 := d_is_word D1 F2.fn (PySem.W.mg_of X G F2.ns)
  have D3 : XFn l.prog w K mg base 2 "check_pages" (F_cp CP) := x_check_pages T Te.clP Te.mP F3.fn (PySem.W.mg_of X G F3.ns)
  have D4 := d_are_words T D2 F4.fn (PySem.W.mg_of X G F4.ns)
  have D5 := x_check_state T Te.clS Te.mS D3 D4 D2 F5.fn (PySem.W.mg_of X G F5.ns)
  have R6 : RFn l.prog w K mg base 1 "_law_numbers" numF numPre := r_law_numbers T F6.fn (PySem.W.mg_of X G F6.ns)
  have R7 : RFn l.prog w K mg base 1 "_law_spoilt" F_spoilt preSp := r_law_spoilt T F7.fn (PySem.W.mg_of X G F7.ns)
  have R8 : RFn l.prog w K mg base 1 "_law_drawn" (fun _ r => drawOk r) preDr := r_law_drawn T F8.fn (PySem.W.mg_of X G F8.ns)
  have FI := ok_init T Mc D5 FI0
  have FD : FnOk l.prog w K mg base CX0 1 fD _ ["self"] (spDone CM) := ok_done Mc FD0
  have bI := FI0.binds (ps := ["self", "pages", "cells", "boxes", "place"]) fun _ _ _ _ _ _ us hl => match us, hl with | [_, _, _, _, _], _ => rfl
  have bD := FD0.binds (ps := ["self"]) fun _ _ _ _ _ _ us hl => match us, hl with | [_], _ => rfl
  have D9 := d_law_word T Te Mc M bI FI hmt bD FD D3 D5 F9.fn (PySem.W.mg_of X G F9.ns)
  have R10 := r_law_holds T D9 R7 R8 F10.fn (PySem.W.mg_of X G F10.ns)
  exact ok_law T R6 R10 F11.fn
end
end My
open PySem PySem.W PyProof.Rows
set_option maxRecDepth 100000 in
set_option maxHeartbeats 0 in
theorem PySem.Challenge.cw_likewise_k07_pages_refused_holds : PySem.Challenge.rw_likewise_k07_pages_refused.Holds := by
  w_on; o_law; k_head; (case hw => w_witness2)
  k_fill
  refine L2.walk_D (l := PySem.Challenge.rw_likewise_k07_pages_refused) rfl rfl (fun w h Y => PySem.W.kIn_of Y) ?F
  case F =>
    intro w mg fa h KX G hmg
    refine' My.all_mk KX G hmg ?f1 ?f2 ?f3 ?f4 ?f5 ?f6 ?f7 ?f8 ?f9 ?f10 ?f11 ?z1 ?z2 ?z3 ?z4 ?z5 ?z6 ?z7 ?z8 ?z9 ?z10 ?z11 ?i1 ?p0 ?p1 ?p2 ?p3 ?p4 ?p5 ?p6 ?p7 ?p8 ?p9 ?p10 ?p11 ?p12 ?p13 ?p14 ?p15 ?p16 ?p17 ?p18 ?p19 ?p20 ?p21 ?p22 ?p23 ?p24 ?p25 ?p26 ?p27 ?p28 ?p29 ?p30 ?p31 ?p32 ?p33 ?p34 ?p35 ?p36 ?p37 ?p38 ?p39 ?p40 ?p41 ?p42 ?p43 ?p44 ?p45 ?p46 ?p47 ?p48 ?p49 ?p50 ?p51 ?p52 ?p53 ?p54 ?p55 ?p56 ?p57 ?p58 ?p59 ?p60 ?p61 ?p62 ?p63 ?p64 ?p65 ?p66 ?p67 ?p68
    (case f1 => refine' L2.fnIn_mk ?a ?l ?c ?k; (case a => k_is); (case l => k_is); (case c => k_is); (case k => k_is))
    (case f2 => refine' L2.fnIn_mk ?a ?l ?c ?k; (case a => k_is); (case l => k_is); (case c => k_is); (case k => k_is))
    (case f3 => refine' L2.fnIn_mk ?a ?l ?c ?k; (case a => k_is); (case l => k_is); (case c => k_is); (case k => k_is))
    (case f4 => refine' L2.fnIn_mk ?a ?l ?c ?k; (case a => k_is); (case l => k_is); (case c => k_is); (case k => k_is))
    (case f5 => refine' L2.fnIn_mk ?a ?l ?c ?k; (case a => k_is); (case l => k_is); (case c => k_is); (case k => k_is))
    (case f6 => refine' L2.fnIn_mk ?a ?l ?c ?k; (case a => k_is); (case l => k_is); (case c => k_is); (case k => k_is))
    (case f7 => refine' L2.fnIn_mk ?a ?l ?c ?k; (case a => k_is); (case l => k_is); (case c => k_is); (case k => k_is))
    (case f8 => refine' L2.fnIn_mk ?a ?l ?c ?k; (case a => k_is); (case l => k_is); (case c => k_is); (case k => k_is))
    (case f9 => refine' L2.fnIn_mk ?a ?l ?c ?k; (case a => k_is); (case l => k_is); (case c => k_is); (case k => k_is))
    (case f10 => refine' L2.fnIn_mk ?a ?l ?c ?k; (case a => k_is); (case l => k_is); (case c => k_is); (case k => k_is))
    (case f11 => refine' L2.fnIn_mk ?a ?l ?c ?k; (case a => k_is); (case l => k_is); (case c => k_is); (case k => k_is))
    (case z1 => k_is)
    (case z2 => k_is)
    (case z3 => k_is)
    (case z4 => k_is)
    (case z5 => k_is)
    (case z6 => k_is)
    (case z7 => k_is)
    (case z8 => k_is)
    (case z9 => k_is)
    (case z10 => k_is)
    (case z11 => k_is)
    (case i1 => k_is)
    (case p0 => k_is)
    (case p1 => k_is)
    (case p2 => k_is)
    (case p3 => k_is)
    (case p4 => k_is)
    (case p5 => k_is)
    (case p6 => k_is)
    (case p7 => k_is)
    (case p8 => k_exc)
    (case p9 => k_exc)
    (case p10 => k_is)
    (case p11 => k_is)
    (case p12 => k_is)
    (case p13 => k_is)
    (case p14 => k_is)
    (case p15 => k_is)
    (case p16 => k_is)
    (case p17 => k_is)
    (case p18 => k_is)
    (case p19 => k_is)
    (case p20 => k_is)
    (case p21 => k_is)
    (case p22 => kit_is)
    (case p23 => kit_is)
    (case p24 => kit_is)
    (case p25 => kit_is)
    (case p26 => kit_is)
    (case p27 => kit_is)
    (case p28 => kit_is)
    (case p29 => k_is)
    (case p30 => k_is)
    (case p31 => k_is)
    (case p32 => k_is)
    (case p33 => k_is)
    (case p34 => k_is)
    (case p35 => k_is)
    (case p36 => k_is)
    (case p37 => k_is)
    (case p38 => kit_is)
    (case p39 => kit_is)
    (case p40 => kit_is)
    (case p41 => kit_is)
    (case p42 => kit_is)
    (case p43 => kit_is)
    (case p44 => kit_is)
    (case p45 => k_is)
    (case p46 => k_is)
    (case p47 => k_is)
    (case p48 => k_is)
    (case p49 => k_is)
    (case p50 => k_is)
    (case p51 => k_is)
    (case p52 => k_is)
    (case p53 => k_is)
    (case p54 => k_is)
    (case p55 => k_is)
    (case p56 => k_is)
    (case p57 => k_is)
    (case p58 => k_is)
    (case p59 => k_is)
    (case p60 => k_is)
    (case p61 => k_is)
    (case p62 => k_is)
    (case p63 => k_is)
    (case p64 => k_is)
    (case p65 => k_is)
    (case p66 => k_is)
    (case p67 => k_is)
    (case p68 => k_is)

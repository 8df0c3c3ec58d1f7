import PyProof.Rows.All
import Wide.All
import OpenK.AllK
import Wide.FinOn
import Lean
import PyProof.EqAt
import PyProof.EqKinds
import PyProof.TupleCall
import KE.KSortTup
import KE.KItemsList
import PyProof.Draws
import PyProof.EnumFor
import PyProof.EnumStmt
import PyProof.ExcBaseAll.ValueError
import PyProof.RulesAs
import PyProof.Rows.CatchHere
import PyProof.InstStoreFacts
import PyProof.Walks
import PyProof.Seq
import PySem.Challenge.RW_likewise_k27_pieces_refused
set_option Elab.async false
set_option linter.all false
set_option maxRecDepth 100000
namespace PySem.W.Fast
def tw5623205365248447168:=()
def tw13803109134596573345:=()
def tw1753396897819561153:=()
def tw1160258408784617155:=()
def tw13936019103219181251:=()
def tw14305656913939469476:=()
def tw4550058689290194251:=()
def tw3769042996656462318:=()
def tw15269654411995513809:=()
def tw15147299225433040690:=()
def tw15286685142357790706:=()
def tw346672242970778610:=()
def tw9457642461126964821:=()
def tw4102718724734389973:=()
def tw15861306293870118646:=()
def tw11955334136607406839:=()
def tw6992431018093646555:=()
def tw10318054120310616284:=()
def tw8649377753404807837:=()
def tw14156337657767252510:=()
def tw2416079794539962687:=()
def tw13174908666008009437:=()
def tw6579977054786521574:=()
def tw5040943707723931223:=()
def tw16604197985916306367:=()
def tw12731066075080091647:=()
def tw14734462694400562692:=()
def tw6485711404342520222:=()
def tw495024825001955095:=()
def tw16010097326220454476:=()
def tw7352474793729328477:=()
def tw1687428543901771909:=()
def tw8898911383846598260:=()
def tw7497139521281466864:=()
def tw922669999445585081:=()
def tw271107270201686352:=()
def tw4323294170155582605:=()
def tw9425842285869067359:=()
def tw13012440881021497788:=()
def tw743278871731420604:=()
def tw10653782650134885182:=()
def tw17881742073912969710:=()
def tw3667282480067245632:=()
def tw14601054193468753821:=()
def tw11579680415443080036:=()
def tw17949652714787038888:=()
def tw560764667357257103:=()
def tw12358361296817900632:=()
def tw8427507725916451931:=()
def tw3518328033503913575:=()
def tw359094704325041273:=()
def tw15689146680301722003:=()
def tw3087855445047894566:=()
def tw16938479810546495855:=()
def tw17357231507224208370:=()
def tw5720924253799739504:=()
def tw13555500975812054897:=()
def tw294329744459279877:=()
def tw18159562072062682241:=()
def tw1911589632300233631:=()
def tw13986733170457076774:=()
def tw10988843351403398952:=()
def tw16473230853095498168:=()
def tw7298657745310021234:=()
def tw3372241090027628302:=()
def tw12926981314538708725:=()
def tw6812005676690803753:=()
def tw16879791850633024568:=()
def tw4459011429254250480:=()
def tw8414361281025741479:=()
def tw11008368882440914179:=()
def tw16799602508122488944:=()
def tw18339344533465072538:=()
def tw4884278607337493420:=()
def tw4220037785094469523:=()
def tw8620168344601702334:=()
def tw3854195813703005077:=()
def tw9078622212464451911:=()
def tw6993428978716471990:=()
def tw2692742738478031064:=()
end PySem.W.Fast
namespace L2
open PySem PySem.Spec PyProof.Rows
abbrev Key := Sum Int Str
def keyIs : Key → Value → Bool
  | .inl k, v => Value.isInt k v
  | .inr x, v => Value.isStrOf x v
def keyH (w : World) : Key → Int
  | .inl k => hashInt k
  | .inr x => hashStr w x
theorem keyIs_shape : ∀ {k : Key} {v : Value}, keyIs k v = true → (∃ i t, k = Sum.inl i ∧ v = Value.int i t) ∨ (∃ x t, k = Sum.inr x ∧ v = Value.str x t)
  | .inl i, v, h => by
    obtain ⟨t, e⟩ := Value.isInt_shape (k := i) (v := v) h
    exact .inl ⟨i, t, rfl, e⟩
  | .inr x, v, h => by
    obtain ⟨t, e⟩ := Value.isStrOf_shape (x := x) (v := v) h
    exact .inr ⟨x, t, rfl, e⟩
theorem keyIs_int (i : Int) (t : Tok) : keyIs (.inl i) (.int i t) = true := by simp [keyIs, Value.isInt]
theorem keyIs_str (x : Str) (t : Tok) : keyIs (.inr x) (.str x t) = true := by simp [keyIs, Value.isStrOf]
theorem key_ll (a b : Int) : decide ((Sum.inl a : Key) = Sum.inl b) = (a == b) := by
  by_cases e : a = b
  · subst e; simp
  · have h : ¬ (Sum.inl a : Key) = Sum.inl b := fun q => e (Sum.inl.inj q)
    rw [decide_eq_false h]
    exact (beq_eq_false_iff_ne.mpr e).symm
theorem key_rr (a b : Str) : decide ((Sum.inr a : Key) = Sum.inr b) = decide (a = b) := by
  by_cases e : a = b
  · subst e; simp
  · have h : ¬ (Sum.inr a : Key) = Sum.inr b := fun q => e (Sum.inr.inj q)
    rw [decide_eq_false h, decide_eq_false e]
theorem key_lr (a : Int) (b : Str) : decide ((Sum.inl a : Key) = Sum.inr b) = false := decide_eq_false (fun q => nomatch q)
theorem key_rl (a : Str) (b : Int) : decide ((Sum.inr a : Key) = Sum.inl b) = false := decide_eq_false (fun q => nomatch q)
def mixKind (prog : Program) (w : World) : PySem.KeyKind prog w Key where
  is := keyIs
  hash := keyH w
  inj := fun v a b ha hb => by
    rcases keyIs_shape ha with ⟨i, t, rfl, rfl⟩ | ⟨x, t, rfl, rfl⟩
    · rcases keyIs_shape hb with ⟨j, u, rfl, e⟩ | ⟨y, u, rfl, e⟩
      · injection e with e1 _; rw [e1]
      · exact nomatch e
    · rcases keyIs_shape hb with ⟨j, u, rfl, e⟩ | ⟨y, u, rfl, e⟩
      · exact nomatch e
      · injection e with e1 _; rw [e1]
  byValue := fun k v h => by
    rcases keyIs_shape h with ⟨i, t, rfl, rfl⟩ | ⟨x, t, rfl, rfl⟩ <;> rfl
  pyHash := fun hv h => by
    rcases keyIs_shape hv with ⟨i, t, rfl, rfl⟩ | ⟨x, t, rfl, rfl⟩
    · exact wpAny_pyHash_int h
    · exact wpAny_pyHash_str h
  eqBool := fun hu hv h => by
    rcases keyIs_shape hu with ⟨i, t, rfl, rfl⟩ | ⟨x, t, rfl, rfl⟩
    · rcases keyIs_shape hv with ⟨j, u, rfl, rfl⟩ | ⟨y, u, rfl, rfl⟩
      · rw [key_ll] at h; exact wpAny_eqBool_int h
      · rw [key_lr] at h; exact SeqAt.EqAt.int_str i t y u _ _ _ _ h
    · rcases keyIs_shape hv with ⟨j, u, rfl, rfl⟩ | ⟨y, u, rfl, rfl⟩
      · rw [key_rl] at h; exact SeqAt.EqAt.str_int x t j u _ _ _ _ h
      · rw [key_rr] at h; exact wpAny_eqBool_str h
  «strs» := fun k x t v h => by
    rcases keyIs_shape h with ⟨i, u, rfl, e⟩ | ⟨y, u, rfl, e⟩
    · exact nomatch e
    · injection e with e1 _
      subst e1
      cases v <;> rfl
theorem mixKind_int (prog : Program) (w : World) (i : Int) (t : Tok) : (mixKind prog w).is (.inl i) (.int i t) = true := keyIs_int i t
theorem mixKind_str (prog : Program) (w : World) (x : Str) (t : Tok) : (mixKind prog w).is (.inr x) (.str x t) = true := keyIs_str x t
end L2
namespace L2
open PySem PySem.Spec PyProof.Rows
inductive V where
  | non | bl (b : Bool) | int (i : Int) | str (x : Str) | byt (b : Array UInt8) | flt (b : UInt64) | ref (a : Addr) | ty (n : String)
  deriving DecidableEq
def RelV : V → Value → Prop
  | .non, u => u = Value.none
  | .bl b, u => u = Value.bool b
  | .int i, u => ∃ t, u = Value.int i t
  | .str x, u => ∃ t, u = Value.str x t
  | .byt b, u => ∃ t, u = Value.bytes b t
  | .flt b, u => ∃ t, u = Value.float b t
  | .ref a, u => u = Value.ref a
  | .ty n, u => u = Value.type n
abbrev Vals : List V → List Value → Prop := Paired RelV
theorem Vals.length {xs : List V} {us : List Value} (r : Vals xs us) : xs.length = us.length := Paired.length r
theorem Vals.get : ∀ {xs : List V} {us : List Value} {i : Nat} {x : V}, Vals xs us → xs[i]? = some x → ∃ u, us[i]? = some u ∧ RelV x u
  | _, _, _, _, .nil, e => by simp at e
  | _, _, 0, _, .cons r _, e => by simp at e; subst e; exact ⟨_, rfl, r⟩
  | _, _, i + 1, x, .cons _ t, e => by
    obtain ⟨u, h1, h2⟩ := Vals.get (i := i) (x := x) t (by simpa using e)
    exact ⟨u, by simpa using h1, h2⟩
theorem Vals.set {x : V} {u : Value} (r : RelV x u) : ∀ {xs : List V} {us : List Value} (i : Nat), Vals xs us → Vals (xs.set i x) (us.set i u)
  | _, _, _, .nil => .nil
  | _, _, 0, .cons _ t => .cons r t
  | _, _, i + 1, .cons q t => .cons q (Vals.set r i t)
theorem Vals.append : ∀ {xs ys : List V} {us ws : List Value}, Vals xs us → Vals ys ws → Vals (xs ++ ys) (us ++ ws)
  | _, _, _, _, .nil, s => s
  | _, _, _, _, .cons r t, s => .cons r (Vals.append t s)
theorem Vals.take : ∀ {xs : List V} {us : List Value} (n : Nat), Vals xs us → Vals (xs.take n) (us.take n)
  | _, _, 0, _ => .nil
  | _, _, _ + 1, .nil => .nil
  | _, _, n + 1, .cons r t => .cons r (Vals.take n t)
theorem Vals.drop : ∀ {xs : List V} {us : List Value} (n : Nat), Vals xs us → Vals (xs.drop n) (us.drop n)
  | _, _, 0, r => r
  | _, _, _ + 1, .nil => .nil
  | _, _, n + 1, .cons _ t => Vals.drop n t
def RelO : Option V → Option Value → Prop
  | some v, some u => RelV v u
  | none, none => True
  | _, _ => False
def KV {κ : Type} : List (κ × V) → List (κ × Value) → Prop := Paired fun (p : κ × V) (q : κ × Value) => p.1 = q.1 ∧ RelV p.2 q.2
def kV : Key → V
  | .inl i => .int i
  | .inr x => .str x
inductive HO where
  | lst (xs : List V)
  | tup (xs : List V)
  | dK (kvs : List (Key × V)) | dT (kvs : List (List Key × V))
  | set (S : Int → Bool) (n : Nat)
  | ins (C dx : Addr) (fs : List (Str × V))
  | own (x : Addr)
  | xd (fs : List (Str × V))
  | met (f x : Addr)
  | rng (lo hi : Int)
  | frz (o : Obj) (u : HO)
  | tbl (ps : Array Value)
  | ext (φ : Heap → Prop)
abbrev Hp := Addr → Option HO
def upd (H : Hp) (a : Addr) (o : HO) : Hp := fun b => if b = a then some o else H b
theorem upd_same {H : Hp} {a : Addr} {o : HO} : upd H a o a = some o := by unfold upd; rw [if_pos rfl]
theorem upd_ne {H : Hp} {a b : Addr} {o : HO} (h : b ≠ a) : upd H a o b = H b := by unfold upd; rw [if_neg h]
theorem upd_upd {H : Hp} {a : Addr} {o u : HO} : upd (upd H a o) a u = upd H a u := by
  funext b; unfold upd; split <;> rfl
theorem ne_of {H : Hp} {a b : Addr} {o u : HO} (h : H a = some o) (h' : H b = some u) (d : o ≠ u) : a ≠ b := by
  intro e; subst e; rw [h] at h'; exact d (Option.some.inj h')
theorem ne_of_none {H : Hp} {a b : Addr} {o : HO} (h : H a = some o) (h' : H b = none) : a ≠ b := by
  intro e; subst e; rw [h] at h'; cases h'
section
variable (P : Program) (w : World)
def ObjOk (H : Hp) (h : Heap) (a : Addr) : HO → Prop
  | .lst xs => xs.length ≤ sizeLine ∧ ∃ (its : List Value) (n : Nat), Vals xs its ∧ h.get? a = some { cls := .type "list", data := .seq its.toArray n }
  | .tup xs => xs.length ≤ sizeLine ∧ ∃ its : List Value, Vals xs its ∧ IsTup h a its.toArray
  | .dK kvs => kvs.length ≤ sizeLine ∧ (a == sysModules) = false ∧ ∃ vs, KV kvs vs ∧ h.DictOf (mixKind P w) a vs
  | .dT kvs => kvs.length ≤ sizeLine ∧ (a == sysModules) = false ∧ ∃ xs : List (List Key × Addr × Value),
      Paired (fun (p : List Key × V) (q : List Key × Addr × Value) => p.1 = q.1 ∧ H q.2.1 = some (.tup (p.1.map kV)) ∧ RelV p.2 q.2.2) kvs xs ∧
      ∃ o es ep, h.get? a = some o ∧ o.ExactDict ∧ o.data = .dict es ep ∧ es.toList = xs.map (entryOfKey (tupleKind (mixKind P w))) ∧ (xs.map (·.1)).Nodup
  | .set S n => h.SetOf (intKind P w) a S n
  | .ins C dx fs => H dx = some (.own a) ∧ fs.length ≤ 1000 ∧ dx ≠ a ∧ h.get? a = some (PySem.W.instObj C dx) ∧
      ∃ mA, h.Ns1 dx mA ∧ (∀ f, RelO (fs.lookup f) (mA f)) ∧ PySem.Within mA (fs.map (·.1))
  | .own _ => ∃ o, h.get? a = some o
  | .xd fs => ∃ mA, h.Ns1 a mA ∧ ∀ f, RelO (fs.lookup f) (mA f)
  | .rng lo hi => ∃ t u v, h.get? a = some { cls := .type "range", data := .fields #[.int lo t, .int hi u, .int 1 v] }
  | .frz o u => h.get? a = some o ∧ ObjOk H h a u
  | .tbl ps => h.get? a = some { cls := .none, data := .fields ps }
  | .met f x => h.get? a = some (PySem.W.methodObj (.ref f) (.ref x))
  | .ext φ => φ h ∧ (∃ o, h.get? a = some o) ∧ ∀ h1 h2 : Heap, φ h1 → (∀ o, h1.get? a = some o → h2.get? a = some o) → φ h2
def HOk (H : Hp) (h : Heap) : Prop := ∀ a o, H a = some o → ObjOk P w H h a o
end
section
variable {P : Program} {w : World} {H H' : Hp} {h h' : Heap} {a : Addr} {o : HO}
theorem ObjOk.lt (x : ObjOk P w H h a o) : a < h.objs.size := by
  cases o with
  | lst xs => obtain ⟨_, _, _, _, e⟩ := x; exact Heap.lt_size e
  | tup xs => obtain ⟨_, _, _, p⟩ := x; exact p.lt
  | dK kvs => obtain ⟨_, _, _, _, o, _, _, e, _⟩ := x; exact Heap.lt_size e
  | dT kvs => obtain ⟨_, _, _, _, o, _, _, e, _⟩ := x; exact Heap.lt_size e
  | set S n => obtain ⟨o, _, _, _, e, _⟩ := x; exact Heap.lt_size e
  | ins C dx fs => obtain ⟨_, _, _, e, _⟩ := x; exact Heap.lt_size e
  | own y => obtain ⟨_, e⟩ := x; exact Heap.lt_size e
  | xd fs => obtain ⟨_, ⟨_, _, _, e, _⟩, _⟩ := x; exact Heap.lt_size e
  | rng lo hi => obtain ⟨_, _, _, e⟩ := x; exact Heap.lt_size e
  | frz ob u => obtain ⟨e, _⟩ := x; exact Heap.lt_size e
  | tbl ps => exact Heap.lt_size (show h.get? a = some _ from x)
  | met f y => exact Heap.lt_size (show h.get? a = some _ from x)
  | ext φ => obtain ⟨_, ⟨_, e⟩, _⟩ := x; exact Heap.lt_size e
theorem Paired.mapP {α β : Type} {F G : α → β → Prop} : ∀ {l₁ : List α} {l₂ : List β}, Paired F l₁ l₂ → (∀ a b, F a b → G a b) → Paired G l₁ l₂
  | _, _, .nil, _ => .nil
  | _, _, .cons r t, f => .cons (f _ _ r) (Paired.mapP t f)
theorem ObjOk.stay (x : ObjOk P w H h a o) (k : ∀ b u, (b = a ∨ H b = some (.own a)) → h.get? b = some u → h'.get? b = some u)
    (ho : ∀ b, H b = some (.own a) → H' b = some (.own a)) (ht : ∀ b xs, H b = some (.tup xs) → H' b = some (.tup xs)) : ObjOk P w H' h' a o := by
  induction o with
  | lst xs => obtain ⟨z, its, n, r, e⟩ := x; exact ⟨z, its, n, r, k _ _ (.inl rfl) e⟩
  | tup xs => obtain ⟨z, its, r, ob, e, c⟩ := x; exact ⟨z, its, r, ob, k _ _ (.inl rfl) e, c⟩
  | dK kvs => obtain ⟨z, y, vs, r, ob, es, ep, e, c⟩ := x; exact ⟨z, y, vs, r, ob, es, ep, k _ _ (.inl rfl) e, c⟩
  | dT kvs =>
    obtain ⟨z, y, xs, r, ob, es, ep, e, c⟩ := x
    exact ⟨z, y, xs, Paired.mapP r fun p q z => ⟨z.1, ht _ _ z.2.1, z.2.2⟩, ob, es, ep, k _ _ (.inl rfl) e, c⟩
  | set S n => obtain ⟨ob, es, ep, t, e, c⟩ := x; exact ⟨ob, es, ep, t, k _ _ (.inl rfl) e, c⟩
  | ins C dx fs =>
    obtain ⟨d, z, ne, e, mA, ⟨od, es, ep, e2, c⟩, r⟩ := x
    exact ⟨ho _ d, z, ne, k _ _ (.inl rfl) e, mA, ⟨od, es, ep, k _ _ (.inr d) e2, c⟩, r⟩
  | own y => obtain ⟨ob, e⟩ := x; exact ⟨ob, k _ _ (.inl rfl) e⟩
  | xd fs => obtain ⟨mA, ⟨od, es, ep, e, c⟩, r⟩ := x; exact ⟨mA, ⟨od, es, ep, k _ _ (.inl rfl) e, c⟩, r⟩
  | rng lo hi => obtain ⟨t, u, v, e⟩ := x; exact ⟨t, u, v, k _ _ (.inl rfl) e⟩
  | frz ob u ih => obtain ⟨e, q⟩ := x; exact ⟨k _ _ (.inl rfl) e, ih q⟩
  | tbl ps =>
    have e : h.get? a = some { cls := .none, data := .fields ps } := x
    show h'.get? a = some { cls := .none, data := .fields ps }
    exact k a _ (.inl rfl) e
  | met f y =>
    have e : h.get? a = some (PySem.W.methodObj (.ref f) (.ref y)) := x
    show h'.get? a = some (PySem.W.methodObj (.ref f) (.ref y))
    exact k a _ (.inl rfl) e
  | ext φ => obtain ⟨p, ⟨o, e⟩, st⟩ := x; exact ⟨st _ _ p fun o q => k _ _ (.inl rfl) q, ⟨o, k _ _ (.inl rfl) e⟩, st⟩
theorem HOk.lt (x : HOk P w H h) (e : H a = some o) : a < h.objs.size := (x a o e).lt
theorem HOk.fresh (x : HOk P w H h) (e : h.objs.size ≤ a) : H a = none := by
  cases q : H a with
  | none => rfl
  | some u => exact absurd (Nat.lt_of_lt_of_le (x.lt q) e) (Nat.lt_irrefl _)
theorem HOk.kept (x : HOk P w H h) (k : ∀ b u, h.get? b = some u → h'.get? b = some u) : HOk P w H h' := fun a o e =>
  (x a o e).stay (fun b u _ q => k b u q) (fun _ q => q) fun _ _ q => q
theorem HOk.laid (x : HOk P w H h) (k : ∀ b u, h.get? b = some u → h'.get? b = some u) (hp : h.objs.size ≤ a) (new : ObjOk P w (upd H a o) h' a o) : HOk P w (upd H a o) h' := fun b u e => by
  have hn := x.fresh hp
  by_cases hb : b = a
  · subst hb; rw [upd_same] at e; cases e; exact new
  · rw [upd_ne hb] at e
    exact (x b u e).stay (fun c v _ q => k c v q) (fun c q => by rw [upd_ne (ne_of_none q hn)]; exact q) fun c xs q => by rw [upd_ne (ne_of_none q hn)]; exact q
end
def Rd (H : Hp) (a : Addr) (u : HO) : Prop := H a = some u ∨ ∃ o, H a = some (.frz o u)
theorem Rd.of {H : Hp} {a : Addr} {u : HO} (h : H a = some u) : Rd H a u := .inl h
theorem Rd.ok {P : Program} {w : World} {H : Hp} {h : Heap} {a : Addr} {u : HO} (r : Rd H a u) (x : HOk P w H h) : ObjOk P w H h a u := by
  rcases r with r | ⟨o, r⟩
  · exact x a u r
  · obtain ⟨_, q⟩ := x a _ r
    exact q
def Mut : Option HO → Prop
  | some (.lst _) => True
  | some (.dK _) => True
  | some (.dT _) => True
  | some (.set _ _) => True
  | some (.ins _ _ _) => True
  | some (.ext _) => True
  | _ => False
section
variable {P : Program} {w : World} {H : Hp} {h h' : Heap} {x e : Addr} {o' : HO}
theorem HOk.write (ok : HOk P w H h) (mu : Mut (H x)) (he : e = x ∨ H e = some (.own x)) (k : ∀ b u, b ≠ e → h.get? b = some u → h'.get? b = some u) (heo : ∃ u, h'.get? e = some u)
    (new : ObjOk P w (upd H x o') h' x o') : HOk P w (upd H x o') h' := fun b u q => by
  have nown : ∀ c y, H c = some (.own y) → c ≠ x := fun c y r z => by subst z; rw [r] at mu; exact mu
  have ntup : ∀ c xs, H c = some (.tup xs) → c ≠ x := fun c xs r z => by subst z; rw [r] at mu; exact mu
  by_cases hb : b = x
  · subst hb; rw [upd_same] at q; cases q; exact new
  · rw [upd_ne hb] at q
    by_cases hbe : b = e
    · have q' : H b = some (.own x) := by
        rcases he with z | z
        · exact absurd (hbe.trans z) hb
        · rw [hbe]; exact z
      rw [q] at q'; cases q'
      obtain ⟨v, hv⟩ := heo
      exact ⟨v, by rw [hbe]; exact hv⟩
    · refine (ok b u q).stay (fun c v hc r => k c v ?_ r) (fun c r => by rw [upd_ne (nown c b r)]; exact r) fun c xs r => by rw [upd_ne (ntup c xs r)]; exact r
      rcases hc with rfl | hc
      · exact hbe
      · rintro rfl
        rcases he with z | z
        · exact nown c b hc z
        · rw [hc] at z; cases z; exact hb rfl
end
structure Un (fs ex : List Addr) (H H' : Hp) (h h' : Heap) : Prop where
  keep : ∀ b o, h.get? b = some o → H b = none → b ∉ fs → b ∉ ex → h'.get? b = some o
  slot : ∀ b o, h.get? b = some o → H b = none → b ∈ fs → b ∉ ex → ∃ sl, h'.get? b = some { o with slots := sl }
  free : ∀ b o, h.get? b = some o → H b = none → b ∉ ex → H' b = none
  there : ∀ b o, h.get? b = some o → b ∉ ex → ∃ o', h'.get? b = some o'
  tups : ∀ b xs, H b = some (.tup xs) → H' b = some (.tup xs)
  frzs : ∀ b o u, H b = some (.frz o u) → H' b = some (.frz o u)
  tbls : ∀ b ps, H b = some (.tbl ps) → ∃ more, H' b = some (.tbl (ps ++ more))
section
variable {fs fs' ex ex' : List Addr} {H H1 H2 : Hp} {h h1 h2 h' : Heap} {a x e : Addr} {o : HO}
theorem Un.any (u : Un fs ex H H1 h h1) {b : Addr} {ob : Obj} (q : h.get? b = some ob) (n : H b = none) (hx : b ∉ ex) : ∃ sl, h1.get? b = some { ob with slots := sl } := by
  by_cases hb : b ∈ fs
  · exact u.slot b ob q n hb hx
  · exact ⟨ob.slots, u.keep b ob q n hb hx⟩
theorem Un.trans (a : Un fs ex H H1 h h1) (b : Un fs ex H1 H2 h1 h2) : Un fs ex H H2 h h2 where
  keep := fun c ob q n hc hx => b.keep c ob (a.keep c ob q n hc hx) (a.free c ob q n hx) hc hx
  slot := fun c ob q n hc hx => by
    obtain ⟨sl, e1⟩ := a.slot c ob q n hc hx
    obtain ⟨sl', e2⟩ := b.slot c _ e1 (a.free c ob q n hx) hc hx
    exact ⟨sl', e2⟩
  free := fun c ob q n hx => by
    obtain ⟨o', e1⟩ := a.there c ob q hx
    exact b.free c o' e1 (a.free c ob q n hx) hx
  there := fun c ob q hx => by
    obtain ⟨o', e1⟩ := a.there c ob q hx
    exact b.there c o' e1 hx
  tups := fun c xs q => b.tups c xs (a.tups c xs q)
  frzs := fun c ob xs q => b.frzs c ob xs (a.frzs c ob xs q)
  tbls := fun c ps q => by
    obtain ⟨m1, e1⟩ := a.tbls c ps q
    obtain ⟨m2, e2⟩ := b.tbls c _ e1
    exact ⟨m1 ++ m2, by rw [e2, Array.append_assoc]⟩
theorem Un.kept (k : ∀ b u, h.get? b = some u → h'.get? b = some u) : Un fs ex H H h h' :=
  ⟨fun b ob q _ _ _ => k b ob q, fun b ob q _ _ _ => ⟨ob.slots, k b ob q⟩, fun _ _ _ n _ => n, fun b ob q _ => ⟨ob, k b ob q⟩, fun _ _ q => q, fun _ _ _ q => q, fun _ ps q => ⟨#[], by rw [q]; simp⟩⟩
theorem Un.refl : Un fs ex H H h h := Un.kept fun _ _ q => q
theorem Un.laid (k : ∀ b u, h.get? b = some u → h'.get? b = some u) (hp : h.objs.size ≤ a) (hn : H a = none) : Un fs ex H (upd H a o) h h' where
  keep := fun b u q _ _ _ => k b u q
  slot := fun b u q _ _ _ => ⟨u.slots, k b u q⟩
  free := fun b u q n _ => by rw [upd_ne (Nat.ne_of_lt (Nat.lt_of_lt_of_le (Heap.lt_size q) hp))]; exact n
  there := fun b u q _ => ⟨u, k b u q⟩
  tups := fun b xs q => by rw [upd_ne (ne_of_none q hn)]; exact q
  frzs := fun b u xs q => by rw [upd_ne (ne_of_none q hn)]; exact q
  tbls := fun b ps q => ⟨#[], by rw [upd_ne (ne_of_none q hn), q]; simp⟩
theorem Un.write (mu : Mut (H x)) (he : e = x ∨ H e = some (.own x)) (k : ∀ b u, b ≠ e → h.get? b = some u → h'.get? b = some u) (heo : ∃ u, h'.get? e = some u) : Un fs ex H (upd H x o) h h' := by
  have hx : ∀ b, H b = none → b ≠ x := fun b n z => by subst z; rw [n] at mu; exact mu
  have hb : ∀ b, H b = none → b ≠ e := fun b n z => by
    subst z
    rcases he with r | r
    · exact hx b n r
    · rw [n] at r; cases r
  have hm : ∀ b u, H b = some u → ¬ Mut (some u) → b ≠ x := fun b u q nm z => by subst z; rw [q] at mu; exact nm mu
  refine ⟨fun b u q n _ _ => k b u (hb b n) q, fun b u q n _ _ => ⟨u.slots, k b u (hb b n) q⟩, fun b u q n _ => by rw [upd_ne (hx b n)]; exact n, fun b u q _ => ?_,
    fun b xs q => by rw [upd_ne (hm b _ q fun z => z)]; exact q, fun b u xs q => by rw [upd_ne (hm b _ q fun z => z)]; exact q, fun b ps q => ⟨#[], by rw [upd_ne (hm b _ q fun z => z), q]; simp⟩⟩
  by_cases hbe : b = e
  · subst hbe; exact heo
  · exact ⟨u, k b u hbe q⟩
theorem Un.mono (u : Un fs ex H H1 h h1) (hs : ∀ b ∈ fs, b ∈ fs') (hx : ∀ b ∈ ex, b ∈ ex') : Un fs' ex' H H1 h h1 :=
  ⟨fun b ob q n hb he => u.keep b ob q n (fun z => hb (hs b z)) fun z => he (hx b z), fun _ _ q n _ he => u.any q n fun z => he (hx _ z), fun b ob q n he => u.free b ob q n fun z => he (hx b z), fun b ob q he => u.there b ob q fun z => he (hx b z), u.tups, u.frzs, u.tbls⟩
end
def trk (h : Heap) (H : Hp) : List Addr := (List.range h.objs.size).filter fun a => (H a).isSome
def hidT (h : Heap) (H : Hp) : Heap := PySem.W.hideAll h (trk h H)
theorem hidT_size (h : Heap) (H : Hp) : (hidT h H).objs.size = h.objs.size := PySem.W.hideAll_size _ _
theorem hidT_get {h : Heap} {H : Hp} {b : Addr} {o : Obj} (e : h.get? b = some o) (n : H b = none) : (hidT h H).get? b = some o :=
  PySem.W.hideAll_get _ e fun hm => by
    have q : (H b).isSome = true := (List.mem_filter.mp hm).2
    rw [n] at q; simp at q
theorem of_hidT {h : Heap} {H : Hp} {b : Addr} {o : Obj} (e : (hidT h H).get? b = some o) : h.get? b = some o ∧ H b = none := by
  have e' : h.get? b = some o := PySem.W.of_hideAll (trk h H) e
  refine ⟨e', ?_⟩
  cases q : H b with
  | none => rfl
  | some x =>
    have hm : b ∈ trk h H := List.mem_filter.mpr ⟨List.mem_range.mpr (Heap.lt_size e'), by simp [q]⟩
    have z : (hidT h H).get? b = none := PySem.W.hideAll_none (trk h H) hm
    rw [z] at e; cases e
def allNews (g h : Heap) (L : Addr) : List (Addr × Obj) := (List.range h.objs.size).filterMap fun a => if a = L ∨ (g.get? a).isSome = true then none else (h.get? a).map fun o => (a, o)
def rest (g h : Heap) (L d : Addr) : List (Addr × Obj) := (allNews g h L).filter fun p => decide (p.1 ≠ d)
end L2
namespace L2
open PySem PySem.Spec PyProof.Rows
structure Mod (K : PySem.W.Frag) (mg : Str → Option Value) (base : Heap) : Prop where
  kin : K.In base
  glob : base.Ns mainGlobals mg
  blt : ∃ mb, base.Ns builtinsNs mb ∧ ∀ x : Str, x ≠ "__name__" → mb x = bootBuiltins x
  nolimit : base.NoLimit
structure Cx where
  prog : Program
  w : World
  K : PySem.W.Frag
  mg : Str → Option Value
  base : Heap
  A : Around
  N : List Str
  s₀ : Shared
  H₀ : Hp
  env : Env
  outer : List Env
  stack : List Env
  ex : List Addr
  fn : Str → Bool
  calm : Bool
  pn : List (Addr × Obj)
  xe : Value → Shared → Prop
def frs (l : List Env) : List Addr := l.filterMap (·.frame)
abbrev Cx.fs (X : Cx) : List Addr := frs X.outer
def Vis (sc : Scope) (x : Str) : Prop := sc.names.lookup x = some .local ∨ sc.names.lookup x = some .cell ∨ sc.names.lookup x = some .free
def Loc (sc : Scope) (x : Str) : Prop := sc.names.lookup x = some .local ∨ sc.names.lookup x = some .cell
def Look (env : Env) (h : Heap) (m : Str → Option Value) (x : Str) (u : Value) : Prop :=
  (env.kindOf x = some .local ∧ m x = some u) ∨ ((env.kindOf x = some .cell ∨ env.kindOf x = some .free) ∧ ∃ c, env.cells.lookup x = some c ∧ h.IsCell c (some u))
structure Cx.Ok (X : Cx) : Prop where
  mod : Mod X.K X.mg X.base
  kind : X.env.scope.kind = .function
  glob : X.env.globals = mainGlobals
  blt : X.env.builtins = builtinsNs
  above : X.s₀.heap.objs.size ≤ X.env.locals
  inj : ∀ x y c, X.env.cells.lookup x = some c → X.env.cells.lookup y = some c → x = y
  has : ∀ x, (X.env.kindOf x = some .cell ∨ X.env.kindOf x = some .free) → ∃ c, X.env.cells.lookup x = some c
  cab : ∀ x c, X.fn x = true → X.env.cells.lookup x = some c → X.s₀.heap.objs.size ≤ c
  hd : X.calm = true → X.A.handled = none
  frames : X.A.frames = some X.stack
  stk : X.stack = X.outer ∨ (X.stack = X.env :: X.outer ∧ X.env.frame = some X.env.locals)
  exf : ∀ b ∈ X.ex, b ≠ X.env.locals ∧ ∀ x c, X.env.cells.lookup x = some c → c ≠ b
  bs : ∀ b o, X.base.get? b = some o → X.s₀.heap.get? b = some o ∧ X.H₀ b = none
  bsz : X.base.objs.size ≤ X.s₀.heap.objs.size
  noex : ∀ b o, X.base.get? b = some o → b ∉ X.ex
  exfs : ∀ b ∈ X.ex, b ∉ X.fs
  funs : X.s₀.heap.FunFrames X.base X.outer
  frf : ∀ b ∈ X.fs, X.H₀ b = none
structure Inv (X : Cx) (pins : List (Addr × Obj)) (σ : List (Option V)) (H : Hp) (s : Shared) : Prop where
  ok : X.Ok
  os : s.os = X.s₀.os
  bare : AllBare s.gens
  base : Un X.fs X.ex X.H₀ H X.s₀.heap s.heap
  loc : ∃ m, s.heap.Ns X.env.locals m ∧ ∀ (i : Nat) (x : Str) (v : V), X.N[i]? = some x → σ[i]? = some (some v) → Vis X.env.scope x → ∃ u, RelV v u ∧ Look X.env s.heap m x u
  cell : ∀ x c, X.env.cells.lookup x = some c → ∃ v, s.heap.IsCell c v
  free : H X.env.locals = none
  freeC : ∀ x c, X.env.cells.lookup x = some c → H c = none
  pin : ∀ p ∈ X.pn ++ pins, s.heap.get? p.1 = some p.2 ∧ H p.1 = none ∧ p.1 ≠ X.env.locals ∧ p.1 ∉ X.fs ∧ ∀ v, p.2.data ≠ .cell v
  hok : HOk X.prog X.w H s.heap
  len : σ.length = X.N.length
section
variable {X : Cx} {pins : List (Addr × Obj)} {σ : List (Option V)} {H H' : Hp} {s : Shared} {h' : Heap}
theorem Cx.Ok.nofr (ok : X.Ok) {b : Addr} {o : Obj} (e : X.base.get? b = some o) : b ∉ X.fs := fun hb => by
  have := (ok.funs.mem hb).1
  rw [e] at this; cases this
theorem Inv.bs (I : Inv X pins σ H s) : ∀ b o, X.base.get? b = some o → s.heap.get? b = some o ∧ H b = none := fun b o e =>
  ⟨I.base.keep b o (I.ok.bs b o e).1 (I.ok.bs b o e).2 (I.ok.nofr e) (I.ok.noex b o e), I.base.free b o (I.ok.bs b o e).1 (I.ok.bs b o e).2 (I.ok.noex b o e)⟩
theorem Inv.bk (I : Inv X pins σ H s) : ∀ b o, X.base.get? b = some o → s.heap.get? b = some o := fun b o e => (I.bs b o e).1
theorem Inv.mod (I : Inv X pins σ H s) : Mod X.K X.mg X.base := I.ok.mod
theorem Inv.kIn (I : Inv X pins σ H s) : X.K.In s.heap := I.ok.mod.kin.keeps I.bk
theorem Inv.nolimit (I : Inv X pins σ H s) : s.heap.NoLimit := I.ok.mod.nolimit.keeps I.bk
theorem Inv.fr (I : Inv X pins σ H s) : ∃ m, Fr X.base X.env.locals s.heap m :=
  let ⟨m, hn, _⟩ := I.loc
  ⟨m, hn, I.bk, Nat.le_trans I.ok.bsz I.ok.above⟩
theorem Inv.lt (I : Inv X pins σ H s) : X.env.locals < s.heap.objs.size := let ⟨_, hn, _⟩ := I.loc; hn.lt
theorem Inv.sz (I : Inv X pins σ H s) : X.s₀.heap.objs.size ≤ s.heap.objs.size := Nat.le_trans I.ok.above (Nat.le_of_lt I.lt)
theorem Inv.nofs (I : Inv X pins σ H s) {a : Addr} (h : s.heap.objs.size ≤ a) : a ∉ X.fs := fun hb => by
  obtain ⟨_, o, ho, _⟩ := I.ok.funs.mem hb
  exact absurd (Nat.lt_of_lt_of_le (Heap.lt_size ho) (Nat.le_trans I.sz h)) (Nat.lt_irrefl _)
theorem Inv.cne (I : Inv X pins σ H s) : ∀ x c, X.env.cells.lookup x = some c → c ≠ X.env.locals := fun x c e z => by
  obtain ⟨v, o, ho, hd⟩ := I.cell x c e
  obtain ⟨m, ⟨o', es, ep, ho', hd', _⟩, _⟩ := I.loc
  rw [z, ho'] at ho; cases ho; rw [hd'] at hd; cases hd
theorem Inv.funs (I : Inv X pins σ H s) : s.heap.FunFrames X.base X.outer := by
  have all : ∀ (l : List Env), (∀ b ∈ frs l, b ∈ X.fs) → X.s₀.heap.FunFrames X.base l → s.heap.FunFrames X.base l := by
    intro l
    induction l with
    | nil => intro _ _; trivial
    | cons env r ih =>
      intro hs hl
      obtain ⟨hk, ⟨L, o, hf, hn, ho, hd⟩, hr⟩ := hl
      have hL : L ∈ X.fs := hs L (by unfold frs; rw [List.filterMap_cons, hf]; exact List.mem_cons_self)
      obtain ⟨sl, e⟩ := I.base.slot L o ho (I.ok.frf L hL) hL fun z => I.ok.exfs L z hL
      exact ⟨hk, ⟨L, _, hf, hn, e, hd⟩, ih (fun b hb => hs b (by unfold frs; rw [List.filterMap_cons, hf]; exact List.mem_cons_of_mem _ hb)) hr⟩
  exact all X.outer (fun _ hb => hb) I.ok.funs
theorem Inv.stack (I : Inv X pins σ H s) : s.heap.FunFrames X.base X.stack := by
  rcases I.ok.stk with e | ⟨e, hf⟩
  · rw [e]; exact I.funs
  · rw [e]
    obtain ⟨m, hn, _⟩ := I.loc
    refine .cons (by rw [I.ok.kind]; decide) hf hn ?_ I.funs
    exact Heap.get?_none_of_le (Nat.le_trans I.ok.bsz I.ok.above)
theorem Inv.stkSub (I : Inv X pins σ H s) : ∀ b ∈ frs X.stack, b ∈ X.env.locals :: X.fs := fun b hb => by
  rcases I.ok.stk with e | ⟨e, hf⟩
  · rw [e] at hb; exact List.mem_cons_of_mem _ hb
  · rw [e] at hb
    unfold frs at hb
    rw [List.filterMap_cons, hf] at hb
    exact hb
theorem Inv.stkFree (I : Inv X pins σ H s) : ∀ b ∈ frs X.stack, H b = none := fun b hb => by
  rcases List.mem_cons.mp (I.stkSub b hb) with e | hb
  · rw [e]; exact I.free
  · obtain ⟨_, o, ho, _⟩ := I.ok.funs.mem hb
    exact I.base.free b o ho (I.ok.frf b hb) fun z => I.ok.exfs b z hb
theorem Inv.step {g' : Array GenState} {t' : Nat} {d' : Drawn} {ch : List Addr} (I : Inv X pins σ H s)
    (hch : ∀ b ∈ ch, (b ∈ X.ex ∨ X.s₀.heap.objs.size ≤ b) ∧ b ≠ X.env.locals ∧ (∀ x c, X.env.cells.lookup x = some c → c ≠ b) ∧ ∀ p ∈ X.pn ++ pins, p.1 ≠ b)
    (keep : ∀ b o, b ≠ X.env.locals → b ∉ X.fs → b ∉ ch → s.heap.get? b = some o → H b = none → h'.get? b = some o)
    (slot : ∀ b o, b ≠ X.env.locals → b ∈ X.fs → b ∉ ch → s.heap.get? b = some o → H b = none → ∃ sl, h'.get? b = some { o with slots := sl }) (free : ∀ b o, b ∉ ch → s.heap.get? b = some o → H b = none → H' b = none)
    (there : ∀ b o, b ∉ ch → s.heap.get? b = some o → ∃ o', h'.get? b = some o')
    (tups : ∀ b xs, H b = some (.tup xs) → H' b = some (.tup xs)) (frzs : ∀ b o u, H b = some (.frz o u) → H' b = some (.frz o u)) (tbls : ∀ b ps, H b = some (.tbl ps) → ∃ more, H' b = some (.tbl (ps ++ more)))
    (ns : ∀ m, s.heap.Ns X.env.locals m → h'.Ns X.env.locals m) (hok : HOk X.prog X.w H' h') (hg : AllBare g') :
    Inv X pins σ H' { s with heap := h', gens := g', drawn := d', toks := t' } := by
  have neL : ∀ b o, X.s₀.heap.get? b = some o → b ≠ X.env.locals := fun b o e => Nat.ne_of_lt (Nat.lt_of_lt_of_le (Heap.lt_size e) I.ok.above)
  have neC : ∀ b o, X.s₀.heap.get? b = some o → b ∉ X.ex → b ∉ ch := fun b o e hx hb => by
    rcases (hch b hb).1 with z | z
    · exact hx z
    · exact absurd (Nat.lt_of_lt_of_le (Heap.lt_size e) z) (Nat.lt_irrefl _)
  have cellK : ∀ x c, X.env.cells.lookup x = some c → ∀ v, s.heap.IsCell c v → h'.IsCell c v := fun x c e v ⟨o, ho, hd⟩ => by
    have nch : c ∉ ch := fun z => (hch c z).2.2.1 x c e rfl
    by_cases hc : c ∈ X.fs
    · obtain ⟨sl, q⟩ := slot c o (I.cne x c e) hc nch ho (I.freeC x c e)
      exact ⟨_, q, hd⟩
    · exact ⟨o, keep c o (I.cne x c e) hc nch ho (I.freeC x c e), hd⟩
  refine ⟨I.ok, I.os, hg, ⟨fun b o e n hb hx => ?_, fun b o e n hb hx => ?_, fun b o e n hx => ?_, fun b o e hx => ?_, fun b xs e => tups b xs (I.base.tups b xs e), fun b o xs e => frzs b o xs (I.base.frzs b o xs e), fun b ps e => ?_⟩, ?_, fun x c e => ?_, ?_, fun x c e => ?_, fun p hp => ?_, hok, I.len⟩
  · exact keep b o (neL b o e) hb (neC b o e hx) (I.base.keep b o e n hb hx) (I.base.free b o e n hx)
  · obtain ⟨sl, e1⟩ := I.base.slot b o e n hb hx
    obtain ⟨sl', e2⟩ := slot b _ (neL b o e) hb (neC b o e hx) e1 (I.base.free b o e n hx)
    exact ⟨sl', e2⟩
  · obtain ⟨o', e1⟩ := I.base.there b o e hx
    exact free b o' (neC b o e hx) e1 (I.base.free b o e n hx)
  · obtain ⟨o', e1⟩ := I.base.there b o e hx
    exact there b o' (neC b o e hx) e1
  · obtain ⟨m1, e1⟩ := I.base.tbls b ps e
    obtain ⟨m2, e2⟩ := tbls b _ e1
    exact ⟨m1 ++ m2, by rw [e2, Array.append_assoc]⟩
  · obtain ⟨m, hn, hl⟩ := I.loc
    refine ⟨m, ns m hn, fun i x v e1 e2 e3 => ?_⟩
    obtain ⟨u, r, l⟩ := hl i x v e1 e2 e3
    refine ⟨u, r, ?_⟩
    rcases l with l | ⟨k, c, e, z⟩
    · exact .inl l
    · exact .inr ⟨k, c, e, cellK x c e _ z⟩
  · obtain ⟨v, z⟩ := I.cell x c e
    exact ⟨v, cellK x c e v z⟩
  · obtain ⟨m, ⟨o, _, _, ho, _⟩, _⟩ := I.loc
    exact free _ o (fun z => (hch _ z).2.1 rfl) ho I.free
  · obtain ⟨v, o, ho, hd⟩ := I.cell x c e
    exact free c o (fun z => (hch c z).2.2.1 x c e rfl) ho (I.freeC x c e)
  · obtain ⟨e, n, ne, nf, d⟩ := I.pin p hp
    have nch : p.1 ∉ ch := fun z => (hch p.1 z).2.2.2 p hp rfl
    exact ⟨keep p.1 p.2 ne nf nch e n, free p.1 p.2 nch e n, ne, nf, d⟩
theorem Inv.un {t' : Nat} (I : Inv X pins σ H s) (u : Un X.fs [] H H' s.heap h') (hok : HOk X.prog X.w H' h') : Inv X pins σ H' { s with heap := h', toks := t' } := by
  obtain ⟨m, ⟨o, es, ep, ho, r⟩, _⟩ := id I.loc
  obtain ⟨sl, hL⟩ := u.any ho I.free (by simp)
  exact I.step (g' := s.gens) (d' := s.drawn) (ch := []) (fun _ z => nomatch z) (fun b o _ hb _ e n => u.keep b o e n hb (by simp)) (fun b o _ hb _ e n => u.slot b o e n hb (by simp)) (fun b o _ e n => u.free b o e n (by simp)) (fun b o _ e => u.there b o e (by simp)) u.tups u.frzs u.tbls (fun m' hm => by
    obtain ⟨o', es', ep', ho', r'⟩ := hm
    rw [ho] at ho'; cases ho'
    exact ⟨_, es', ep', hL, r'⟩) hok I.bare
theorem Inv.call {g' : Array GenState} {t' : Nat} {d' : Drawn} {ch : List Addr} (I : Inv X pins σ H s) (u : Un (frs X.stack) ch H H' s.heap h') (hok : HOk X.prog X.w H' h') (hg : AllBare g')
    (hch : ∀ b ∈ ch, (b ∈ X.ex ∨ X.s₀.heap.objs.size ≤ b) ∧ b ≠ X.env.locals ∧ (∀ x c, X.env.cells.lookup x = some c → c ≠ b) ∧ ∀ p ∈ X.pn ++ pins, p.1 ≠ b) :
    Inv X pins σ H' { s with heap := h', gens := g', drawn := d', toks := t' } := by
  obtain ⟨m, ⟨o, es, ep, ho, r⟩, _⟩ := id I.loc
  obtain ⟨sl, hL⟩ := u.any ho I.free fun z => (hch _ z).2.1 rfl
  exact I.step (ch := ch) hch (fun b o hL hb hc e n => u.keep b o e n (fun z => (List.mem_cons.mp (I.stkSub b z)).elim hL hb) hc) (fun b o _ _ hc e n => u.any e n hc) (fun b o hc e n => u.free b o e n hc) (fun b o hc e => u.there b o e hc) u.tups u.frzs u.tbls (fun m' hm => by
    obtain ⟨o', es', ep', ho', r'⟩ := hm
    rw [ho] at ho'; cases ho'
    exact ⟨_, es', ep', hL, r'⟩) hok hg
theorem Inv.turned {t' : Nat} {it : Addr} (I : Inv X pins σ H s) (k : ∀ b o, b ≠ it → s.heap.get? b = some o → h'.get? b = some o) (hn : H it = none) (hL : it ≠ X.env.locals)
    (h1 : it ∈ X.ex ∨ X.s₀.heap.objs.size ≤ it) (h2 : ∀ x c, X.env.cells.lookup x = some c → c ≠ it) (h3 : ∀ p ∈ X.pn ++ pins, p.1 ≠ it) : Inv X pins σ H { s with heap := h', toks := t' } := by
  have nit : ∀ b u, H b = some u → b ≠ it := fun b u e z => by rw [z, hn] at e; cases e
  refine I.step (g' := s.gens) (d' := s.drawn) (ch := [it]) (fun b hb => ?_) (fun b o _ _ hc e _ => k b o (fun z => hc (by simp [z])) e) (fun b o _ _ hc e _ => ⟨o.slots, k b o (fun z => hc (by simp [z])) e⟩) (fun _ _ _ _ n => n)
    (fun b o hc e => ⟨o, k b o (fun z => hc (by simp [z])) e⟩) (fun _ _ e => e) (fun _ _ _ e => e) (fun b ps e => ⟨#[], by rw [e]; simp⟩) (fun m hm => ?_) (fun b u e => ?_) I.bare
  · have e : b = it := by simpa using hb
    subst e
    exact ⟨h1, hL, h2, h3⟩
  · obtain ⟨o, es, ep, ho, r⟩ := hm
    exact ⟨o, es, ep, k _ o (Ne.symm hL) ho, r⟩
  · refine (I.hok b u e).stay (fun c v hc q => k c v ?_ q) (fun _ q => q) fun _ _ q => q
    rcases hc with z | z
    · rw [z]; exact nit b u e
    · exact nit c _ z
theorem Inv.tok (I : Inv X pins σ H s) (t : Nat) : Inv X pins σ H { s with toks := t } := I.un (h' := s.heap) (t' := t) Un.refl I.hok
theorem Inv.kept {t' : Nat} (I : Inv X pins σ H s) (k : ∀ b u, s.heap.get? b = some u → h'.get? b = some u) : Inv X pins σ H { s with heap := h', toks := t' } := I.un (Un.kept k) (I.hok.kept k)
theorem Inv.laid {a : Addr} {o : HO} {t' : Nat} (I : Inv X pins σ H s) (k : ∀ b u, s.heap.get? b = some u → h'.get? b = some u) (hp : s.heap.objs.size ≤ a) (new : ObjOk X.prog X.w (upd H a o) h' a o) :
    Inv X pins σ (upd H a o) { s with heap := h', toks := t' } := I.un (Un.laid k hp (I.hok.fresh hp)) (I.hok.laid k hp new)
theorem Inv.write {x e : Addr} {o : HO} {t' : Nat} (I : Inv X pins σ H s) (mu : Mut (H x)) (he : e = x ∨ H e = some (.own x)) (k : ∀ b u, b ≠ e → s.heap.get? b = some u → h'.get? b = some u) (heo : ∃ u, h'.get? e = some u)
    (new : ObjOk X.prog X.w (upd H x o) h' x o) : Inv X pins σ (upd H x o) { s with heap := h', toks := t' } := I.un (Un.write mu he k heo) (I.hok.write mu he k heo new)
theorem Inv.weak {σ' : List (Option V)} (I : Inv X pins σ H s) (hl : σ'.length = σ.length) (w : ∀ (i : Nat) v, σ'[i]? = some (some v) → σ[i]? = some (some v)) : Inv X pins σ' H s :=
  ⟨I.ok, I.os, I.bare, I.base, let ⟨m, hn, hl'⟩ := I.loc; ⟨m, hn, fun i x v e1 e2 e3 => hl' i x v e1 (w i v e2) e3⟩, I.cell, I.free, I.freeC, I.pin, I.hok, hl.trans I.len⟩
theorem Inv.pins_of {pins' : List (Addr × Obj)} (I : Inv X pins σ H s) (h : ∀ p ∈ pins', s.heap.get? p.1 = some p.2 ∧ H p.1 = none ∧ p.1 ≠ X.env.locals ∧ p.1 ∉ X.fs ∧ ∀ v, p.2.data ≠ .cell v) : Inv X pins' σ H s :=
  ⟨I.ok, I.os, I.bare, I.base, I.loc, I.cell, I.free, I.freeC, fun p hp => (List.mem_append.mp hp).elim (fun z => I.pin p (List.mem_append_left _ z)) (h p), I.hok, I.len⟩
theorem nodup_ix {N : List Str} (hN : N.Nodup) {i j : Nat} {x : Str} (a : N[i]? = some x) (b : N[j]? = some x) : i = j := by
  obtain ⟨h1, e1⟩ := List.getElem?_eq_some_iff.mp a
  obtain ⟨h2, e2⟩ := List.getElem?_eq_some_iff.mp b
  exact (List.getElem_inj hN).mp (e1.trans e2.symm)
theorem store_ok2 {M : Model} {A : Around} {E : Value → Shared → Prop} {i : Nat} {x : Str} {v : V} {u : Value} {Q : Unit → Shared → Prop} (I : Inv X pins σ H s) (hN : X.N.Nodup) (hi : X.N[i]? = some x) (hx : Loc X.env.scope x) (r : RelV v u)
    (h : ∀ s', Inv X pins (σ.set i (some v)) H s' → (∃ a, Heap.SameBut a s.heap s'.heap ∧ (a = X.env.locals ∨ X.env.cells.lookup x = some a)) → Q () s') (hf : X.fn x = true ∨ X.env.scope.names.lookup x = some .local := by first | exact .inl rfl | exact .inr rfl | assumption) : wpAny M A (storeName X.env x u) Q E s := by
  obtain ⟨m, hn, hl⟩ := id I.loc
  have hcls : (X.env.scope.kind == .class || (X.env.scope.kind == .module && X.env.locals != X.env.globals)) = false := by rw [I.ok.kind]; rfl
  have hiσ : i < σ.length := by rw [I.len]; exact (List.getElem?_eq_some_iff.mp hi).1
  have cne := I.cne
  have tracked : ∀ {a : Addr} {h' : Heap}, (∃ o, s.heap.get? a = some o ∧ H a = none) → Heap.SameBut a s.heap h' → HOk X.prog X.w H h' := fun {a h'} ha hs b ob e => by
    obtain ⟨_, _, hfree⟩ := ha
    refine (I.hok b ob e).stay (fun c w' hc q => (hs.2 c ?_).trans q) (fun _ q => q) fun _ _ q => q
    rintro rfl
    rcases hc with rfl | hc
    · rw [hfree] at e; cases e
    · rw [hfree] at hc; cases hc
  rcases hx with hk | hk
  · refine wpAny_storeName_local hk hn (fun h' hn' hs => ?_) hcls
    obtain ⟨oL, _, _, hoL, _⟩ := id hn
    refine h _ ⟨I.ok, I.os, I.bare, ⟨fun b o e n hb hx => ?_, fun b o e n hb hx => ?_, I.base.free, fun b o e hx => ?_, I.base.tups, I.base.frzs, I.base.tbls⟩, ⟨_, hn', fun j y v' e1 e2 e3 => ?_⟩, fun y c e => ?_, I.free, I.freeC, fun p hp => ?_, tracked ⟨oL, hoL, I.free⟩ hs, by simpa using I.len⟩ ⟨_, hs, .inl rfl⟩
    · exact (hs.2 b (Nat.ne_of_lt (Nat.lt_of_lt_of_le (Heap.lt_size e) I.ok.above))).trans (I.base.keep b o e n hb hx)
    · obtain ⟨sl, e1⟩ := I.base.slot b o e n hb hx
      exact ⟨sl, (hs.2 b (Nat.ne_of_lt (Nat.lt_of_lt_of_le (Heap.lt_size e) I.ok.above))).trans e1⟩
    · obtain ⟨o', e1⟩ := I.base.there b o e hx
      exact ⟨o', (hs.2 b (Nat.ne_of_lt (Nat.lt_of_lt_of_le (Heap.lt_size e) I.ok.above))).trans e1⟩
    · by_cases hj : j = i
      · subst hj
        rw [hi] at e1; cases e1
        rw [List.getElem?_set_self hiσ] at e2
        cases e2
        exact ⟨u, r, .inl ⟨hk, by simp⟩⟩
      · rw [List.getElem?_set_ne (Ne.symm hj)] at e2
        obtain ⟨u', r', q⟩ := hl j y v' e1 e2 e3
        refine ⟨u', r', ?_⟩
        rcases q with ⟨k, e⟩ | ⟨k, c, e, z⟩
        · refine .inl ⟨k, ?_⟩
          have : y ≠ x := fun e => hj (nodup_ix hN e1 (e ▸ hi))
          simp [this, e]
        · exact .inr ⟨k, c, e, z.sameBut hs (cne y c e)⟩
    · obtain ⟨w', z⟩ := I.cell y c e
      exact ⟨w', z.sameBut hs (cne y c e)⟩
    · obtain ⟨e, n, ne, nf, d⟩ := I.pin p hp
      exact ⟨(hs.2 p.1 ne).trans e, n, ne, nf, d⟩
  · have hfn : X.fn x = true := by
      rcases hf with z | z
      · exact z
      · rw [z] at hk; cases hk
    obtain ⟨c, hc⟩ := I.ok.has x (.inl hk)
    obtain ⟨w', z⟩ := I.cell x c hc
    refine wpAny_storeName_cell I.ok.kind hk hc z (fun h' hc' hs => ?_)
    obtain ⟨oc, hoc, hocd⟩ := id z
    refine h { s with heap := h' } ⟨I.ok, I.os, I.bare, ⟨fun b o e n hb hx => ?_, fun b o e n hb hx => ?_, I.base.free, fun b o e hx => ?_, I.base.tups, I.base.frzs, I.base.tbls⟩, ⟨m, hn.sameBut hs (Ne.symm (cne x c hc)), fun j y v' e1 e2 e3 => ?_⟩, fun y c' e => ?_, I.free, I.freeC, fun p hp => ?_, tracked ⟨oc, hoc, I.freeC x c hc⟩ hs, by simpa using I.len⟩ ⟨c, hs, .inr hc⟩
    · exact (hs.2 b (Nat.ne_of_lt (Nat.lt_of_lt_of_le (Heap.lt_size e) (I.ok.cab x c hfn hc)))).trans (I.base.keep b o e n hb hx)
    · obtain ⟨sl, e1⟩ := I.base.slot b o e n hb hx
      exact ⟨sl, (hs.2 b (Nat.ne_of_lt (Nat.lt_of_lt_of_le (Heap.lt_size e) (I.ok.cab x c hfn hc)))).trans e1⟩
    · obtain ⟨o', e1⟩ := I.base.there b o e hx
      exact ⟨o', (hs.2 b (Nat.ne_of_lt (Nat.lt_of_lt_of_le (Heap.lt_size e) (I.ok.cab x c hfn hc)))).trans e1⟩
    · by_cases hj : j = i
      · subst hj
        rw [hi] at e1; cases e1
        rw [List.getElem?_set_self hiσ] at e2
        cases e2
        exact ⟨u, r, .inr ⟨.inl hk, c, hc, hc'⟩⟩
      · rw [List.getElem?_set_ne (Ne.symm hj)] at e2
        obtain ⟨u', r', q⟩ := hl j y v' e1 e2 e3
        refine ⟨u', r', ?_⟩
        rcases q with q | ⟨k, c', e, z'⟩
        · exact .inl q
        · refine .inr ⟨k, c', e, z'.sameBut hs ?_⟩
          rintro rfl
          exact hj (nodup_ix hN e1 (I.ok.inj _ _ _ e hc ▸ hi))
    · by_cases hcc : c' = c
      · subst hcc; exact ⟨_, hc'⟩
      · obtain ⟨w2, z2⟩ := I.cell y c' e
        exact ⟨w2, z2.sameBut hs hcc⟩
    · obtain ⟨e, n, ne, nf, d⟩ := I.pin p hp
      refine ⟨(hs.2 p.1 ?_).trans e, n, ne, nf, d⟩
      intro q
      rw [q, hoc] at e
      have q' : oc = p.2 := Option.some.inj e
      exact d w' (by rw [← q']; exact hocd)
theorem store_ok {M : Model} {A : Around} {E : Value → Shared → Prop} {i : Nat} {x : Str} {v : V} {u : Value} {Q : Unit → Shared → Prop} (I : Inv X pins σ H s) (hN : X.N.Nodup) (hi : X.N[i]? = some x) (hx : Loc X.env.scope x) (r : RelV v u)
    (h : ∀ s', Inv X pins (σ.set i (some v)) H s' → Q () s') (hf : X.fn x = true ∨ X.env.scope.names.lookup x = some .local := by first | exact .inl rfl | exact .inr rfl | assumption) : wpAny M A (storeName X.env x u) Q E s :=
  store_ok2 I hN hi hx r (fun s' I' _ => h s' I') hf
theorem Inv.call' {s' : Shared} {ch : List Addr} (I : Inv X pins σ H s) (ho : s'.os = s.os) (u : Un (frs X.stack) ch H H' s.heap s'.heap) (hok : HOk X.prog X.w H' s'.heap) (hg : AllBare s'.gens)
    (hch : ∀ b ∈ ch, (b ∈ X.ex ∨ X.s₀.heap.objs.size ≤ b) ∧ b ≠ X.env.locals ∧ (∀ x c, X.env.cells.lookup x = some c → c ≠ b) ∧ ∀ p ∈ X.pn ++ pins, p.1 ≠ b) : Inv X pins σ H' s' := by
  obtain ⟨h', g', d', t', o'⟩ := s'
  have e : o' = s.os := ho
  subst e
  exact I.call (g' := g') (t' := t') (d' := d') u hok hg hch
end
abbrev XK := Value → Option Addr → Hp → Prop
abbrev St := List (Option V)
abbrev VK := V → Hp → Prop
abbrev TE := St → Hp → VK → Prop
abbrev TT := St → Hp → (Bool → Hp → Prop) → Prop
abbrev TA := St → Hp → (List V → Hp → Prop) → Prop
structure Ends where
  nx : St → Hp → Prop
  rt : VK
  bk : St → Hp → Prop := fun _ _ => False
  ct : St → Hp → Prop := fun _ _ => False
abbrev TS := Ends → St → Hp → Prop
def EP (X : Cx) (pins : List (Addr × Obj)) (σ : St) (Q : VK) (u : Value) (s' : Shared) : Prop := ∃ v H', Inv X pins σ H' s' ∧ RelV v u ∧ Q v H'
def TP (X : Cx) (pins : List (Addr × Obj)) (σ : St) (Q : Bool → Hp → Prop) (b : Bool) (s' : Shared) : Prop := ∃ H', Inv X pins σ H' s' ∧ Q b H'
def AP (X : Cx) (pins : List (Addr × Obj)) (σ : St) (Q : List V → Hp → Prop) (us : List Value) (s' : Shared) : Prop := ∃ vs H', Inv X pins σ H' s' ∧ Vals vs us ∧ Q vs H'
def SP (X : Cx) (pins : List (Addr × Obj)) (D : Ends) (f : Flow) (s' : Shared) : Prop :=
  match f with
  | .next => ∃ σ' H', Inv X pins σ' H' s' ∧ D.nx σ' H'
  | .brk => ∃ σ' H', Inv X pins σ' H' s' ∧ D.bk σ' H'
  | .cont => ∃ σ' H', Inv X pins σ' H' s' ∧ D.ct σ' H'
  | .ret u => ∃ v σ' H', Inv X pins σ' H' s' ∧ RelV v u ∧ D.rt v H'
def PE (X : Cx) (e : Expr) (t : TE) : Prop :=
  ∀ (pins : List (Addr × Obj)) (s : Shared) (σ : St) (H : Hp) (Q : VK), Inv X pins σ H s → t σ H Q → wpAny (model X.prog X.w) X.A (eval e X.env) (EP X pins σ Q) X.xe s
def PT (X : Cx) (e : Expr) (t : TT) : Prop :=
  ∀ (pins : List (Addr × Obj)) (s : Shared) (σ : St) (H : Hp) (Q : Bool → Hp → Prop), Inv X pins σ H s → t σ H Q → wpAny (model X.prog X.w) X.A (isTrue e X.env (eval e X.env)) (TP X pins σ Q) X.xe s
def PW (X : Cx) (e : Expr) (t : TT) : Prop :=
  ∀ (whole : Sem Value) (pins : List (Addr × Obj)) (s : Shared) (σ : St) (H : Hp) (Q : Bool → Hp → Prop), Inv X pins σ H s → t σ H Q → wpAny (model X.prog X.w) X.A (isTrue e X.env whole) (TP X pins σ Q) X.xe s
theorem PW.pt {X : Cx} {e : Expr} {t : TT} (h : PW X e t) : PT X e t := h _
def PA (X : Cx) (es : List Expr) (t : TA) : Prop :=
  ∀ (pos : Pos) (pins : List (Addr × Obj)) (s : Shared) (σ : St) (H : Hp) (Q : List V → Hp → Prop), Inv X pins σ H s → t σ H Q → wpAny (model X.prog X.w) X.A (spliced (backTo pos (starEach es X.env))) (AP X pins σ Q) X.xe s
def PS (X : Cx) (st : Stmt) (t : TS) : Prop :=
  ∀ (pins : List (Addr × Obj)) (s : Shared) (σ : St) (H : Hp) (D : Ends), Inv X pins σ H s → t D σ H → wpAny (model X.prog X.w) X.A (exec st X.env) (SP X pins D) X.xe s
def PSs (X : Cx) (st : List Stmt) (t : TS) : Prop :=
  ∀ (pins : List (Addr × Obj)) (s : Shared) (σ : St) (H : Hp) (D : Ends), Inv X pins σ H s → t D σ H → wpAny (model X.prog X.w) X.A (execs st X.env) (SP X pins D) X.xe s
theorem thn {α : Type} {t : Sem α} {Q Q' : α → Shared → Prop} {M : Model} {A : Around} {E : Value → Shared → Prop} {s : Shared} (h : wpAny M A t Q E s) (hQ : ∀ a s, Q a s → Q' a s) : wpAny M A t Q' E s := wpAny_mono h hQ fun _ _ x => x
end L2
namespace L2
open PySem PySem.Spec PyProof.Rows
section
variable {X : Cx}
def tVar (i : Nat) : TE := fun σ H Q => ∃ v, σ[i]? = some (some v) ∧ Q v H
def tC (v : V) : TE := fun _ H Q => Q v H
theorem pe_var {i : Nat} {x : Str} {pos : Pos} (hN : X.N[i]? = some x) (hv : Vis X.env.scope x) (hd : (x == ("__debug__" : Str)) = false := by decide) (hcd : (x == ("__classdict__" : Str)) = false := by decide) : PE X (.Name x pos) (tVar i) := by
  intro pins s σ H Q I h
  obtain ⟨v, e, h⟩ := h
  obtain ⟨m, hn, hl⟩ := I.loc
  obtain ⟨u, r, l⟩ := hl i x v hN e hv
  have fin : EP X pins σ Q u s := ⟨v, H, I, r, h⟩
  rcases l with ⟨hk, hm⟩ | ⟨hk, c, hc, hcell⟩
  · exact wpAny_Name (wpAny_loadName_local I.ok.kind hk hn hm fin) hd
  · rcases hk with hk | hk
    · exact wpAny_Name (wpAny_loadName_cell I.ok.kind hk hc hcell fin) hd
    · exact wpAny_Name (wpAny_loadName_free I.ok.kind hk hc hcell fin hcd) hd
theorem pe_int {i j pos} : PE X (.Constant (.int i) j pos) (tC (.int i)) := fun _ _ _ H _ I h => wpAny_Constant_int ⟨.int i, H, I.tok _, ⟨_, rfl⟩, h⟩
theorem pe_bl {b j pos} : PE X (.Constant (.bool b) j pos) (tC (.bl b)) := fun _ _ _ H _ I h => Constant_bool ⟨.bl b, H, I, rfl, h⟩
theorem pe_str {x j pos} : PE X (.Constant (.str x) j pos) (tC (.str x)) := fun _ _ _ H _ I h => Calls.Constant_str ⟨.str x, H, I.tok _, ⟨_, rfl⟩, h⟩
def Gl (X : Cx) (x : Str) : Prop := X.env.kindOf x = some .globalImplicit
theorem ld_glob {E : Value → Shared → Prop} {pins : List (Addr × Obj)} {s : Shared} {σ : St} {H : Hp} {x : Str} {u : Value} {pos : Pos} {Q : Value → Shared → Prop} (I : Inv X pins σ H s) (hg : Gl X x) (hm : X.mg x = some u) (h : Q u s)
    (hd : (x == ("__debug__" : Str)) = false := by decide) : wpAny (model X.prog X.w) X.A (eval (.Name x pos) X.env) Q E s :=
  Calls.Name_function_global I.ok.kind hg (Calls.loadGlobal_global (by rw [I.ok.glob]; exact I.mod.glob.keeps I.bk) hm h) hd
theorem ld_blt {E : Value → Shared → Prop} {pins : List (Addr × Obj)} {s : Shared} {σ : St} {H : Hp} {x : Str} {u : Value} {pos : Pos} {Q : Value → Shared → Prop} (I : Inv X pins σ H s) (hg : Gl X x) (hm : X.mg x = none) (hv : bootBuiltins x = some u) (h : Q u s)
    (hn : x ≠ "__name__" := by decide) (hd : (x == ("__debug__" : Str)) = false := by decide) : wpAny (model X.prog X.w) X.A (eval (.Name x pos) X.env) Q E s := by
  obtain ⟨mb, h1, h2⟩ := I.mod.blt
  exact Calls.Name_function_global I.ok.kind hg (Calls.loadGlobal_builtin (by rw [I.ok.glob]; exact I.mod.glob.keeps I.bk) hm (by rw [I.ok.blt]; exact h1.keeps I.bk) ((h2 x hn).trans hv) h) hd
theorem pe_glob {x : Str} {v : V} {u : Value} {pos : Pos} (hg : Gl X x) (hm : X.mg x = some u) (r : RelV v u) (hd : (x == ("__debug__" : Str)) = false := by decide) : PE X (.Name x pos) (tC v) :=
  fun _ _ _ H _ I h => ld_glob I hg hm ⟨v, H, I, r, h⟩ hd
theorem pe_bltn {x : Str} {v : V} {u : Value} {pos : Pos} (hg : Gl X x) (hm : X.mg x = none) (hv : bootBuiltins x = some u) (r : RelV v u) (hn : x ≠ "__name__" := by decide) (hd : (x == ("__debug__" : Str)) = false := by decide) : PE X (.Name x pos) (tC v) :=
  fun _ _ _ H _ I h => ld_blt I hg hm hv ⟨v, H, I, r, h⟩ hn hd
variable {a b : Expr} {ta tb : TE} {pos : Pos}
def tB (t : TE) : TT := fun σ H Q => t σ H fun x H1 => ∃ c, x = .bl c ∧ Q c H1
theorem pt_val {e : Expr} {t : TE} (h : PE X e t) (he : ∀ whole, isTrue e X.env whole = (do let v ← whole; standAt e.pos; holding [v] (truthy v)) := by intro _; rfl) : PT X e (tB t) := by
  intro pins s σ H Q I hw
  refine isTrue_plain (thn (h pins s σ H _ I hw) fun v s1 ⟨x, H1, I1, r1, q1⟩ => ?_) (he _)
  obtain ⟨d, rfl, q⟩ := q1
  cases r1
  exact wpAny_truthy_bool ⟨H1, I1, q⟩
variable {tA tB' : TT} {rest : List Expr}
def tAnd (t u : TT) : TT := fun σ H Q => t σ H fun c H1 => if c = true then u σ H1 Q else Q false H1
def tOr (t u : TT) : TT := fun σ H Q => t σ H fun c H1 => if c = true then Q true H1 else u σ H1 Q
def tNot (t : TT) : TT := fun σ H Q => t σ H fun c H1 => Q (!c) H1
theorem pw_and1 (ha : PT X a tA) : PW X (.BoolOp .And [a] pos) tA := by
  intro wh pins s σ H Q I h
  refine isTrue_and (thn (ha pins s σ H Q I h) fun c s1 e => ?_)
  cases c with
  | true => exact isTrue_and_nil e
  | false => exact e
theorem pw_or1 (ha : PT X a tA) : PW X (.BoolOp .Or [a] pos) tA := by
  intro wh pins s σ H Q I h
  refine isTrue_or (thn (ha pins s σ H Q I h) fun c s1 e => ?_)
  cases c with
  | false => exact isTrue_or_nil e
  | true => exact e
theorem pw_and (ha : PT X a tA) (hb : PW X (.BoolOp .And (b :: rest) pos) tB') : PW X (.BoolOp .And (a :: b :: rest) pos) (tAnd tA tB') := by
  intro wh pins s σ H Q I h
  refine isTrue_and (thn (ha pins s σ H _ I h) fun c s1 ⟨H1, I1, q1⟩ => ?_)
  cases c with
  | true => exact hb wh pins s1 σ H1 Q I1 q1
  | false => exact ⟨H1, I1, q1⟩
theorem pw_or (ha : PT X a tA) (hb : PW X (.BoolOp .Or (b :: rest) pos) tB') : PW X (.BoolOp .Or (a :: b :: rest) pos) (tOr tA tB') := by
  intro wh pins s σ H Q I h
  refine isTrue_or (thn (ha pins s σ H _ I h) fun c s1 ⟨H1, I1, q1⟩ => ?_)
  cases c with
  | true => exact ⟨H1, I1, q1⟩
  | false => exact hb wh pins s1 σ H1 Q I1 q1
theorem pt_not (ha : PT X a tA) : PT X (.UnaryOp .Not a pos) (tNot tA) := by
  intro pins s σ H Q I h
  exact isTrue_not (ha pins s σ H (fun c H1 => Q (!c) H1) I h)
def tAndV (ta tb : TE) : TE := fun σ H Q => ta σ H fun x H1 => ∃ c, x = .bl c ∧ if c = true then tb σ H1 Q else Q (.bl false) H1
def tNotV (ta : TE) : TE := fun σ H Q => ta σ H fun x H1 => ∃ c, x = .bl c ∧ Q (.bl (!c)) H1
theorem pe_one {op} {t : TE} (h : PE X a t) : PE X (.BoolOp op [a] pos) t := fun pins s σ H Q I hw => BoolOp_one (h pins s σ H Q I hw)
theorem pe_and (ha : PE X a ta) (hb : PE X (.BoolOp .And (b :: rest) pos) tb) : PE X (.BoolOp .And (a :: b :: rest) pos) (tAndV ta tb) := by
  intro pins s σ H Q I h
  refine BoolOp_and (thn (ha pins s σ H _ I h) fun v s1 ⟨x, H1, I1, r1, q1⟩ => ?_)
  obtain ⟨c, rfl, q1⟩ := q1
  cases r1
  refine wpAny_truthy_bool ?_
  cases c with
  | true => exact hb pins s1 σ H1 Q I1 q1
  | false => exact ⟨.bl false, H1, I1, rfl, q1⟩
theorem pe_not (ha : PE X a ta) : PE X (.UnaryOp .Not a pos) (tNotV ta) := by
  intro pins s σ H Q I h
  refine UnaryOp_ (thn (ha pins s σ H _ I h) fun v s1 ⟨x, H1, I1, r1, q1⟩ => ?_)
  obtain ⟨c, rfl, q1⟩ := q1
  cases r1
  exact not_of (wpAny_truthy_bool ⟨.bl (!c), H1, I1, rfl, q1⟩)
end
end L2
namespace L2
open PySem PySem.Spec PyProof.Rows
def SqL (K : PySem.W.Frag) (H : Hp) (a : Addr) (xs : List V) : Prop :=
  Rd H a (.lst xs) ∨
    ∃ (o : Obj) (its : Array Value) (n : Nat), K.lookup a = some o ∧ o.cls = .type "list" ∧ o.dict = none ∧ o.data = .seq its n ∧ its.size ≤ sizeLine ∧ Vals xs its.toList
def SqT (K : PySem.W.Frag) (H : Hp) (a : Addr) (xs : List V) : Prop :=
  Rd H a (.tup xs) ∨
    ∃ (o : Obj) (its : Array Value) (n : Nat), K.lookup a = some o ∧ o.cls = .type "tuple" ∧ o.data = .seq its n ∧ its.size ≤ sizeLine ∧ Vals xs its.toList
def absV : Value → Option V
  | .none => some .non
  | .bool b => some (.bl b)
  | .int i _ => some (.int i)
  | .str x _ => some (.str x)
  | .bytes b _ => some (.byt b)
  | .float b _ => some (.flt b)
  | .ref a => some (.ref a)
  | .type n => some (.ty n)
  | _ => none
theorem RelV.abs {x : V} {u : Value} (r : RelV x u) : absV u = some x := by
  cases x with
  | non => cases r; rfl
  | bl _ => cases r; rfl
  | int _ => obtain ⟨t, rfl⟩ := r; rfl
  | str _ => obtain ⟨t, rfl⟩ := r; rfl
  | byt _ => obtain ⟨t, rfl⟩ := r; rfl
  | flt _ => obtain ⟨t, rfl⟩ := r; rfl
  | ref _ => cases r; rfl
  | ty _ => cases r; rfl
theorem RelV.inj {x y : V} {u : Value} (r : RelV x u) (q : RelV y u) : x = y := Option.some.inj (r.abs.symm.trans q.abs)
theorem Vals.inj : ∀ {xs ys : List V} {us : List Value}, Vals xs us → Vals ys us → xs = ys
  | _, _, _, .nil, .nil => rfl
  | _, _, _, .cons r t, .cons r' t' => by rw [r.inj r', Vals.inj t t']
section
variable {X : Cx} {pins : List (Addr × Obj)} {σ : St} {H : Hp} {s : Shared} {a : Addr} {xs ys : List V}
theorem SqL.of {K : PySem.W.Frag} (h : H a = some (.lst xs)) : SqL K H a xs := .inl (.inl h)
theorem SqT.of {K : PySem.W.Frag} (h : H a = some (.tup xs)) : SqT K H a xs := .inl (.inl h)
theorem Inv.list (I : Inv X pins σ H s) (h : SqL X.K H a xs) : ∃ its : List Value, Vals xs its ∧ PlainL s.heap a its.toArray ∧ xs.length ≤ sizeLine := by
  rcases h with h | ⟨o, its, n, hk, hc, hd, hs, hz, r⟩
  · obtain ⟨z, its, n, r, e⟩ := h.ok I.hok
    exact ⟨its, r, ⟨_, n, e, rfl, rfl, rfl⟩, z⟩
  · refine ⟨its.toList, r, ⟨o, n, I.kIn a o hk, hc, hd, by simpa using hs⟩, ?_⟩
    have e := r.length
    simp only [Array.length_toList] at e
    omega
theorem Inv.tuple (I : Inv X pins σ H s) (h : SqT X.K H a xs) : ∃ its : List Value, Vals xs its ∧ IsTup s.heap a its.toArray ∧ xs.length ≤ sizeLine := by
  rcases h with h | ⟨o, its, n, hk, hc, hs, hz, r⟩
  · obtain ⟨z, its, r, p⟩ := h.ok I.hok
    exact ⟨its, r, p, z⟩
  · refine ⟨its.toList, r, ⟨o, I.kIn a o hk, hc, n, by simpa using hs⟩, ?_⟩
    have e := r.length
    simp only [Array.length_toList] at e
    omega
theorem Inv.tuple_inj (I : Inv X pins σ H s) (h : SqT X.K H a xs) (h' : SqT X.K H a ys) : xs = ys := by
  obtain ⟨its, r, ⟨o, e, _, n, d⟩, _⟩ := I.tuple h
  obtain ⟨its', r', ⟨o', e', _, n', d'⟩, _⟩ := I.tuple h'
  rw [e] at e'; cases e'
  rw [d] at d'
  injection d' with d1 _
  have : its = its' := by simpa using congrArg Array.toList d1
  subst this
  exact r.inj r'
end
abbrev Cx.wish (X : Cx) (E : Value → Shared → Prop) : Cx := { X with xe := E }
abbrev Cx.nox (X : Cx) : Cx := X.wish fun _ _ => False
theorem Cx.Ok.wish {X : Cx} (ok : X.Ok) (E : Value → Shared → Prop) : (X.wish E).Ok :=
  ⟨ok.mod, ok.kind, ok.glob, ok.blt, ok.above, ok.inj, ok.has, ok.cab, ok.hd, ok.frames, ok.stk, ok.exf, ok.bs, ok.bsz, ok.noex, ok.exfs, ok.funs, ok.frf⟩
theorem Cx.Ok.unwish {X : Cx} {E : Value → Shared → Prop} (ok : (X.wish E).Ok) : X.Ok :=
  ⟨ok.mod, ok.kind, ok.glob, ok.blt, ok.above, ok.inj, ok.has, ok.cab, ok.hd, ok.frames, ok.stk, ok.exf, ok.bs, ok.bsz, ok.noex, ok.exfs, ok.funs, ok.frf⟩
section
variable {X : Cx} {pins : List (Addr × Obj)} {σ : St} {H : Hp} {s : Shared} {E : Value → Shared → Prop}
theorem Inv.wish (I : Inv X pins σ H s) (E : Value → Shared → Prop) : Inv (X.wish E) pins σ H s := ⟨I.ok.wish E, I.os, I.bare, I.base, I.loc, I.cell, I.free, I.freeC, I.pin, I.hok, I.len⟩
theorem Inv.unwish (I : Inv (X.wish E) pins σ H s) : Inv X pins σ H s := ⟨I.ok.unwish, I.os, I.bare, I.base, I.loc, I.cell, I.free, I.freeC, I.pin, I.hok, I.len⟩
theorem SP.unwish {D : Ends} {f : Flow} {s' : Shared} (h : SP (X.wish E) pins D f s') : SP X pins D f s' := by
  cases f with
  | next => obtain ⟨σ', H', I, q⟩ := h; exact ⟨σ', H', I.unwish, q⟩
  | brk => obtain ⟨σ', H', I, q⟩ := h; exact ⟨σ', H', I.unwish, q⟩
  | cont => obtain ⟨σ', H', I, q⟩ := h; exact ⟨σ', H', I.unwish, q⟩
  | ret u => obtain ⟨v, σ', H', I, r, q⟩ := h; exact ⟨v, σ', H', I.unwish, r, q⟩
theorem PE.nox {e : Expr} {t : TE} (h : PE X.nox e t) : PE X e t := fun pins s σ H Q I hw =>
  wpAny_mono (h pins s σ H Q (I.wish _) hw) (fun _ _ ⟨v, H', I', r, q⟩ => ⟨v, H', I'.unwish, r, q⟩) fun _ _ z => False.elim z
theorem PT.nox {e : Expr} {t : TT} (h : PT X.nox e t) : PT X e t := fun pins s σ H Q I hw =>
  wpAny_mono (h pins s σ H Q (I.wish _) hw) (fun _ _ ⟨H', I', q⟩ => ⟨H', I'.unwish, q⟩) fun _ _ z => False.elim z
theorem PSs.nox {st : List Stmt} {t : TS} (h : PSs X.nox st t) : PSs X st t := fun pins s σ H D I hw =>
  wpAny_mono (h pins s σ H D (I.wish _) hw) (fun _ _ q => q.unwish) fun _ _ z => False.elim z
end
section
variable {X : Cx} {st : Stmt} {rest : List Stmt} {t u : TS} {e : Expr} {te : TE} {pos : Pos}
def tNext : TS := fun D σ H => D.nx σ H
def tSeq (t u : TS) : TS := fun D σ H => t { D with nx := u D } σ H
theorem pss_nil : PSs X [] tNext := fun _ _ σ H _ I h => wpAny_execs_nil ⟨σ, H, I, h⟩
theorem pss_cons (h1 : PS X st t) (h2 : PSs X rest u) : PSs X (st :: rest) (tSeq t u) := by
  intro pins s σ H D I h
  refine wpAny_execs_cons (thn (h1 pins s σ H { D with nx := u D } I h) fun f s1 q => ?_)
  cases f with
  | next =>
    obtain ⟨σ', H', I', q⟩ := q
    exact h2 pins s1 σ' H' D I' q
  | ret v => exact q
  | brk => exact q
  | cont => exact q
theorem Inv.quiet {pins : List (Addr × Obj)} {σ : St} {H : Hp} {s : Shared} (I : Inv X pins σ H s) : interactive X.env = false := by simp [interactive, I.ok.kind]
def tDrop (te : TE) : TS := fun D σ H => te σ H fun _ H1 => D.nx σ H1
theorem ps_expr (he : PE X e te) (hs : swapsWith e none pos.line X.env = pure false := by rfl) : PS X (.Expr e pos) (tDrop te) := by
  intro pins s σ H D I h
  exact wpAny_Expr_any (thn (he pins s σ H _ I h) fun v s1 ⟨x, H1, I1, r1, q1⟩ => ⟨σ, H1, I1, q1⟩) I.quiet hs
def tRet (te : TE) : TS := fun D σ H => te σ H D.rt
theorem ps_ret (he : PE X e te) : PS X (.Return (some e) pos) (tRet te) := by
  intro pins s σ H D I h
  exact wpAny_Return_some (thn (he pins s σ H _ I h) fun v s1 ⟨x, H1, I1, r1, q1⟩ => ⟨x, σ, H1, I1, r1, q1⟩)
def tIfS (c : TT) (t u : TS) : TS := fun D σ H => c σ H fun b H1 => if b = true then t D σ H1 else u D σ H1
theorem ps_if {c : Expr} {a b : List Stmt} {tc : TT} (hc : PT X c tc) (ha : PSs X a t) (hb : PSs X b u) : PS X (.If c a b pos) (tIfS tc t u) := by
  intro pins s σ H D I h
  refine wpAny_If (thn (hc pins s σ H _ I h) fun d s1 ⟨H1, I1, q1⟩ => ?_)
  cases d with
  | true => exact ha pins s1 σ H1 D I1 q1
  | false => exact hb pins s1 σ H1 D I1 q1
def tNever : TS := fun _ _ _ => False
theorem pss_never {sts : List Stmt} : PSs X sts tNever := fun _ _ _ _ _ _ h => h.elim
end
abbrev TG := V → St → Hp → (St → Hp → Prop) → Prop
abbrev TGs := List V → St → Hp → (St → Hp → Prop) → Prop
def PG (X : Cx) (target : Expr) (t : TG) : Prop :=
  ∀ (pins : List (Addr × Obj)) (s : Shared) (σ : St) (H : Hp) (v : V) (u : Value) (Q : St → Hp → Prop), Inv X pins σ H s → RelV v u → t v σ H Q →
    wpAny (model X.prog X.w) X.A (assign target X.env u) (fun _ s' => ∃ σ' H', Inv X pins σ' H' s' ∧ Q σ' H') X.xe s
def PGs (X : Cx) (ts : List Expr) (t : TGs) : Prop :=
  ∀ (pins : List (Addr × Obj)) (s : Shared) (σ : St) (H : Hp) (vs : List V) (us : List Value) (Q : St → Hp → Prop), Inv X pins σ H s → Vals vs us → t vs σ H Q →
    wpAny (model X.prog X.w) X.A (assignInOrder ((assignEach ts X.env).map (·.2)) us) (fun _ s' => ∃ σ' H', Inv X pins σ' H' s' ∧ Q σ' H') X.xe s
abbrev TSet := V → V → V → Hp → (Hp → Prop) → Prop
def PSet (X : Cx) (t : TSet) : Prop :=
  ∀ (pins : List (Addr × Obj)) (s : Shared) (σ : St) (H : Hp) (o i v : V) (ov iv u : Value) (Q : Hp → Prop), Inv X pins σ H s → RelV o ov → RelV i iv → RelV v u → t o i v H Q →
    wpAny (model X.prog X.w) X.A (setItem ov iv u) (fun _ s' => ∃ H', Inv X pins σ H' s' ∧ Q H') X.xe s
section
variable {X : Cx} {pos : Pos}
def gName (i : Nat) : TG := fun v σ H Q => Q (σ.set i (some v)) H
theorem pg_name {i : Nat} {x : Str} (hN : X.N.Nodup) (hi : X.N[i]? = some x) (hx : Loc X.env.scope x) (hf : X.fn x = true ∨ X.env.scope.names.lookup x = some .local := by first | exact .inl rfl | exact .inr rfl | assumption) : PG X (.Name x pos) (gName i) := by
  intro pins s σ H v u Q I r h
  exact wpAny_assign_Name (store_ok I hN hi hx r (fun s' I' => ⟨_, H, I', h⟩) hf)
def gNil : TGs := fun vs σ H Q => vs = [] ∧ Q σ H
def gCons (t : TG) (u : TGs) : TGs := fun vs σ H Q => ∃ v r, vs = v :: r ∧ t v σ H fun σ' H' => u r σ' H' Q
theorem pgs_nil : PGs X [] gNil := by
  intro pins s σ H vs us Q I r h
  obtain ⟨e, h⟩ := h
  subst e
  cases r
  exact assignInOrder_nil ⟨σ, H, I, h⟩
theorem pgs_cons {e : Expr} {es : List Expr} {t : TG} {u : TGs} (h1 : PG X e t) (h2 : PGs X es u)
    (hs : (assignEach (e :: es) X.env).map (·.2) = assign e X.env :: (assignEach es X.env).map (·.2) := by rfl) : PGs X (e :: es) (gCons t u) := by
  intro pins s σ H vs us Q I r h
  obtain ⟨v, vr, e1, h⟩ := h
  subst e1
  cases r with
  | cons r rr =>
    rw [hs]
    refine assignInOrder_cons (thn (h1 pins s σ H _ _ _ I r h) fun _ s1 ⟨σ1, H1, I1, q1⟩ => ?_)
    exact h2 pins s1 σ1 H1 _ _ Q I1 rr q1
def gTup (K : PySem.W.Frag) (n : Nat) (t : TGs) : TG := fun v σ H Q => ∃ a xs, v = .ref a ∧ SqT K H a xs ∧ xs.length = n ∧ t xs σ H Q
theorem pg_tup {es : List Expr} {k : Nat} {t : TGs} {n : Nat} (hc : X.calm = true) (h : PGs X es t)
    (hn : (assignEach es X.env).length = n := by rfl) (hst : (assignEach es X.env).findIdx? (·.1) = none := by rfl) : PG X (.Tuple es k pos) (gTup X.K n t) := by
  intro pins s σ H v u Q I r hw
  obtain ⟨a, xs, e1, hq, hl, hw⟩ := hw
  subst e1
  cases r
  obtain ⟨its, rv, ht, hz⟩ := I.tuple hq
  refine assign_Tuple_tuple (I.ok.hd hc) ht (by simp [hn, ← hl, rv.length]) hst fun h' hx => ?_
  have I1 : Inv X pins σ H { s with heap := h' } := I.kept (t' := s.toks) fun b o e => hx b o (Nat.ne_of_lt (Heap.lt_size e)) e
  exact h pins _ σ H xs _ Q I1 (by simpa using rv) hw
def gSub (to ti : TE) (t : TSet) : TG := fun v σ H Q => to σ H fun o H1 => ti σ H1 fun i H2 => t o i v H2 fun H3 => Q σ H3
theorem pg_sub {o i : Expr} {to ti : TE} {t : TSet} (ho : PE X o to) (hi : PE X i ti) (hs : PSet X t)
    (ha : ∀ v, assign (.Subscript o i pos) X.env v = (do
      let ov ← holding [v] (eval o X.env)
      let iv ← holding [v, ov] (eval i X.env)
      standAt pos
      holding [v, ov, iv] (setItem ov iv v)
      release [v, ov, iv] []) := by intro _; rfl) : PG X (.Subscript o i pos) (gSub to ti t) := by
  intro pins s σ H v u Q I r h
  rw [ha]
  refine wpAny_bind (wpAny_holding (thn (ho pins s σ H _ I h) fun ov s1 ⟨x, H1, I1, r1, q1⟩ => ?_))
  refine wpAny_bind (wpAny_holding (thn (hi pins s1 σ H1 _ I1 q1) fun iv s2 ⟨y, H2, I2, r2, q2⟩ => ?_))
  refine wpAny_bind (wpAny_standAt (wpAny_bind (wpAny_holding (thn (hs pins s2 σ H2 x y v ov iv u _ I2 r1 r2 r q2) fun _ s3 ⟨H3, I3, q3⟩ => ?_))))
  exact wpAny_release ⟨σ, H3, I3, q3⟩
def tAsg (te : TE) (g : TG) : TS := fun D σ H => te σ H fun x H1 => g x σ H1 D.nx
theorem ps_asg {tg e : Expr} {te : TE} {g : TG} (he : PE X e te) (hg : PG X tg g) (hs : swapsWithSole [tg] e pos.line X.env = pure false := by rfl) (hw : swappedStores [tg] e X.env = pure none := by rfl)
    (h1 : (assignEach [tg] X.env).map (·.2) = [assign tg X.env] := by rfl) : PS X (.Assign [tg] e pos) (tAsg te g) := by
  intro pins s σ H D I h
  refine wpAny_Assign_stores (thn (he pins s σ H _ I h) fun v s1 ⟨x, H1, I1, r1, q1⟩ => ?_) hs hw
  rw [h1]
  exact thn (hg pins s1 σ H1 x v _ I1 r1 q1) fun _ s2 q => q
theorem ps_set {i : Nat} {x : Str} {e : Expr} {te : TE} {pos' : Pos} (hN : X.N.Nodup) (hi : X.N[i]? = some x) (hx : Loc X.env.scope x) (he : PE X e te) (hs : swapsWith e (some (.Name x pos')) pos.line X.env = pure false := by rfl) (hf : X.fn x = true ∨ X.env.scope.names.lookup x = some .local := by first | exact .inl rfl | exact .inr rfl | assumption) :
    PS X (.Assign [.Name x pos'] e pos) (tAsg te (gName i)) := by
  intro pins s σ H D I h
  refine wpAny_Assign_Name (thn (he pins s σ H _ I h) fun v s1 ⟨y, H1, I1, r1, q1⟩ => ?_) hs
  exact store_ok I1 hN hi hx r1 (fun s2 I2 => ⟨_, H1, I2, q1⟩) hf
end
section
variable {X : Cx} {pos : Pos}
end
structure It where
  go : Nat → Hp → Prop
  yld : Nat → Hp → V → Hp → Prop
  stop : Nat → Hp → Prop
def FpOk (X : Cx) (pins : List (Addr × Obj)) (H : Hp) (b : Addr) : Prop :=
  H b = none ∧ b ≠ X.env.locals ∧ b ∉ X.fs ∧ (b ∈ X.ex ∨ X.s₀.heap.objs.size ≤ b) ∧ (∀ x c, X.env.cells.lookup x = some c → c ≠ b) ∧ ∀ p ∈ X.pn ++ pins, p.1 ≠ b
theorem Inv.fpOk {X : Cx} {pins : List (Addr × Obj)} {σ : St} {H H' : Hp} {s : Shared} {b : Addr} (I : Inv X pins σ H s) (hb : s.heap.objs.size ≤ b) (hn : H' b = none) : FpOk X pins H' b := by
  refine ⟨hn, Nat.ne_of_gt (Nat.lt_of_lt_of_le I.lt hb), I.nofs hb, .inr (Nat.le_trans I.sz hb), fun x c e z => ?_, fun p hp z => ?_⟩
  · obtain ⟨v, q⟩ := I.cell x c e
    exact absurd (Nat.lt_of_lt_of_le q.lt (by rw [z]; exact hb)) (Nat.lt_irrefl _)
  · exact absurd (Nat.lt_of_lt_of_le (Heap.lt_size (I.pin p hp).1) (by rw [z]; exact hb)) (Nat.lt_irrefl _)
structure Turn (P : Program) (w : World) (K : PySem.W.Frag) (tg : Expr) (J : It) (fp : List Addr) (it : Addr) (tn : Nat → Heap → Prop) : Prop where
  mem : it ∈ fp
  obj : ∀ i h, tn i h → ∀ b ∈ fp, ∃ o, h.get? b = some o ∧ ∀ v, o.data ≠ .cell v
  keep : ∀ i h h', tn i h → (∀ b ∈ fp, ∀ o, h.get? b = some o → h'.get? b = some o) → tn i h'
  item : ∀ (X : Cx), X.prog = P → X.w = w → X.K = K → X.calm = true → ∀ (i : Nat) (pins : List (Addr × Obj)) (s : Shared) (σ : St) (H : Hp) (E : Value → Shared → Prop), Inv X pins σ H s → (∀ b ∈ fp, FpOk X pins H b) → tn i s.heap → J.go i H →
    wpAny (model P w) X.A (pyNext (.ref it)) (fun r s1 => ∃ u, r = some u ∧
      wpAny (model P w) X.A (letOwnedTupleGo tg (.ref it) u) (fun _ s2 => ∃ x H', Inv X pins σ H' s2 ∧ RelV x u ∧ J.yld i H x H' ∧ tn (i + 1) s2.heap ∧ ∀ b ∈ fp, H' b = none) E s1) E s
  done : ∀ (X : Cx), X.prog = P → X.w = w → X.K = K → X.calm = true → ∀ (i : Nat) (pins : List (Addr × Obj)) (s : Shared) (σ : St) (H : Hp) (E : Value → Shared → Prop), Inv X pins σ H s → (∀ b ∈ fp, FpOk X pins H b) → tn i s.heap → J.stop i H →
    wpAny (model P w) X.A (pyNext (.ref it)) (fun r s1 => r = none ∧ Inv X pins σ H s1) E s
  self : ∀ (A : Around) (i : Nat) (s : Shared) (Q : Value → Shared → Prop) (E : Value → Shared → Prop), tn i s.heap → Q (.ref it) s → wpAny (model P w) A (pyIter (.ref it)) Q E s
abbrev TI := St → Hp → (It → Hp → Prop) → Prop
def PIE (X : Cx) (pins : List (Addr × Obj)) (σ : St) (tg : Expr) (R : It → Hp → Prop) (itv : Value) (s2 : Shared) : Prop :=
  ∃ (it : Addr) (fp : List Addr) (tn : Nat → Heap → Prop) (J : It) (H' : Hp), itv = .ref it ∧ Inv X pins σ H' s2 ∧ Turn X.prog X.w X.K tg J fp it tn ∧ tn 0 s2.heap ∧ (∀ b ∈ fp, FpOk X pins H' b) ∧ R J H'
def PI (X : Cx) (tg iter : Expr) (wi : TI) : Prop :=
  ∀ (pins : List (Addr × Obj)) (s : Shared) (σ : St) (H : Hp) (R : It → Hp → Prop), Inv X pins σ H s → wi σ H R →
    wpAny (model X.prog X.w) X.A (eval iter X.env) (fun v s1 => wpAny (model X.prog X.w) X.A (pyIter v) (PIE X pins σ tg R) X.xe s1) X.xe s
theorem go_of {M : Model} {A : Around} {E : Value → Shared → Prop} {s : Shared} {tg : Expr} {it : Addr} {u : Value} {o : Obj} {n : String} {vs : Array Value} {Q : Unit → Shared → Prop} (ho : s.heap.get? it = some o) (hc : o.cls = .type n) (hd : o.data = .fields vs)
    (hn : ["enumerate", "zip", "dict_itemiterator", "dict_reverseitemiterator", "odict_iterator", "itertools.zip_longest", "itertools.pairwise"].contains n = false) (hQ : Q () s) : wpAny M A (letOwnedTupleGo tg (.ref it) u) Q E s := by
  unfold letOwnedTupleGo
  cases tg <;> first
    | exact wpAny_pure hQ
    | (cases u <;> first
        | exact wpAny_pure hQ
        | (refine wpAny_bind (wpAny_load ho ?_)
           rw [hc, hd]
           show wpAny M A (if (["enumerate", "zip", "dict_itemiterator", "dict_reverseitemiterator", "odict_iterator", "itertools.zip_longest", "itertools.pairwise"].contains n && vs[0]? == some (rawInt _)) = true then _ else _) Q E s
           rw [if_neg (by intro h; rw [hn, Bool.false_and] at h; cases h)]
           exact wpAny_pure hQ))
def Itt (K : PySem.W.Frag) (a : Addr) : It :=
  ⟨fun i H => ∃ xs x, SqT K H a xs ∧ xs[i]? = some x, fun i H x H' => H' = H ∧ ∀ xs, SqT K H a xs → xs[i]? = some x, fun i H => ∃ xs, SqT K H a xs ∧ xs.length ≤ i⟩
def Itr (lo : Int) (n : Nat) : It := ⟨fun i _ => i < n, fun i H x H' => H' = H ∧ x = .int (lo + i), fun i _ => n ≤ i⟩
theorem turn_tuple {P : Program} {w : World} {K : PySem.W.Frag} {tg : Expr} (a it : Addr) : Turn P w K tg (Itt K a) [it] it (fun i h => h.IsTupleIter it a i) where
  mem := by simp
  obj := fun i h st b hb => by
    have e : b = it := by simpa using hb
    subst e
    obtain ⟨o, e, c, d⟩ := st
    exact ⟨o, e, fun v z => by rw [d] at z; cases z⟩
  keep := fun i h h' st k => st.at fun o e => k it (by simp) o e
  item := by
    intro X hP hw hK hc i pins s σ H E I hf st hg
    subst hP hw hK
    obtain ⟨xs, x, hq, hx⟩ := hg
    obtain ⟨its, rv, p, hz⟩ := I.tuple hq
    obtain ⟨u, hu, ru⟩ := rv.get hx
    obtain ⟨f0, f1, f2, f3, f4, f5⟩ := hf it (by simp)
    refine wpAny_pyNext_tuple_item st (show s.heap.IsTuple a its.toArray from p) (x := u) (by simpa using hu) fun h' st' sb => ?_
    have I1 : Inv X pins σ H { s with heap := h' } := I.turned (t' := s.toks) (fun b o hb e => (sb.2 b hb).trans e) f0 f1 f3 f4 f5
    obtain ⟨o, e, c, d⟩ := id st'
    exact ⟨u, rfl, go_of (s := { s with heap := h' }) e c d (by decide) ⟨x, H, I1, ru, ⟨rfl, fun ys hy => by rw [I.tuple_inj hy hq]; exact hx⟩, st', fun b hb => (hf b hb).1⟩⟩
  done := by
    intro X hP hw hK hc i pins s σ H E I hf st hg
    subst hP hw hK
    obtain ⟨xs, hq, hx⟩ := hg
    obtain ⟨its, rv, p, hz⟩ := I.tuple hq
    obtain ⟨f0, f1, f2, f3, f4, f5⟩ := hf it (by simp)
    have hl := rv.length
    exact wpAny_pyNext_tuple_end (I.ok.hd hc) st (show s.heap.IsTuple a its.toArray from p) (by simp; omega) fun h' eb => ⟨rfl, I.turned (t' := s.toks) (fun b o hb e => eb b o hb e) f0 f1 f3 f4 f5⟩
  self := fun _ _ _ _ _ st h => wpAny_pyIter_tupleiter st h
theorem turn_range {P : Program} {w : World} {K : PySem.W.Frag} {tg : Expr} (it : Addr) (lo : Int) (n : Nat) : Turn P w K tg (Itr lo n) [it] it (fun i h => IsRangeIter h it (lo + (i : Nat) * 1) ((n : Int) - (i : Nat)) 1) where
  mem := by simp
  obj := fun i h st b hb => by
    have e : b = it := by simpa using hb
    subst e
    exact ⟨_, st, fun v z => by
      have z' : Data.fields _ = Data.cell v := z
      cases z'⟩
  keep := fun i h h' st k => k it (by simp) _ st
  item := by
    intro X hP hw hK hc i pins s σ H E I hf st hg
    subst hP hw hK
    obtain ⟨f0, f1, f2, f3, f4, f5⟩ := hf it (by simp)
    have W := Walks.range (prog := X.prog) (w := X.w) (I.ok.hd hc) it lo 1 n
    refine W.item i s _ _ hg st fun v h' tk hv st' kk => ?_
    obtain ⟨t, rfl⟩ := hv
    have I1 : Inv X pins σ H { s with heap := h', toks := tk } := I.turned (fun b o hb e => kk b o (by simpa using hb) e) f0 f1 f3 f4 f5
    refine ⟨_, rfl, go_of (s := { s with heap := h', toks := tk }) (n := "range_iterator") st' rfl rfl (by decide) ⟨.int (lo + i), H, I1, ⟨t, ?_⟩, ⟨rfl, rfl⟩, st', fun b hb => (hf b hb).1⟩⟩
    rw [Int.mul_one]
  done := by
    intro X hP hw hK hc i pins s σ H E I hf st hg
    subst hP hw hK
    obtain ⟨f0, f1, f2, f3, f4, f5⟩ := hf it (by simp)
    exact wpAny_pyNext_range_end (I.ok.hd hc) st (by have : n ≤ i := hg; omega) fun h' eb => ⟨rfl, I.turned (t' := s.toks) (fun b o hb e => eb b o hb e) f0 f1 f3 f4 f5⟩
  self := fun _ _ _ _ _ st h => wpAny_pyIter_rangeiter st h
end L2
namespace L2
open PySem PySem.Spec PyProof.Rows
section
variable {X : Cx} {tg : Expr}
def iTup (K : PySem.W.Frag) (tl : TE) : TI := fun σ H R => tl σ H fun x H1 => ∃ a, x = .ref a ∧ (∃ xs, SqT K H1 a xs) ∧ R (Itt K a) H1
theorem pi_tup {l : Expr} {tl : TE} (hl : PE X l tl) : PI X tg l (iTup X.K tl) := by
  intro pins s σ H R I h
  refine thn (hl pins s σ H _ I h) fun v s1 ⟨x, H1, I1, r1, q1⟩ => ?_
  obtain ⟨a, e, ⟨xs, hq⟩, q⟩ := q1
  subst e
  cases r1
  obtain ⟨its, rv, p, hz⟩ := I1.tuple hq
  refine wpAny_pyIter_tuple (show s1.heap.IsTuple a its.toArray from p) ?_
  refine ⟨s1.heap.objs.size, [s1.heap.objs.size], _, _, H1, rfl, I1.kept (t' := s1.toks) fun b o e => Heap.get?_push_of_some _ e, turn_tuple a _, ⟨_, Heap.get?_push_size _ rfl, rfl, rfl⟩, fun b hb => ?_, q⟩
  have e : b = s1.heap.objs.size := by simpa using hb
  subst e
  exact I1.fpOk (Nat.le_refl _) (I1.hok.fresh (Nat.le_refl _))
theorem range_it {pins : List (Addr × Obj)} {σ : St} {H : Hp} {s : Shared} {R : It → Hp → Prop} {E : Value → Shared → Prop} {lo hi : Int} {t u v : Tok} {tk : Nat} (I : Inv X pins σ H s) (h1 : -(2 ^ 62) ≤ lo) (h2 : lo < 2 ^ 62) (h3 : -(2 ^ 62) ≤ hi) (h4 : hi < 2 ^ 62)
    (q : R (Itr lo (hi - lo).toNat) H) : wpAny (model X.prog X.w) X.A (pyIter (.ref s.heap.objs.size)) (PIE X pins σ tg R) E { s with heap := s.heap.push { cls := .type "range", data := .fields #[.int lo t, .int hi u, .int 1 v] }, toks := tk } := by
  refine wpAny_pyIter_range (IsRange.new ..) (small_one h1 h2 h3 h4) ?_
  have I1 : Inv X pins σ H { s with heap := s.heap.push { cls := .type "range", data := .fields #[.int lo t, .int hi u, .int 1 v] }, toks := tk } := I.kept fun b o e => Heap.get?_push_of_some _ e
  refine ⟨(s.heap.push { cls := .type "range", data := .fields #[.int lo t, .int hi u, .int 1 v] }).objs.size, [(s.heap.push { cls := .type "range", data := .fields #[.int lo t, .int hi u, .int 1 v] }).objs.size], _, _, H, rfl,
    I1.kept (t' := tk) fun b o e => Heap.get?_push_of_some _ e, turn_range _ lo (hi - lo).toNat, ?_, fun b hb => ?_, q⟩
  · have e1 : lo + ((0 : Nat) : Int) * 1 = lo := by simp
    have e2 : (((hi - lo).toNat : Nat) : Int) - ((0 : Nat) : Int) = Builtin.Range.rangeSize lo hi 1 := by rw [rangeSize_one]; split <;> omega
    show IsRangeIter _ _ (lo + ((0 : Nat) : Int) * 1) ((((hi - lo).toNat : Nat) : Int) - ((0 : Nat) : Int)) 1
    rw [e1, e2]
    exact Heap.get?_push_size _ rfl
  · have e : b = (s.heap.push { cls := .type "range", data := .fields #[.int lo t, .int hi u, .int 1 v] }).objs.size := by simpa using hb
    subst e
    exact I1.fpOk (Nat.le_refl _) (I1.hok.fresh (Nat.le_refl _))
def iRng1 (ta : TA) : TI := fun σ H R => ta σ H fun vs H1 => ∃ j : Int, vs = [.int j] ∧ -(2 ^ 62) ≤ j ∧ j < 2 ^ 62 ∧ R (Itr 0 j.toNat) H1
def iRng2 (ta : TA) : TI := fun σ H R => ta σ H fun vs H1 => ∃ i j : Int, vs = [.int i, .int j] ∧ (-(2 ^ 62) ≤ i ∧ i < 2 ^ 62 ∧ -(2 ^ 62) ≤ j ∧ j < 2 ^ 62) ∧ R (Itr i (j - i).toNat) H1
theorem pi_range1 {a : Expr} {ta : TA} {p pos : Pos} (hg : Gl X "range") (hm : X.mg "range" = none) (ha : PA X [a] ta) (hs : starEach [a] X.env = [(false, eval a X.env)] := by rfl) : PI X tg (.Call (.Name "range" p) [a] [] pos) (iRng1 ta) := by
  intro pins s σ H R I h
  refine Call_ (ld_blt I hg hm boot_range (PyProof.Rows.callWith_type1 (thn (ha pos pins s σ H _ I h) fun us s1 ⟨vs, H1, I1, r1, q1⟩ => ?_) hs rfl))
  obtain ⟨j, e, q1, q2, q⟩ := q1
  subst e
  cases r1 with
  | cons r rr =>
    cases rr
    obtain ⟨t, rfl⟩ := r
    exact call_range_1 (range_it I1 (by omega) (by omega) q1 q2 (by simpa using q))
theorem pi_range2 {a b : Expr} {ta : TA} {p pos : Pos} (hg : Gl X "range") (hm : X.mg "range" = none) (ha : PA X [a, b] ta) (hs : starEach [a, b] X.env = [(false, eval a X.env), (false, eval b X.env)] := by rfl) (hs2 : starEach [b] X.env = [(false, eval b X.env)] := by rfl) :
    PI X tg (.Call (.Name "range" p) [a, b] [] pos) (iRng2 ta) := by
  intro pins s σ H R I h
  refine Call_ (ld_blt I hg hm boot_range (PyProof.Rows.callWith_type1 (thn (ha pos pins s σ H _ I h) fun us s1 ⟨vs, H1, I1, r1, q1⟩ => ?_) (by rw [hs, hs2]) (by rw [hs2]; rfl)))
  obtain ⟨i, j, e, ⟨q1, q2, q3, q4⟩, q⟩ := q1
  subst e
  cases r1 with
  | cons r rr =>
    cases rr with
    | cons r' rr =>
      cases rr
      obtain ⟨t, rfl⟩ := r
      obtain ⟨t', rfl⟩ := r'
      exact call_range_2 (range_it I1 q1 q2 q3 q4 q)
def tFor (wi : TI) (g : TG) (tb : TS) : TS := fun D σ H => wi σ H fun J H1 => ∃ W : Nat → Nat → St → Hp → Prop, (∃ m, W 0 m σ H1) ∧ ∀ i m σ H, W i m σ H →
  (J.stop i H ∧ D.nx σ H) ∨ (J.go i H ∧ ∃ N : St → Hp → Prop, (∀ σ' H', N σ' H' → ∃ m', m' < m ∧ W (i + 1) m' σ' H') ∧ ∀ x H', J.yld i H x H' → g x σ H' fun σ2 H2 => tb { D with nx := N, ct := N, bk := D.nx } σ2 H2)
def pinsAt (fp : List Addr) (h : Heap) : List (Addr × Obj) := fp.filterMap fun b => (h.get? b).map fun o => (b, o)
theorem mem_pinsAt {fp : List Addr} {h : Heap} {b : Addr} {o : Obj} (hb : b ∈ fp) (e : h.get? b = some o) : (b, o) ∈ pinsAt fp h := List.mem_filterMap.mpr ⟨b, hb, by rw [e]; rfl⟩
theorem of_pinsAt {fp : List Addr} {h : Heap} {p : Addr × Obj} (hp : p ∈ pinsAt fp h) : p.1 ∈ fp ∧ h.get? p.1 = some p.2 := by
  obtain ⟨b, hb, e⟩ := List.mem_filterMap.mp hp
  cases q : h.get? b with
  | none => rw [q] at e; cases e
  | some o =>
    rw [q] at e
    have e' : (b, o) = p := Option.some.inj e
    subst e'
    exact ⟨hb, q⟩
theorem Inv.pinned {pins : List (Addr × Obj)} {σ : St} {H : Hp} {s : Shared} {fp : List Addr} (I : Inv X pins σ H s) (hf : ∀ b ∈ fp, FpOk X pins H b) (ho : ∀ b ∈ fp, ∃ o, s.heap.get? b = some o ∧ ∀ v, o.data ≠ .cell v) : Inv X (pins ++ pinsAt fp s.heap) σ H s :=
  I.pins_of fun p hp => (List.mem_append.mp hp).elim (fun z => I.pin p (List.mem_append_right _ z)) fun z => by
    obtain ⟨hb, e⟩ := of_pinsAt z
    obtain ⟨f0, f1, f2, _⟩ := hf p.1 hb
    obtain ⟨o, e', d⟩ := ho p.1 hb
    rw [e] at e'; cases e'
    exact ⟨e, f0, f1, f2, d⟩
theorem Inv.unpinned {pins pl : List (Addr × Obj)} {σ : St} {H : Hp} {s : Shared} (I : Inv X (pins ++ pl) σ H s) : Inv X pins σ H s := I.pins_of fun p hp => I.pin p (List.mem_append_right _ (List.mem_append_left _ hp))
theorem ps_for {iter : Expr} {body : List Stmt} {wi : TI} {g : TG} {tb : TS} {pos : Pos} (hp : PassesOwn (model X.prog X.w) X.A X.env X.xe) (hc : X.calm = true) (hi : PI X tg iter wi) (hg : PG X tg g) (hb : PSs X body tb)
    (hs : ∀ x, foldedSetIterable iter X.env x = pure x := by intro _; rfl) : PS X (.For tg iter body [] pos) (tFor wi g tb) := by
  intro pins s σ H D I h
  refine wpAny_For (thn (hi pins s σ H _ I h) fun v s1 h1 => thn h1 fun itv s2 h2 => ?_) hs
  obtain ⟨it, fp, tn, J, H2, e, I2, T, st2, f2, W, ⟨m0, w0⟩, turn⟩ := h2
  subst e
  have stat : ∀ {H' : Hp}, (∀ b ∈ fp, H' b = none) → ∀ b ∈ fp, FpOk X pins H' b := fun hn b hb => ⟨hn b hb, (f2 b hb).2⟩
  refine codeAny_forLoop_any (fun n s' => ∃ i σ' H', Inv X pins σ' H' s' ∧ tn i s'.heap ∧ (∀ b ∈ fp, H' b = none) ∧ W i n σ' H') ?_ m0 ⟨0, σ, H2, I2, st2, fun b hb => (f2 b hb).1, w0⟩
  rintro n s3 ⟨i, σ3, H3, I3, st3, fr3, w3⟩
  rcases turn i n σ3 H3 w3 with ⟨stop, qn⟩ | ⟨go, N, hN, step⟩
  · refine wpAny_passesOwn hp (thn (T.done X rfl rfl rfl hc i pins s3 σ3 H3 X.xe I3 (stat fr3) st3 stop) fun r s4 ⟨hr, I4⟩ => ?_)
    subst hr
    exact wpAny_execs_nil ⟨σ3, H3, I4, qn⟩
  · refine wpAny_passesOwn hp (thn (T.item X rfl rfl rfl hc i pins s3 σ3 H3 X.xe I3 (stat fr3) st3 go) fun r s4 ⟨u, hr, h4⟩ => ?_)
    subst hr
    refine wpAny_passesOwn hp (thn h4 fun _ s5 ⟨x, H5, I5, r5, y5, st5, fr5⟩ => ?_)
    have I5' := I5.pinned (stat fr5) (T.obj _ _ st5)
    refine wpAny_passesOwn hp (thn (hg _ s5 σ3 H5 x u _ I5' r5 (step x H5 y5)) fun _ s6 ⟨σ6, H6, I6, q6⟩ => ?_)
    refine wpAny_passesOwn hp (thn (hb _ s6 σ6 H6 _ I6 q6) fun f s7 q7 => ?_)
    have again : ∀ {σ7 : St} {H7 : Hp}, Inv X (pins ++ pinsAt fp s5.heap) σ7 H7 s7 → N σ7 H7 → ∃ m, m < n ∧ ∃ i σ' H', Inv X pins σ' H' s7 ∧ tn i s7.heap ∧ (∀ b ∈ fp, H' b = none) ∧ W i m σ' H' := fun {σ7 H7} I7 n7 => by
      obtain ⟨m', hm, w7⟩ := hN σ7 H7 n7
      refine ⟨m', hm, i + 1, σ7, H7, I7.unpinned, T.keep _ _ _ st5 fun b hb o e => (I7.pin (b, o) (List.mem_append_right _ (List.mem_append_right _ (mem_pinsAt hb e)))).1, fun b hb => ?_, w7⟩
      obtain ⟨o, e, d⟩ := T.obj _ _ st5 b hb
      exact (I7.pin (b, o) (List.mem_append_right _ (List.mem_append_right _ (mem_pinsAt hb e)))).2.1
    cases f with
    | next => obtain ⟨σ7, H7, I7, n7⟩ := q7; exact again I7 n7
    | cont => obtain ⟨σ7, H7, I7, n7⟩ := q7; exact again I7 n7
    | brk => obtain ⟨σ7, H7, I7, q7⟩ := q7; exact ⟨σ7, H7, I7.unpinned, q7⟩
    | ret v => obtain ⟨x7, σ7, H7, I7, r7, q7⟩ := q7; exact ⟨x7, σ7, H7, I7.unpinned, r7, q7⟩
end
theorem for_range {lo : Int} {n : Nat} {g : TG} {tb : TS} {D : Ends} {σ : St} {H : Hp} (Pv : Nat → St → Hp → Prop) (h0 : Pv 0 σ H)
    (hs : ∀ i σ H, i < n → Pv i σ H → g (.int (lo + i)) σ H fun σ2 H2 => tb { D with nx := Pv (i + 1), ct := Pv (i + 1), bk := D.nx } σ2 H2) (hd : ∀ σ H, Pv n σ H → D.nx σ H) :
    ∃ W : Nat → Nat → St → Hp → Prop, (∃ m, W 0 m σ H) ∧ ∀ i m σ H, W i m σ H →
      ((Itr lo n).stop i H ∧ D.nx σ H) ∨ ((Itr lo n).go i H ∧ ∃ N : St → Hp → Prop, (∀ σ' H', N σ' H' → ∃ m', m' < m ∧ W (i + 1) m' σ' H') ∧ ∀ x H', (Itr lo n).yld i H x H' → g x σ H' fun σ2 H2 => tb { D with nx := N, ct := N, bk := D.nx } σ2 H2) := by
  refine ⟨fun i m σ H => m = n - i ∧ i ≤ n ∧ Pv i σ H, ⟨n, by simp, Nat.zero_le _, h0⟩, ?_⟩
  rintro i m σ H ⟨rfl, hi, p⟩
  by_cases hlt : i < n
  · refine .inr ⟨hlt, Pv (i + 1), fun σ' H' p' => ⟨n - (i + 1), by omega, rfl, hlt, p'⟩, fun x H' y => ?_⟩
    obtain ⟨e, y⟩ := y
    subst e y
    exact hs i σ _ hlt p
  · have e : i = n := by omega
    subst e
    exact .inl ⟨Nat.le_refl _, hd σ H p⟩
end L2
namespace L2
open PySem PySem.Spec PyProof.Rows
abbrev R2 := V → V → Hp → VK → Prop
def OpR (X : Cx) (f : Value → Value → Sem Value) (r : R2) : Prop :=
  ∀ (pins : List (Addr × Obj)) (s : Shared) (σ : St) (H : Hp) (x y : V) (v u : Value) (Q : VK), Inv X pins σ H s → RelV x v → RelV y u → r x y H Q →
    wpAny (model X.prog X.w) X.A (f v u) (EP X pins σ Q) X.xe s
def UnR (X : Cx) (f : Value → Sem Value) (r : V → Hp → VK → Prop) : Prop :=
  ∀ (pins : List (Addr × Obj)) (s : Shared) (σ : St) (H : Hp) (x : V) (v : Value) (Q : VK), Inv X pins σ H s → RelV x v → r x H Q →
    wpAny (model X.prog X.w) X.A (f v) (EP X pins σ Q) X.xe s
def CallR (X : Cx) (f : Value) (r : List V → Hp → VK → Prop) : Prop :=
  ∀ (pins : List (Addr × Obj)) (s : Shared) (σ : St) (H : Hp) (xs : List V) (us : List Value) (Q : VK), Inv X pins σ H s → Vals xs us → r xs H Q →
    wpAny (model X.prog X.w) X.A (call f us) (EP X pins σ Q) X.xe s
def tOp (r : R2) (ta tb : TE) : TE := fun σ H Q => ta σ H fun x H1 => tb σ H1 fun y H2 => r x y H2 Q
def tUn (r : V → Hp → VK → Prop) (ta : TE) : TE := fun σ H Q => ta σ H fun x H1 => r x H1 Q
def rI (C : Int → Int → Prop) (g : Int → Int → V) : R2 := fun x y H Q => ∃ i j, x = .int i ∧ y = .int j ∧ C i j ∧ Q (g i j) H
def rI0 (g : Int → Int → V) : R2 := fun x y H Q => ∃ i j, x = .int i ∧ y = .int j ∧ Q (g i j) H
def rU (g : Int → V) : V → Hp → VK → Prop := fun x H Q => ∃ i, x = .int i ∧ Q (g i) H
section
variable {X : Cx} {a b c : Expr} {ta tb tc : TE} {pos : Pos}
theorem binT (ha : PE X a ta) (hb : PE X b tb) {pins : List (Addr × Obj)} {s : Shared} {σ : St} {H : Hp} {R : V → V → Hp → Prop} (I : Inv X pins σ H s)
    (h : ta σ H fun x H1 => tb σ H1 fun y H2 => R x y H2) {Q : Value → Shared → Prop} {f : Value → Value → Sem Value}
    (hf : ∀ v u s2 x y H2, Inv X pins σ H2 s2 → RelV x v → RelV y u → R x y H2 → wpAny (model X.prog X.w) X.A (f v u) Q X.xe s2) :
    wpAny (model X.prog X.w) X.A (eval a X.env) (fun v s₁ => wpAny (model X.prog X.w) X.A (eval b X.env) (fun u s₂ => wpAny (model X.prog X.w) X.A (f v u) Q X.xe s₂) X.xe s₁) X.xe s := by
  refine thn (ha pins s σ H _ I h) fun v s1 ⟨x, H1, I1, r1, q1⟩ => ?_
  refine thn (hb pins s1 σ H1 _ I1 q1) fun u s2 ⟨y, H2, I2, r2, q2⟩ => ?_
  exact hf v u s2 x y H2 I2 r1 r2 q2
theorem pe_op {op : Operator} {r : R2} (ho : OpR X (binaryOp op) r) (ha : PE X a ta) (hb : PE X b tb) : PE X (.BinOp a op b pos) (tOp r ta tb) := by
  intro pins s σ H Q I h
  exact wpAny_BinOp (binT ha hb I h fun v u s2 x y H2 I2 rx ry q => ho pins s2 σ H2 x y v u Q I2 rx ry q)
theorem pe_un {op : UnaryOp} {r : V → Hp → VK → Prop} (ho : UnR X (unaryOp op) r) (ha : PE X a ta) : PE X (.UnaryOp op a pos) (tUn r ta) := by
  intro pins s σ H Q I h
  exact UnaryOp_ (thn (ha pins s σ H _ I h) fun v s1 ⟨x, H1, I1, r1, q1⟩ => ho pins s1 σ H1 x v Q I1 r1 q1)
theorem opI {f : Value → Value → Sem Value} {C : Int → Int → Prop} {g : Int → Int → Int}
    (rule : ∀ (i j : Int) (t u : Tok) (s : Shared) (Q : Value → Shared → Prop) (E : Value → Shared → Prop), C i j → Q (.int (g i j) s.toks) { s with toks := s.toks + 1 } → wpAny (model X.prog X.w) X.A (f (.int i t) (.int j u)) Q E s) :
    OpR X f (rI C fun i j => .int (g i j)) := by
  intro pins s σ H x y v u Q I rx ry h
  obtain ⟨i, j, rfl, rfl, hc, q⟩ := h
  obtain ⟨t, rfl⟩ := rx
  obtain ⟨t', rfl⟩ := ry
  exact rule i j t t' s _ _ hc ⟨.int (g i j), H, I.tok _, ⟨_, rfl⟩, q⟩
theorem opI0 {f : Value → Value → Sem Value} {g : Int → Int → Int}
    (rule : ∀ (i j : Int) (t u : Tok) (s : Shared) (Q : Value → Shared → Prop) (E : Value → Shared → Prop), Q (.int (g i j) s.toks) { s with toks := s.toks + 1 } → wpAny (model X.prog X.w) X.A (f (.int i t) (.int j u)) Q E s) :
    OpR X f (rI0 fun i j => .int (g i j)) := by
  intro pins s σ H x y v u Q I rx ry h
  obtain ⟨i, j, rfl, rfl, q⟩ := h
  obtain ⟨t, rfl⟩ := rx
  obtain ⟨t', rfl⟩ := ry
  exact rule i j t t' s _ _ ⟨.int (g i j), H, I.tok _, ⟨_, rfl⟩, q⟩
theorem opB0 {f : Value → Value → Sem Value} {g : Int → Int → Bool}
    (rule : ∀ (i j : Int) (t u : Tok) (s : Shared) (Q : Value → Shared → Prop) (E : Value → Shared → Prop), Q (.bool (g i j)) s → wpAny (model X.prog X.w) X.A (f (.int i t) (.int j u)) Q E s) :
    OpR X f (rI0 fun i j => .bl (g i j)) := by
  intro pins s σ H x y v u Q I rx ry h
  obtain ⟨i, j, rfl, rfl, q⟩ := h
  obtain ⟨t, rfl⟩ := rx
  obtain ⟨t', rfl⟩ := ry
  exact rule i j t t' s _ _ ⟨.bl (g i j), H, I, rfl, q⟩
def CDiv (i j : Int) : Prop := 0 < j ∧ j < 1073741824
def CPow (i j : Int) : Prop := 0 ≤ j ∧ j ≤ 1000000 ∧ i.natAbs < 2 ^ 64
def CMul (i j : Int) : Prop := (-(2 ^ 64) < i ∧ i < 2 ^ 64) ∨ (-(2 ^ 64) < j ∧ j < 2 ^ 64)
theorem CMul.ok {i j : Int} (h : CMul i j) : IntMulOk i j := by
  rcases h with ⟨h1, h2⟩ | ⟨h1, h2⟩
  · exact .of_left (intBits_le_64 h1 h2)
  · exact .of_right (intBits_le_64 h1 h2)
theorem op_add : OpR X (binaryOp .Add) (rI0 fun i j => .int (i + j)) := opI0 fun _ _ _ _ _ _ _ q => add_int q
theorem op_sub : OpR X (binaryOp .Sub) (rI0 fun i j => .int (i - j)) := opI0 fun _ _ _ _ _ _ _ q => sub_int q
theorem op_mul : OpR X (binaryOp .Mult) (rI CMul fun i j => .int (i * j)) := opI fun _ _ _ _ _ _ _ hc q => mul_int q hc.ok
theorem op_fdiv : OpR X (binaryOp .FloorDiv) (rI CDiv fun i j => .int (i / j)) := opI fun i j _ _ _ _ _ hc q => by
  have h1 : (0 : Int) < j := hc.1
  have h2 : j < 1073741824 := hc.2
  exact floordiv_int (by omega) (by rw [Int.fdiv_eq_ediv_of_nonneg i (by omega)]; exact q) (.inl (PyProof.noPylong_small (by omega)))
theorem op_mod : OpR X (binaryOp .Mod) (rI (fun _ j => 0 < j) fun i j => .int (i % j)) := opI fun i j _ _ _ _ _ hc q => by
  have h1 : (0 : Int) < j := hc
  exact mod_int' (by omega) (by rw [Int.fmod_eq_emod_of_nonneg i (by omega)]; exact q)
theorem op_pow : OpR X (binaryOp .Pow) (rI CPow fun i j => .int (i ^ j.toNat)) := opI fun _ _ _ _ _ _ _ hc q => pow_int_small hc.1 hc.2.1 hc.2.2 q
theorem op_xor : OpR X (binaryOp .BitXor) (rI0 fun i j => .int (Builtin.bitXor i j)) := opI0 fun _ _ _ _ _ _ _ q => xor_int q
theorem unI {f : Value → Sem Value} {g : Int → Int}
    (rule : ∀ (i : Int) (t : Tok) (s : Shared) (Q : Value → Shared → Prop) (E : Value → Shared → Prop), Q (.int (g i) s.toks) { s with toks := s.toks + 1 } → wpAny (model X.prog X.w) X.A (f (.int i t)) Q E s) :
    UnR X f (rU fun i => .int (g i)) := by
  intro pins s σ H x v Q I rx h
  obtain ⟨i, rfl, q⟩ := h
  obtain ⟨t, rfl⟩ := rx
  exact rule i t s _ _ ⟨.int (g i), H, I.tok _, ⟨_, rfl⟩, q⟩
theorem un_neg : UnR X (unaryOp .USub) (rU fun i => .int (-i)) := unI fun _ _ _ _ _ q => neg_int q
end
section
variable {X : Cx} {a b c : Expr} {ta tb tc : TE} {pos : Pos}
theorem op_lt : OpR X (compareOp .Lt) (rI0 fun i j => .bl (decide (i < j))) := opB0 fun _ _ _ _ _ _ _ q => lt_int q
theorem op_le : OpR X (compareOp .LtE) (rI0 fun i j => .bl (decide (i ≤ j))) := opB0 fun _ _ _ _ _ _ _ q => le_int q
theorem op_gt : OpR X (compareOp .Gt) (rI0 fun i j => .bl (decide (j < i))) := opB0 fun _ _ _ _ _ _ _ q => gt_int q
theorem op_ge : OpR X (compareOp .GtE) (rI0 fun i j => .bl (decide (j ≤ i))) := opB0 fun _ _ _ _ _ _ _ q => ge_int q
theorem nomark (b : Expr) {op : CmpOp} (h : op ≠ .In := by decide) (h2 : op ≠ .NotIn := by decide) : behindInMarks op b = false := by
  have e1 : (op == CmpOp.In) = false := by cases op <;> first | rfl | exact absurd rfl h
  have e2 : (op == CmpOp.NotIn) = false := by cases op <;> first | rfl | exact absurd rfl h2
  cases b <;> simp [behindInMarks, e1, e2]
theorem pe_cmpR {op : CmpOp} {r : R2} (ho : OpR X (compareOp op) r) (ha : PE X a ta) (hb : PE X b tb) (hm : behindInMarks op b = false) : PE X (.Compare a [op] [b] pos) (tOp r ta tb) := by
  intro pins s σ H Q I h
  exact wpAny_Compare1 (binT ha hb I h fun v u s2 x y H2 I2 rx ry q => ho pins s2 σ H2 x y v u Q I2 rx ry q) hm
def tTest (t : TE) : TT := fun σ H Q => t σ H fun x H' => ∃ k, x = .bl k ∧ Q k H'
theorem pt_cmpR {op : CmpOp} {r : R2} (ho : OpR X (compareOp op) r) (ha : PE X a ta) (hb : PE X b tb) (hm : behindInMarks op b = false) : PT X (.Compare a [op] [b] pos) (tTest (tOp r ta tb)) := by
  intro pins s σ H Q I h
  refine wpAny_isTrue_Compare1 (thn (ha pins s σ H _ I h) fun v s1 ⟨x, H1, I1, r1, q1⟩ => thn (hb pins s1 σ H1 _ I1 q1) fun u s2 ⟨y, H2, I2, r2, q2⟩ =>
    thn (ho pins s2 σ H2 x y v u _ I2 r1 r2 q2) fun c s3 ⟨z, H3, I3, r3, k, e, q3⟩ => ?_) hm
  subst e
  cases r3
  exact wpAny_truthy_bool ⟨H3, I3, q3⟩
def tChain (r r' : R2) (ta tb tc : TE) : TE := fun σ H Q => ta σ H fun x H1 => tb σ H1 fun y H2 => r x y H2 fun z H3 => ∃ k, z = .bl k ∧
  (if k = true then tc σ H3 fun w' H4 => r' y w' H4 Q else Q (.bl false) H3)
theorem pe_chain {op op' : CmpOp} {r r' : R2} (ho : OpR X (compareOp op) r) (ho' : OpR X (compareOp op') r') (ha : PE X a ta) (hb : PE X b tb) (hc : PE X c tc)
    (hm : lastMarks [op, op'] [b, c] = false := by with_unfolding_all rfl) : PE X (.Compare a [op, op'] [b, c] pos) (tChain r r' ta tb tc) := by
  intro pins s σ H Q I h
  refine Compare_chain (thn (ha pins s σ H _ I h) fun v s1 ⟨x, H1, I1, r1, q1⟩ => chain_link (thn (hb pins s1 σ H1 _ I1 q1) fun u s2 ⟨y, H2, I2, r2, q2⟩ =>
    thn (ho pins s2 σ H2 x y v u _ I2 r1 r2 q2) fun d s3 ⟨z, H3, I3, r3, k, e, q3⟩ => ?_)) hm
  subst e
  cases r3
  refine wpAny_truthy_bool ?_
  cases k with
  | false => exact ite_ff ⟨.bl false, H3, I3, rfl, q3⟩
  | true => exact ite_tt (chain_last (thn (hc pins s3 σ H3 _ I3 q3) fun w' s4 ⟨z', H4, I4, r4, q4⟩ => ho' pins s4 σ H4 y z' u w' Q I4 r2 r4 q4))
theorem pt_chain {op op' : CmpOp} {r r' : R2} (ho : OpR X (compareOp op) r) (ho' : OpR X (compareOp op') r') (ha : PE X a ta) (hb : PE X b tb) (hc : PE X c tc)
    (hm : lastMarks [op, op'] [b, c] = false := by with_unfolding_all rfl) : PT X (.Compare a [op, op'] [b, c] pos) (tTest (tChain r r' ta tb tc)) := by
  intro pins s σ H Q I h
  refine isTrue_chain (thn (ha pins s σ H _ I h) fun v s1 ⟨x, H1, I1, r1, q1⟩ => test_link (thn (hb pins s1 σ H1 _ I1 q1) fun u s2 ⟨y, H2, I2, r2, q2⟩ =>
    thn (ho pins s2 σ H2 x y v u _ I2 r1 r2 q2) fun d s3 ⟨z, H3, I3, r3, k, e, q3⟩ => ?_)) hm
  subst e
  cases r3
  refine wpAny_truthy_bool ?_
  cases k with
  | false =>
    obtain ⟨k', e', q'⟩ := q3
    cases e'
    exact ite_ff ⟨H3, I3, q'⟩
  | true =>
    refine ite_tt (test_last (thn (hc pins s3 σ H3 _ I3 q3) fun w' s4 ⟨z', H4, I4, r4, q4⟩ => thn (ho' pins s4 σ H4 y z' u w' _ I4 r2 r4 q4) fun d' s5 ⟨z2, H5, I5, r5, k2, e2, q5⟩ => ?_))
    subst e2
    cases r5
    exact wpAny_truthy_bool ⟨H5, I5, q5⟩
theorem line63 : (sizeLine : Nat) < 2 ^ 63 := by rw [sizeLine_eq]; decide
theorem vals1 {x : V} {us : List Value} (r : Vals [x] us) : ∃ u, us = [u] ∧ RelV x u := by
  cases r with
  | cons r1 r2 => cases r2; exact ⟨_, rfl, r1⟩
theorem vals2 {x y : V} {us : List Value} (r : Vals [x, y] us) : ∃ u w', us = [u, w'] ∧ RelV x u ∧ RelV y w' := by
  cases r with
  | cons r1 r2 =>
    cases r2 with
    | cons r3 r4 => cases r4; exact ⟨_, _, rfl, r1, r3⟩
theorem call_max2 (hc : X.calm = true) : CallR X (.builtin "max") (fun xs H Q => ∃ i j, xs = [.int i, .int j] ∧ Q (.int (if j > i then j else i)) H) := by
  intro pins s σ H xs us Q I r h
  obtain ⟨i, j, rfl, q⟩ := h
  obtain ⟨u, w', rfl, ⟨t, rfl⟩, ⟨t', rfl⟩⟩ := vals2 r
  refine max_two_ints (I.ok.hd hc) fun h' tk k => ⟨_, H, I.kept k, ?_, q⟩
  by_cases hj : j > i
  · rw [if_pos hj, if_pos hj]; exact ⟨_, rfl⟩
  · rw [if_neg hj, if_neg hj]; exact ⟨_, rfl⟩
theorem call_min2 (hc : X.calm = true) : CallR X (.builtin "min") (fun xs H Q => ∃ i j, xs = [.int i, .int j] ∧ Q (.int (if j < i then j else i)) H) := by
  intro pins s σ H xs us Q I r h
  obtain ⟨i, j, rfl, q⟩ := h
  obtain ⟨u, w', rfl, ⟨t, rfl⟩, ⟨t', rfl⟩⟩ := vals2 r
  refine min_two_ints (I.ok.hd hc) fun h' tk k => ⟨_, H, I.kept k, ?_, q⟩
  by_cases hj : j < i
  · rw [if_pos hj, if_pos hj]; exact ⟨_, rfl⟩
  · rw [if_neg hj, if_neg hj]; exact ⟨_, rfl⟩
theorem call_int1 : CallR X (.type "int") (fun xs H Q => (∃ i, xs = [.int i] ∧ Q (.int i) H) ∨ ∃ k, xs = [.bl k] ∧ Q (.int (if k then 1 else 0)) H) := by
  intro pins s σ H xs us Q I r h
  rcases h with ⟨i, rfl, q⟩ | ⟨k, rfl, q⟩
  · obtain ⟨u, rfl, t, rfl⟩ := vals1 r
    exact call_int_int ⟨.int i, H, I, ⟨_, rfl⟩, q⟩
  · obtain ⟨u, rfl, r1⟩ := vals1 r
    cases r1
    exact call_int_bool ⟨.int (if k then 1 else 0), H, I.tok _, ⟨_, rfl⟩, q⟩
end
end L2
namespace L2
open PySem PySem.Spec PyProof.Rows
structure ObjM (h : Heap) (x dx C : Addr) (mA : Str → Option Value) : Prop where
  obj : h.get? x = some (PySem.W.instObj C dx)
  ns : h.Ns1 dx mA
  ne : dx ≠ x
theorem lookIn_ns {h : Heap} {dx : Addr} {mA : Str → Option Value} (n : h.Ns1 dx mA) : ∃ od, h.get? dx = some od ∧ ∀ name, PySem.W.lookIn name od = some (mA name) := by
  obtain ⟨o, es, ep, ho, hd, hk, _, hm⟩ := n
  refine ⟨o, ho, fun name => ?_⟩
  have e := hm name
  unfold nsFind findBy at e
  rw [← Array.find?_toList] at e
  unfold PySem.W.lookIn
  rw [hd]
  dsimp only
  split
  · rename_i y q
    rw [q] at e
    exact congrArg some e
  · rename_i q
    rw [q] at e
    have a : es.toList.any (·.refKey) = false := by
      rw [List.any_eq_false]
      intro y hy
      obtain ⟨z, t, hkey⟩ := hk y (Array.mem_toList_iff.mp hy)
      simp [DictEntry.refKey, hkey]
    have a' : ¬ es.toList.any (·.refKey) = true := by rw [a]; exact Bool.false_ne_true
    rw [if_neg a']
    exact congrArg some e
theorem ObjM.look {h : Heap} {x dx C : Addr} {mA : Str → Option Value} (I : ObjM h x dx C mA) : ∃ od, PySem.W.InstAt h x (PySem.W.instObj C dx) C (some od) ∧ ∀ name, PySem.W.lookIn name od = some (mA name) :=
  let ⟨od, ho, hl⟩ := lookIn_ns I.ns
  ⟨od, ⟨I.obj, rfl, rfl, ho⟩, hl⟩
section
variable {prog : Program} {w : World} {A : Around} {E : Value → Shared → Prop} {s : Shared} {K : PySem.W.Frag} {x dx C f : Addr} {mA : Str → Option Value} {name : Str} {v : Value}
theorem get_map {expr : Bool} {Q : Value → Shared → Prop} (X : K.In s.heap) (I : ObjM s.heap x dx C mA) (hg : PySem.W.plainGet K C name = true) (hh : PySem.W.hasDictIn K C = true)
    (ha : PySem.W.findIn K (.ref C) name = some none) (hv : mA name = some v) (hv' : PySem.W.handedIn v = true) (h : Q v { s with toks := s.toks + 1 }) :
    wpAny (model prog w) A (getAttr (.ref x) name expr) Q E s := by
  obtain ⟨od, J, hl⟩ := I.look
  exact PySem.W.get_value X J (PySem.W.plainGet_of hg).1 (PySem.W.findObj_own hh ha rfl (by rw [hl, hv])) hv' h
theorem set_map {ns : List Str} {Q : Unit → Shared → Prop} (X : K.In s.heap) (I : ObjM s.heap x dx C mA)
    (hs : PySem.W.findIn K (.ref C) "__setattr__" = some (some (.builtin "object.__setattr__"))) (hp : PySem.W.plainOver K C = true) (ht : PySem.W.takerIn K C name = some none) (hh : PySem.W.hasDictIn K C = true)
    (hw : PySem.Within mA ns) (hsz : ns.length ≤ sizeLine)
    (h : ∀ h', ObjM h' x dx C (fun y => if y = name then some v else mA y) → Heap.SameBut dx s.heap h' → Q () { s with heap := h', toks := s.toks + 2 }) :
    wpAny (model prog w) A (setAttr (.ref x) name v) Q E s := by
  obtain ⟨od, J, hl⟩ := I.look
  refine PySem.W.set_plain X J hs (PySem.W.osa_open (s := { s with toks := s.toks + 1 }) (r := none) X J hp ht fun b => ?_)
  obtain ⟨cd, hc, hd'⟩ := PySem.W.any_some hh
  have hx : s.heap.get? x = some ⟨.ref C, some dx, .plain, #[]⟩ := I.obj
  refine wpAny_bind (wpAny_pure (wpAny_bind (wpAny_bind (wpAny_loadPart hx (wpAny_bind (PySem.W.Looks.here (s := { s with toks := s.toks + 1 }) (PySem.W.looks_clsIn X hc) ?_))))))
  rw [hd']
  refine wpAny_pure (a := some dx) (wpAny_bind (wpAny_pure (wpAny_bind ?_)))
  refine wpAny_nsSet1 (s := { s with toks := s.toks + 1 }) I.ns fun h' hn2 hs2 => ?_
  obtain ⟨oD, esD, epD, hoD, hdD, hcD⟩ := hn2.count (PySem.Within.cons name v hw)
  refine wpAny_bind (wpAny_lookBehind hoD (by rw [hdD]; exact pastItsLine_dict (Nat.le_trans hcD (by rw [List.length_cons]; omega))) ?_)
  exact wpAny_pure (h _ ⟨(hs2.2 _ (Ne.symm I.ne)).trans I.obj, hn2, I.ne⟩ hs2)
theorem make_map {R : Result → Shared → Prop} {vs : List Value} {kw : List (Str × Value)} (X : K.In s.heap) (hm : PySem.W.makesIn K C = true)
    (hi : PySem.W.findIn K (.ref C) "__init__" = some (some (.ref f))) (hf : PySem.W.typeIn K (.ref f) = some (.type "function"))
    (h : codeAny (model prog w) (A.under (.builtin "type.__call__" ⟨.ref C :: vs, kw⟩)) (.call (.ref f) ⟨.ref (s.heap.objs.size + 1) :: vs, kw⟩) (PySem.W.InitBack (s.heap.objs.size + 1) R)
      { s with heap := (s.heap.push PySem.W.emptyDict).push (PySem.W.instObj C s.heap.objs.size) }) :
    codeAny (model prog w) A (.call (.ref C) ⟨vs, kw⟩) R s := by
  obtain ⟨hh, g, d, t, os⟩ := s
  exact PySem.W.make_core (PySem.W.makes_of X hm) (PySem.W.looks_findIn X hi) (fun self => PySem.W.bind_fn X self hf) (.inl rfl) h
end
def putF (f : Str) (v : V) : List (Str × V) → List (Str × V)
  | [] => [(f, v)]
  | (g, x) :: r => if g = f then (g, v) :: r else (g, x) :: putF f v r
theorem lookup_putF (f g : Str) (v : V) : ∀ fs : List (Str × V), (putF f v fs).lookup g = if g = f then some v else fs.lookup g
  | [] => by
    show List.lookup g [(f, v)] = _
    by_cases h : g = f
    · have hb : (g == f) = true := beq_iff_eq.mpr h
      simp only [List.lookup, hb, if_pos h]
    · have hb : (g == f) = false := beq_eq_false_iff_ne.mpr h
      simp only [List.lookup, hb, if_neg h]
  | (k, x) :: r => by
    have ih := lookup_putF f g v r
    rw [show putF f v ((k, x) :: r) = (if k = f then (k, v) :: r else (k, x) :: putF f v r) from rfl]
    by_cases hk : k = f
    · rw [if_pos hk]
      by_cases h : g = k
      · have hb : (g == k) = true := beq_iff_eq.mpr h
        simp only [List.lookup, hb, if_pos (h.trans hk)]
      · have hb : (g == k) = false := beq_eq_false_iff_ne.mpr h
        simp only [List.lookup, hb, if_neg (fun e : g = f => h (e.trans hk.symm))]
    · rw [if_neg hk]
      by_cases h : g = k
      · have hb : (g == k) = true := beq_iff_eq.mpr h
        simp only [List.lookup, hb, if_neg (fun e : g = f => hk (h.symm.trans e))]
      · have hb : (g == k) = false := beq_eq_false_iff_ne.mpr h
        simp only [List.lookup, hb]
        exact ih
theorem keys_putF (f : Str) (v : V) : ∀ fs : List (Str × V), f ∈ (putF f v fs).map (·.1) ∧ ∀ g, g ∈ fs.map (·.1) → g ∈ (putF f v fs).map (·.1)
  | [] => ⟨by simp [putF], fun g h => by simp at h⟩
  | (k, x) :: r => by
    obtain ⟨i1, i2⟩ := keys_putF f v r
    rw [show putF f v ((k, x) :: r) = (if k = f then (k, v) :: r else (k, x) :: putF f v r) from rfl]
    by_cases hk : k = f
    · rw [if_pos hk]
      subst hk
      exact ⟨by simp, fun g h => by simpa using h⟩
    · rw [if_neg hk]
      refine ⟨?_, fun g h => ?_⟩
      · rw [List.map_cons]
        exact List.mem_cons_of_mem _ i1
      · rw [List.map_cons] at h ⊢
        rcases List.mem_cons.mp h with e | e
        · exact List.mem_cons.mpr (.inl e)
        · exact List.mem_cons_of_mem _ (i2 g e)
theorem length_putF (f : Str) (v : V) : ∀ fs : List (Str × V), (putF f v fs).length ≤ fs.length + 1
  | [] => by simp [putF]
  | (k, x) :: r => by
    have ih := length_putF f v r
    rw [show putF f v ((k, x) :: r) = (if k = f then (k, v) :: r else (k, x) :: putF f v r) from rfl]
    by_cases hk : k = f
    · rw [if_pos hk, List.length_cons, List.length_cons]; omega
    · rw [if_neg hk, List.length_cons, List.length_cons]; omega
theorem RelO.some_of {v : V} {o : Option Value} (r : RelO (some v) o) : ∃ u, o = some u ∧ RelV v u := by
  cases o with
  | none => exact (show False from r).elim
  | some u => exact ⟨u, rfl, r⟩
theorem handed_of {v : V} {u : Value} (r : RelV v u) : PySem.W.handedIn u = true := by
  cases v with
  | non => cases (show u = Value.none from r); rfl
  | bl b => cases (show u = Value.bool b from r); rfl
  | int i => obtain ⟨t, e⟩ := (show ∃ t, u = Value.int i t from r); cases e; rfl
  | str x => obtain ⟨t, e⟩ := (show ∃ t, u = Value.str x t from r); cases e; rfl
  | byt b => obtain ⟨t, e⟩ := (show ∃ t, u = Value.bytes b t from r); cases e; rfl
  | flt b => obtain ⟨t, e⟩ := (show ∃ t, u = Value.float b t from r); cases e; rfl
  | ref a => cases (show u = Value.ref a from r); rfl
  | ty n => cases (show u = Value.type n from r); rfl
section
variable {P : Program} {w : World} {H H' : Hp} {h h' : Heap} {a C dx : Addr} {fs fs' : List (Str × V)}
theorem ins_get (hok : HOk P w H h) (e : H a = some (.ins C dx fs)) : ∃ mA, ObjM h a dx C mA ∧ (∀ f, RelO (fs.lookup f) (mA f)) ∧ PySem.Within mA (fs.map (·.1)) ∧ fs.length ≤ 1000 ∧ H dx = some (.own a) := by
  obtain ⟨d, z, ne, ob, mA, n, r, q⟩ := (show ObjOk P w H h a (.ins C dx fs) from hok a _ e)
  exact ⟨mA, ⟨ob, n, ne⟩, r, q, z, d⟩
end
structure Cls (K : PySem.W.Frag) (C : Addr) : Prop where
  pg : PySem.W.plainGet K C Str.empty = true
  hd : PySem.W.hasDictIn K C = true
  po : PySem.W.plainOver K C = true
  sa : PySem.W.findIn K (.ref C) "__setattr__" = some (some (.builtin "object.__setattr__"))
theorem Cls.get {K : PySem.W.Frag} {C : Addr} (c : Cls K C) (f : Str) : PySem.W.plainGet K C f = true := c.pg
def NoAttr (K : PySem.W.Frag) (C : Addr) (f : Str) : Prop := PySem.W.findIn K (.ref C) f = some none
theorem NoAttr.taker {K : PySem.W.Frag} {C : Addr} {f : Str} (n : NoAttr K C f) : PySem.W.takerIn K C f = some none := by
  unfold PySem.W.takerIn
  rw [show PySem.W.findIn K (.ref C) f = some none from n]
  rfl
structure Con (K : PySem.W.Frag) (C : Addr) (f : Str) (v : V) (u : Value) : Prop where
  at_ : PySem.W.findIn K (.ref C) f = some (some u)
  rel : RelV v u
  get : PySem.W.specialIn K u "__get__" = some none
  cp : PySem.W.copiedNames.contains f = false
structure Meth (K : PySem.W.Frag) (C : Addr) (m : Str) (f : Addr) : Prop where
  at_ : PySem.W.findIn K (.ref C) m = some (some (.ref f))
  fn : PySem.W.isFn K (.ref f) = true
  kp : PySem.W.keepIn K (.ref f) = true
section
variable {X : Cx} {pins : List (Addr × Obj)} {σ : St} {H : Hp} {s : Shared} {a C dx : Addr} {fs : List (Str × V)} {f : Str} {v : V} {A : Around} {E : Value → Shared → Prop}
theorem getattr_ok {b : Bool} {Q : Value → Shared → Prop} (I : Inv X pins σ H s) (e : H a = some (.ins C dx fs)) (c : Cls X.K C) (n : NoAttr X.K C f) (l : fs.lookup f = some v)
    (h : ∀ u s', Inv X pins σ H s' → RelV v u → Q u s') : wpAny (model X.prog X.w) A (getAttr (.ref a) f b) Q E s := by
  obtain ⟨mA, O, r, _, _, _⟩ := ins_get I.hok e
  obtain ⟨u, hu, ru⟩ := RelO.some_of (v := v) (o := mA f) (by rw [← l]; exact r f)
  exact get_map I.kIn O (c.get f) c.hd n hu (handed_of ru) (h u _ (I.tok _) ru)
theorem setattr_ok {y : V} {u : Value} {Q : Unit → Shared → Prop} (I : Inv X pins σ H s) (e : H a = some (.ins C dx fs)) (c : Cls X.K C) (n : NoAttr X.K C f) (hl : fs.length < 1000) (ry : RelV y u)
    (h : ∀ s', Inv X pins σ (upd H a (.ins C dx (putF f y fs))) s' → Q () s') : wpAny (model X.prog X.w) A (setAttr (.ref a) f u) Q E s := by
  obtain ⟨mA, O, r, wi, _, ho⟩ := ins_get I.hok e
  have hz : (fs.map (·.1)).length ≤ sizeLine := by rw [List.length_map, sizeLine_eq]; omega
  refine set_map I.kIn O c.sa c.po n.taker c.hd wi hz fun h' O' sb => h _ ?_
  have hd : ∃ o, h'.get? dx = some o := let ⟨o, _, _, e', _⟩ := O'.ns; ⟨o, e'⟩
  refine I.write (x := a) (e := dx) (by rw [e]; exact True.intro) (.inr ho) (fun b q hb z => (sb.2 b hb).trans z) hd ?_
  refine ⟨by rw [upd_ne O.ne]; exact ho, ?_, O.ne, O'.obj, _, O'.ns, fun g => ?_, fun g hg => ?_⟩
  · have := length_putF f y fs; omega
  · show RelO ((putF f y fs).lookup g) (if g = f then some u else mA g)
    rw [lookup_putF]
    by_cases q : g = f
    · rw [if_pos q, if_pos q]; exact ry
    · rw [if_neg q, if_neg q]; exact r g
  · by_cases q : g = f
    · rw [q]; exact (keys_putF f y fs).1
    · refine (keys_putF f y fs).2 g (wi g fun z => hg ?_)
      show (if g = f then some u else mA g) = none
      rw [if_neg q]; exact z
theorem Inv.made (I : Inv X pins σ H s) : Inv X pins σ (upd (upd H s.heap.objs.size (.own (s.heap.objs.size + 1))) (s.heap.objs.size + 1) (.ins C s.heap.objs.size []))
    { s with heap := (s.heap.push PySem.W.emptyDict).push (PySem.W.instObj C s.heap.objs.size) } := by
  have e1 : (s.heap.push PySem.W.emptyDict).get? s.heap.objs.size = some PySem.W.emptyDict := Heap.get?_push_size s.heap rfl
  have e2 : ((s.heap.push PySem.W.emptyDict).push (PySem.W.instObj C s.heap.objs.size)).get? (s.heap.objs.size + 1) = some (PySem.W.instObj C s.heap.objs.size) := by
    have := Heap.get?_push_size (s.heap.push PySem.W.emptyDict) (o := PySem.W.instObj C s.heap.objs.size) rfl
    rwa [Heap.size_push] at this
  have e3 : (s.heap.push PySem.W.emptyDict).Ns s.heap.objs.size (fun _ => none) := ⟨PySem.W.emptyDict, #[], _, e1, rfl, (fun e he => absurd he (by simp)), fun _ => rfl⟩
  have I1 := I.laid (a := s.heap.objs.size) (o := .own (s.heap.objs.size + 1)) (h' := s.heap.push PySem.W.emptyDict) (t' := s.toks) (fun b u q => Heap.get?_push_of_some _ q) (Nat.le_refl _) ⟨_, e1⟩
  refine I1.laid (a := s.heap.objs.size + 1) (o := .ins C s.heap.objs.size []) (t' := s.toks) (fun b u q => Heap.get?_push_of_some _ q) (Nat.le_of_eq (Heap.size_push _ _)) ?_
  have ne : s.heap.objs.size ≠ s.heap.objs.size + 1 := Nat.ne_of_lt (Nat.lt_succ_self _)
  refine ⟨by rw [upd_ne ne, upd_same], Nat.zero_le _, ne, e2, fun _ => none, (Heap.Ns1.of_empty e3).at fun o q => Heap.get?_push_of_some _ q, fun _ => True.intro, fun y hy => absurd rfl hy⟩
theorem attr_of {prog : Program} {w : World} {env : Env} {e : Expr} {f : Str} {pos : Pos} {s : Shared} {Q : Value → Shared → Prop} (hb : attributeBase e f env (eval e env) = eval e env)
    (h : wpAny (model prog w) A (eval e env) (fun o s₁ => wpAny (model prog w) A (getAttr o f true) Q E s₁) E s) : wpAny (model prog w) A (eval (.Attribute e f pos) env) Q E s :=
  Attribute_any_ h (by rw [arm_eval_Attribute, hb])
end
def tFld (K : PySem.W.Frag) (ta : TE) (f : Str) : TE := fun σ H Q => ta σ H fun x H1 => ∃ a C dx fs v, x = .ref a ∧ H1 a = some (.ins C dx fs) ∧ Cls K C ∧ NoAttr K C f ∧ fs.lookup f = some v ∧ Q v H1
def sFld (K : PySem.W.Frag) (ta tv : TE) (f : Str) : TS := fun D σ H => tv σ H fun y H1 => ta σ H1 fun x H2 => ∃ a C dx fs, x = .ref a ∧ H2 a = some (.ins C dx fs) ∧ Cls K C ∧ NoAttr K C f ∧ fs.length < 1000 ∧
  D.nx σ (upd H2 a (.ins C dx (putF f y fs)))
section
variable {X : Cx} {o e value : Expr} {f : Str} {pos pos' tpos : Pos} {ta tv : TE}
theorem pe_fld (he : PE X e ta) (hb : attributeBase e f X.env (eval e X.env) = eval e X.env) : PE X (.Attribute e f pos) (tFld X.K ta f) := by
  intro pins s σ H Q I h
  refine attr_of hb (thn (he pins s σ H _ I h) fun u s1 ⟨x, H1, I1, rx, a, C, dx, fs, v, ex, ea, c, n, l, q⟩ => ?_)
  subst ex
  obtain rfl : u = Value.ref a := rx
  exact getattr_ok I1 ea c n l fun u' s2 I2 ru => ⟨v, H1, I2, ru, q⟩
theorem ps_fld (ha : PE X o ta) (hv : PE X value tv) (hs : swapsWith value (some (.Attribute o f pos')) pos.line X.env = pure false) : PS X (.Assign [.Attribute o f pos'] value pos) (sFld X.K ta tv f) := by
  intro pins s σ H D I h
  refine plainObj_wpAny_Assign_Attribute (thn (hv pins s σ H _ I h) fun u s1 ⟨y, H1, I1, ry, q⟩ => thn (ha pins s1 σ H1 _ I1 q) fun ov s2 ⟨x, H2, I2, rx, a, C, dx, fs, ex, ea, c, n, l, q2⟩ => ?_) hs
  subst ex
  obtain rfl : ov = Value.ref a := rx
  exact setattr_ok I2 ea c n l ry fun s3 I3 => ⟨σ, _, I3, q2⟩
end
section
variable {X : Cx} {pins : List (Addr × Obj)} {σ : St} {H : Hp} {s : Shared} {A : Around} {E : Value → Shared → Prop} {Q : Value → Shared → Prop} {c : Value} {b : Bool}
inductive TyOf (K : PySem.W.Frag) (H : Hp) : V → Value → Prop where
  | non : TyOf K H .non (.type "NoneType")
  | bl (x : Bool) : TyOf K H (.bl x) (.type "bool")
  | int (i : Int) : TyOf K H (.int i) (.type "int")
  | str (x : Str) : TyOf K H (.str x) (.type "str")
  | flt (x : UInt64) : TyOf K H (.flt x) (.type "float")
  | lst {a : Addr} {xs : List V} (e : H a = some (.lst xs)) : TyOf K H (.ref a) (.type "list")
  | frz {a : Addr} {o : Obj} {xs : List V} (e : H a = some (.frz o (.lst xs))) : TyOf K H (.ref a) (.type "list")
  | tup {a : Addr} {xs : List V} (e : H a = some (.tup xs)) : TyOf K H (.ref a) (.type "tuple")
  | dK {a : Addr} {kvs : List (Key × V)} (e : H a = some (.dK kvs)) : TyOf K H (.ref a) (.type "dict")
  | dT {a : Addr} {kvs : List (List Key × V)} (e : H a = some (.dT kvs)) : TyOf K H (.ref a) (.type "dict")
  | ins {a C dx : Addr} {fs : List (Str × V)} (e : H a = some (.ins C dx fs)) (cl : Cls K C) (ha : PySem.W.findIn K (.ref C) "__class__" = some (some (.builtin "object.__class__")))
      (hn : PySem.W.specialIn K (.builtin "object.__class__") "__get__" = some (some (.builtin "getset_descriptor.__get__"))) (htk : PySem.W.takesIn K (.builtin "object.__class__") = some true)
      (hm : PySem.W.mroIn K C (.type "object") = some true) : TyOf K H (.ref a) (.ref C)
theorem isinst_ok {x : V} {u t : Value} (I : Inv X pins σ H s) (rx : RelV x u) (ty : TyOf X.K H x t) (e : PySem.W.kitOne X.K t c = some b) (h : ∀ tk, Q (.bool b) { s with toks := tk }) :
    wpAny (model X.prog X.w) A (call (.builtin "isinstance") [u, c]) Q E s := by
  cases ty with
  | non => cases (show u = Value.none from rx); exact PySem.W.kia_one PySem.W.kitx_none I.kIn True.intro e (fun z => nomatch z) h
  | bl y => cases (show u = Value.bool y from rx); exact PySem.W.kia_one PySem.W.kitx_bool I.kIn True.intro e (fun z => nomatch z) h
  | int i => obtain ⟨t, q⟩ := (show ∃ t, u = Value.int i t from rx); cases q; exact PySem.W.kia_one PySem.W.kitx_int I.kIn True.intro e (fun z => nomatch z) h
  | str y => obtain ⟨t, q⟩ := (show ∃ t, u = Value.str y t from rx); cases q; exact PySem.W.kia_one PySem.W.kitx_str I.kIn True.intro e (fun z => nomatch z) h
  | flt y => obtain ⟨t, q⟩ := (show ∃ t, u = Value.float y t from rx); cases q; exact PySem.W.kia_one PySem.W.kitx_float I.kIn True.intro e (fun z => nomatch z) h
  | @lst a xs ea =>
    cases (show u = Value.ref a from rx)
    obtain ⟨_, _, n, _, h1⟩ := (show ObjOk X.prog X.w H s.heap a (.lst xs) from I.hok a _ ea)
    exact PySem.W.kia_one PySem.W.kitx_list I.kIn ⟨_, h1, rfl⟩ e (fun z => nomatch z) h
  | @frz a ob xs ea =>
    cases (show u = Value.ref a from rx)
    obtain ⟨_, _, _, n, _, h1⟩ := (show ObjOk X.prog X.w H s.heap a (.frz ob (.lst xs)) from I.hok a _ ea)
    exact PySem.W.kia_one PySem.W.kitx_list I.kIn ⟨_, h1, rfl⟩ e (fun z => nomatch z) h
  | @tup a xs ea =>
    cases (show u = Value.ref a from rx)
    obtain ⟨_, _, _, p⟩ := (show ObjOk X.prog X.w H s.heap a (.tup xs) from I.hok a _ ea)
    obtain ⟨o, h1, h2, _⟩ := p
    exact PySem.W.kia_one PySem.W.kitx_tuple I.kIn ⟨o, h1, h2⟩ e (fun z => nomatch z) h
  | @dK a kvs ea =>
    cases (show u = Value.ref a from rx)
    obtain ⟨_, _, vs, _, p⟩ := (show ObjOk X.prog X.w H s.heap a (.dK kvs) from I.hok a _ ea)
    obtain ⟨o, es, ep, h1, h2, _⟩ := p
    exact PySem.W.kia_one PySem.W.kitx_dict I.kIn ⟨o, h1, h2.1⟩ e (fun z => nomatch z) h
  | @dT a kvs ea =>
    cases (show u = Value.ref a from rx)
    obtain ⟨_, _, xs, _, o, es, ep, h1, h2, _⟩ := (show ObjOk X.prog X.w H s.heap a (.dT kvs) from I.hok a _ ea)
    exact PySem.W.kia_one PySem.W.kitx_dict I.kIn ⟨o, h1, h2.1⟩ e (fun z => nomatch z) h
  | @ins a C dx fs ea cl ha hn htk hm =>
    cases (show u = Value.ref a from rx)
    obtain ⟨mA, O, _⟩ := ins_get I.hok ea
    obtain ⟨od, J, _⟩ := O.look
    exact PySem.W.kia_one (PySem.W.kitx_own (cl.get _) cl.hd ha hn htk hm) I.kIn J e (fun z => nomatch z) h
end
end L2
namespace L2
open PySem PySem.Spec PyProof.Rows
structure Room (k : Nat) (A : Around) : Prop where
  hd : A.handled = none
  dp : A.depth + 3 * k + 5 < recursionLimit
  un : A.units + 16 * k + 200 < cLine
theorem Room.mono {j k : Nat} {A : Around} (r : Room k A) (h : j ≤ k) : Room j A := ⟨r.hd, by have := r.dp; omega, by have := r.un; omega⟩
theorem Room.deeper {k : Nat} {A : Around} (r : Room (k + 1) A) (env : Env) : Room k (A.deeper env) :=
  ⟨r.hd, by have := r.dp; show A.depth + 1 + 3 * k + 5 < _; omega, by have := r.un; show A.units + 3 + 16 * k + 200 < _; omega⟩
theorem Room.in1 {k : Nat} {A : Around} (r : Room (k + 1) A) : Room k A.in1 :=
  ⟨r.hd, by have := r.dp; show A.depth + 3 * k + 5 < _; omega, by have := r.un; show A.units + 1 + 16 * k + 200 < _; omega⟩
theorem make_depth {A : Around} {C : Addr} {us : List Value} {kw : List (Str × Value)} : (A.under (.builtin "type.__call__" ⟨.ref C :: us, kw⟩)).depth = A.depth + 1 := by
  first | rfl | simp [Around.under, Code.weight, Code.isCreation, Code.isGuard, Code.isCaller, Code.frames, Code.isFrame, guardIds]
theorem make_units {A : Around} {C : Addr} {us : List Value} {kw : List (Str × Value)} : (A.under (.builtin "type.__call__" ⟨.ref C :: us, kw⟩)).units = A.units + 1 := by
  first | rfl | simp [Around.under, Code.cUnits, Code.frames, Code.isFrame]
theorem Room.make {k : Nat} {A : Around} (r : Room (k + 1) A) (C : Addr) (us : List Value) (kw : List (Str × Value)) : Room k (A.under (.builtin "type.__call__" ⟨.ref C :: us, kw⟩)) :=
  ⟨r.hd, by have := r.dp; rw [make_depth]; omega, by have := r.un; rw [make_units]; omega⟩
theorem Room.depth {k : Nat} {A : Around} (r : Room k A) : A.depth < recursionLimit := by have := r.dp; omega
theorem Room.units {k : Nat} {A : Around} (r : Room k A) : A.units + 64 < cLine := by have := r.un; omega
def tNil : TA := fun _ H Q => Q [] H
def tCons (ta : TE) (tr : TA) : TA := fun σ H Q => ta σ H fun x H1 => tr σ H1 fun xs H2 => Q (x :: xs) H2
section
variable {X : Cx} {e : Expr} {es : List Expr} {te : TE} {t : TA} {pos : Pos}
theorem pa_nil : PA X [] tNil := fun _ _ _ _ H Q I h => Calls.spliced_nil ⟨[], H, I, .nil, h⟩
theorem pa_cons (ha : PE X e te) (hr : PA X es t) (hs : starEach (e :: es) X.env = (false, eval e X.env) :: starEach es X.env := by rfl) : PA X (e :: es) (tCons te t) := by
  intro pos pins s σ H Q I h
  rw [hs]
  show wpAny _ _ (spliced ((false, eval e X.env) :: backTo pos (starEach es X.env))) _ _ s
  refine Calls.spliced_cons (thn (ha pins s σ H _ I h) fun u s1 ⟨x, H1, I1, r1, q1⟩ => ?_)
  exact thn (hr pos pins s1 σ H1 _ I1 q1) fun us s2 ⟨xs, H2, I2, r2, q2⟩ => ⟨x :: xs, H2, I2, .cons r1 r2, q2⟩
def tTup (t : TA) : TE := fun σ H Q => t σ H fun xs H1 => xs.length ≤ sizeLine ∧ ∀ p, H1 p = none → Q (.ref p) (upd H1 p (.tup xs))
def tLst (t : TA) : TE := fun σ H Q => t σ H fun xs H1 => xs.length ≤ sizeLine ∧ ∀ p, H1 p = none → Q (.ref p) (upd H1 p (.lst xs))
theorem pe_tup {x1} (h : PA X es t) : PE X (.Tuple es x1 pos) (tTup t) := by
  intro pins s σ H Q I hq
  refine wpAny_Tuple_spliced (thn (h pos pins s σ H _ I hq) fun us s1 ⟨xs, H1, I1, r, z, q⟩ => ⟨by rw [← r.length]; exact z, ?_⟩)
  have hf : H1 s1.heap.objs.size = none := I1.hok.fresh (Nat.le_refl _)
  refine ⟨.ref s1.heap.objs.size, upd H1 s1.heap.objs.size (.tup xs), I1.laid (t' := s1.toks) (fun b u e => Heap.get?_push_of_some _ e) (Nat.le_refl _) ?_, rfl, q _ hf⟩
  exact ⟨z, us, r, ⟨_, Heap.get?_push_size _ rfl, rfl, _, rfl⟩⟩
theorem pe_lst (h : PA X es t) : PE X (.List es pos) (tLst t) := by
  intro pins s σ H Q I hq
  refine wpAny_List_spliced (thn (h pos pins s σ H _ I hq) fun us s1 ⟨xs, H1, I1, r, z, q⟩ => ⟨by rw [← r.length]; exact z, ?_⟩)
  have hf : H1 s1.heap.objs.size = none := I1.hok.fresh (Nat.le_refl _)
  refine ⟨.ref s1.heap.objs.size, upd H1 s1.heap.objs.size (.lst xs), I1.laid (t' := s1.toks) (fun b u e => Heap.get?_push_of_some _ e) (Nat.le_refl _) ?_, rfl, q _ hf⟩
  exact ⟨z, us, 0, r, Heap.get?_push_size _ rfl⟩
end
abbrev Sp := List V → Hp → VK → XK → Prop
abbrev CXT := List Env → Hp → Shared → XK → Value → Shared → Prop
structure Env0 (P : Program) (w : World) (K : PySem.W.Frag) (mg : Str → Option Value) (base : Heap) (A : Around) (outer : List Env) (s : Shared) (H : Hp) : Prop where
  frames : A.frames = some outer
  mod : Mod K mg base
  bs : ∀ b o, base.get? b = some o → s.heap.get? b = some o ∧ H b = none
  bsz : base.objs.size ≤ s.heap.objs.size
  funs : s.heap.FunFrames base outer
  frf : ∀ b ∈ frs outer, H b = none
  hok : HOk P w H s.heap
  bare : AllBare s.gens
def CE (outer : List Env) (P : Program) (w : World) (H : Hp) (s : Shared) (Q : VK) (u : Value) (s' : Shared) : Prop :=
  ∃ v H', s'.os = s.os ∧ AllBare s'.gens ∧ Un (frs outer) [] H H' s.heap s'.heap ∧ HOk P w H' s'.heap ∧ RelV v u ∧ Q v H'
def CR (CX : CXT) (outer : List Env) (P : Program) (w : World) (H : Hp) (s : Shared) (Q : VK) (E : XK) (r : Result) (s' : Shared) : Prop :=
  match r with
  | .ok (.ret u) => CE outer P w H s Q u s'
  | .ok _ => False
  | .error e => CX outer H s E e s'
structure FnOk (P : Program) (w : World) (K : PySem.W.Frag) (mg : Str → Option Value) (base : Heap) (CX : CXT) (k : Nat) (f : Addr) (fd : FuncData) (ps : List Str) (sp : Sp) : Prop where
  len : ∀ vs H Q E, sp vs H Q E → vs.length = ps.length
  run : ∀ (A : Around) (outer : List Env) (s : Shared) (H : Hp) (args : Args) (us : List Value) (vs : List V) (Q : VK) (E : XK), Room k A → Env0 P w K mg base A outer s H → BindsTo s fd args (ps.zip us) → Vals vs us → sp vs H Q E →
    codeAny (model P w) A (.call (.ref f) args) (CR CX outer P w H s Q E) s
theorem FnOk.mono {P : Program} {w : World} {K : PySem.W.Frag} {mg : Str → Option Value} {base : Heap} {CX : CXT} {j k : Nat} {f : Addr} {fd : FuncData} {ps : List Str} {sp : Sp} (F : FnOk P w K mg base CX j f fd ps sp) (h : j ≤ k) :
    FnOk P w K mg base CX k f fd ps sp := ⟨F.len, fun A outer s H args us vs Q E hr => F.run A outer s H args us vs Q E (hr.mono h)⟩
theorem FnOk.imp {P : Program} {w : World} {K : PySem.W.Frag} {mg : Str → Option Value} {base : Heap} {CX : CXT} {k : Nat} {f : Addr} {fd : FuncData} {ps : List Str} {sp sp' : Sp} (F : FnOk P w K mg base CX k f fd ps sp)
    (h : ∀ vs H Q E, sp' vs H Q E → sp vs H Q E) : FnOk P w K mg base CX k f fd ps sp' :=
  ⟨fun vs H Q E q => F.len vs H Q E (h _ _ _ _ q), fun A outer s H args us vs Q E hr he hb hv hs => F.run A outer s H args us vs Q E hr he hb hv (h _ _ _ _ hs)⟩
theorem Env0.make {P : Program} {w : World} {K : PySem.W.Frag} {mg : Str → Option Value} {base : Heap} {A : Around} {outer : List Env} {s : Shared} {H : Hp} (e : Env0 P w K mg base A outer s H) (C : Addr) (us : List Value) (kw : List (Str × Value)) :
    Env0 P w K mg base (A.under (.builtin "type.__call__" ⟨.ref C :: us, kw⟩)) outer s H := ⟨by first | exact e.frames | (simpa [Around.under, Code.envs, Code.isFrame, pushEnvs] using e.frames), e.mod, e.bs, e.bsz, e.funs, e.frf, e.hok, e.bare⟩
theorem Env0.in1 {P : Program} {w : World} {K : PySem.W.Frag} {mg : Str → Option Value} {base : Heap} {A : Around} {outer : List Env} {s : Shared} {H : Hp} (e : Env0 P w K mg base A outer s H) :
    Env0 P w K mg base A.in1 outer s H := ⟨e.frames, e.mod, e.bs, e.bsz, e.funs, e.frf, e.hok, e.bare⟩
section
variable {X : Cx} {pins : List (Addr × Obj)} {σ : St} {H : Hp} {s s' : Shared}
theorem Inv.env0 (I : Inv X pins σ H s) : Env0 X.prog X.w X.K X.mg X.base X.A X.stack s H :=
  ⟨I.ok.frames, I.ok.mod, I.bs, Nat.le_trans I.ok.bsz I.sz, I.stack, I.stkFree, I.hok, I.bare⟩
theorem Inv.after {Q : VK} {u : Value} (I : Inv X pins σ H s) (h : CE X.stack X.prog X.w H s Q u s') : EP X pins σ Q u s' := by
  obtain ⟨v, H', os, bare, un, hok, r, q⟩ := h
  obtain ⟨hh, g, d, t, os'⟩ := s'
  obtain rfl : os' = s.os := os
  exact ⟨v, H', I.call (h' := hh) (g' := g) (d' := d) (t' := t) (ch := []) un hok bare (fun b z => absurd z (by simp)), r, q⟩
end
def tCall (sp : Sp) (dvs : List V) (E : XK) (t : TA) : TE := fun σ H Q => t σ H fun vs H1 => sp (vs ++ dvs) H1 Q E
def tMake (C : Addr) (sp : Sp) (dvs : List V) (E : XK) (t : TA) : TE := fun σ H Q => t σ H fun vs H1 => ∀ x dx, H1 x = none → H1 dx = none → dx ≠ x →
  sp (.ref x :: (vs ++ dvs)) (upd (upd H1 dx (.own x)) x (.ins C dx [])) (fun v H2 => v = .non ∧ Q (.ref x) H2) E
def Binds (K : PySem.W.Frag) (fd : FuncData) (ps : List Str) (ds : List Value) : Prop :=
  ∀ (s : Shared) (us : List Value), K.In s.heap → (us ++ ds).length = ps.length → BindsTo s fd ⟨us, []⟩ (ps.zip (us ++ ds))
theorem Binds.all {K : PySem.W.Frag} {fd : FuncData} {ps : List Str} (h : ∀ us : List Value, us.length = ps.length → bindArgs fd ⟨us, []⟩ = pure (ps.zip us)) : Binds K fd ps [] := fun s us _ hl => by
  rw [List.append_nil] at hl ⊢
  exact .of_eq (h us hl)
def Passes (CX : CXT) (X : Cx) (E : XK) : Prop := ∀ (pins : List (Addr × Obj)) (σ : St) (H : Hp) (s : Shared) (e : Value) (s' : Shared), Inv X pins σ H s → CX X.stack H s E e s' → X.xe e s'
section
variable {X : Cx} {CX : CXT} {k : Nat} {f C : Addr} {fd : FuncData} {ps : List Str} {sp : Sp} {dvs : List V} {ds : List Value} {E : XK} {x m : Str} {p pos apos : Pos} {e o : Expr} {es : List Expr} {ta : TE} {t : TA}
theorem run_fn {pins : List (Addr × Obj)} {σ : St} {H : Hp} {s : Shared} {Q : VK} {us : List Value} {vs : List V} (F : FnOk X.prog X.w X.K X.mg X.base CX k f fd ps sp) (hr : Room k X.A) (hb : Binds X.K fd ps ds) (hd : Vals dvs ds) (hx : Passes CX X E)
    (I : Inv X pins σ H s) (r : Vals vs us) (h : sp (vs ++ dvs) H Q E) : wpAny (model X.prog X.w) X.A (call (.ref f) us) (EP X pins σ Q) X.xe s := by
  have r2 : Vals (vs ++ dvs) (us ++ ds) := r.append hd
  have hl : (us ++ ds).length = ps.length := by rw [← r2.length]; exact F.len _ _ _ _ h
  refine wpAny_call (codeAny_mono (F.run X.A X.stack s H ⟨us, []⟩ (us ++ ds) (vs ++ dvs) Q E hr I.env0 (hb s us I.kIn hl) r2 h) fun r s' hq => ?_)
  cases r with
  | error e => exact hx pins σ H s e s' I hq
  | ok fl =>
    cases fl with
    | ret u => exact I.after hq
    | next => exact False.elim hq
    | brk => exact False.elim hq
    | cont => exact False.elim hq
theorem pe_call (F : FnOk X.prog X.w X.K X.mg X.base CX k f fd ps sp) (hr : Room k X.A) (hg : Gl X x) (hm : X.mg x = some (.ref f)) (hk : PySem.W.keepIn X.K (.ref f) = true) (hb : Binds X.K fd ps ds) (hd : Vals dvs ds) (hx : Passes CX X E)
    (ha : PA X (e :: es) t) (hdb : (x == ("__debug__" : Str)) = false := by decide) (he : starEach (e :: es) X.env = (false, eval e X.env) :: starEach es X.env := by rfl) (hpl : (backTo pos (starEach es X.env)).any (·.1) = false := by rfl) :
    PE X (.Call (.Name x p) (e :: es) [] pos) (tCall sp dvs E t) := by
  intro pins s σ H Q I h
  refine wpAny_Call_Name_kw (ld_glob I hg hm ?_ hdb)
  refine PySem.W.callWith_K (h₀ := X.base) I.ok.mod.kin hk (thn (ha pos pins s σ H _ I h) fun us s1 ⟨vs, H1, I1, r, q⟩ => ⟨I1.kIn, ?_⟩) he hpl
  exact run_fn F hr hb hd hx I1 r q
structure Mk (K : PySem.W.Frag) (C f : Addr) : Prop where
  makes : PySem.W.makesIn K C = true
  init : PySem.W.findIn K (.ref C) "__init__" = some (some (.ref f))
  fn : PySem.W.isFn K (.ref f) = true
  kp : PySem.W.keepIn K (.ref C) = true
theorem run_make {pins : List (Addr × Obj)} {σ : St} {H : Hp} {s : Shared} {Q : VK} {us : List Value} {vs : List V} (M : Mk X.K C f) (F : FnOk X.prog X.w X.K X.mg X.base CX k f fd ps sp) (hr : Room (k + 1) X.A) (hb : Binds X.K fd ps ds) (hd : Vals dvs ds)
    (hx : Passes CX X E) (I : Inv X pins σ H s) (r : Vals vs us)
    (h : ∀ x dx, H x = none → H dx = none → dx ≠ x → sp (.ref x :: (vs ++ dvs)) (upd (upd H dx (.own x)) x (.ins C dx [])) (fun v H2 => v = .non ∧ Q (.ref x) H2) E) :
    wpAny (model X.prog X.w) X.A (call (.ref C) us) (EP X pins σ Q) X.xe s := by
  have hq := h (s.heap.objs.size + 1) s.heap.objs.size (I.hok.fresh (Nat.le_succ _)) (I.hok.fresh (Nat.le_refl _)) (Nat.ne_of_lt (Nat.lt_succ_self _))
  have I2 := Inv.made (C := C) I
  have r2 : Vals (V.ref (s.heap.objs.size + 1) :: (vs ++ dvs)) (Value.ref (s.heap.objs.size + 1) :: (us ++ ds)) := .cons rfl (r.append hd)
  have hl : (Value.ref (s.heap.objs.size + 1) :: us ++ ds).length = ps.length := by
    have e := r2.length
    rw [F.len _ _ _ _ hq] at e
    exact e.symm
  refine wpAny_call (make_map (f := f) I.kIn M.makes M.init (beq_iff_eq.mp M.fn) (codeAny_mono (F.run _ X.stack _ _ ⟨Value.ref (s.heap.objs.size + 1) :: us, []⟩ (Value.ref (s.heap.objs.size + 1) :: (us ++ ds)) _ _ E (hr.make C us [])
    (I2.env0.make C us []) (hb _ (Value.ref (s.heap.objs.size + 1) :: us) I2.kIn hl) r2 hq) fun r s' hq' => ?_))
  cases r with
  | error e => exact hx pins σ _ _ e s' I2 hq'
  | ok fl =>
    cases fl with
    | ret u =>
      obtain ⟨v, H', I3, rv, ev, q3⟩ := I2.after hq'
      subst ev
      exact ⟨rv, ⟨V.ref (s.heap.objs.size + 1), H', I3, rfl, q3⟩⟩
    | next => exact False.elim hq'
    | brk => exact False.elim hq'
    | cont => exact False.elim hq'
theorem pe_make (M : Mk X.K C f) (F : FnOk X.prog X.w X.K X.mg X.base CX k f fd ps sp) (hr : Room (k + 1) X.A) (hg : Gl X x) (hm : X.mg x = some (.ref C)) (hb : Binds X.K fd ps ds) (hd : Vals dvs ds) (hx : Passes CX X E)
    (ha : PA X (e :: es) t) (hdb : (x == ("__debug__" : Str)) = false := by decide) (he : starEach (e :: es) X.env = (false, eval e X.env) :: starEach es X.env := by rfl) (hpl : (backTo pos (starEach es X.env)).any (·.1) = false := by rfl) :
    PE X (.Call (.Name x p) (e :: es) [] pos) (tMake C sp dvs E t) := by
  intro pins s σ H Q I h
  refine wpAny_Call_Name_kw (ld_glob I hg hm ?_ hdb)
  refine PySem.W.callWith_K (h₀ := X.base) I.ok.mod.kin M.kp (thn (ha pos pins s σ H _ I h) fun us s1 ⟨vs, H1, I1, r, q⟩ => ⟨I1.kIn, ?_⟩) he hpl
  exact run_make M F hr hb hd hx I1 r q
end
section
variable {X : Cx} {CX : CXT} {k : Nat} {f C : Addr} {fd : FuncData} {ps ks : List Str} {sp : Sp} {E : XK} {x m : Str} {p pos apos kpos : Pos} {e o : Expr} {es : List Expr} {kws : List Keyword} {te ta : TE} {t tk : TA} {nm : Option Str}
structure KBinds (K : PySem.W.Frag) (fd : FuncData) (ps ks : List Str) (g : List Value → List Value → List Value) (gV : List V → List V → List V) : Prop where
  to : ∀ (s : Shared) (us ws : List Value), K.In s.heap → (g us ws).length = ps.length → BindsTo s fd ⟨us, ks.zip ws⟩ (ps.zip (g us ws))
  rel : ∀ {vs : List V} {us : List Value} {zs : List V} {ws : List Value}, Vals vs us → Vals zs ws → Vals (gV vs zs) (g us ws)
variable {g : List Value → List Value → List Value} {gV : List V → List V → List V}
end
structure FnScope (N P : List Str) (sc : Scope) : Prop where
  kind : sc.kind = .function
  co : sc.isCoroutine = false
  gen : sc.isGenerator = false
  nd : N.Nodup
  pre : N.take P.length = P
  par : ∀ x ∈ P, sc.names.lookup x = some .local ∨ sc.names.lookup x = some .cell
  nofree : ∀ y ∈ sc.names, y.2 ≠ .free
theorem bindL_out {kindOf : Str → Option NameKind} {x : Str} : ∀ {binds : List (Str × Value)} {m : Str → Option Value}, (∀ v, (x, v) ∉ binds) → bindL kindOf binds m x = m x
  | [], _, _ => rfl
  | (n, v) :: r, m, h => by
    unfold bindL
    rw [bindL_out fun w hw => h w (List.mem_cons_of_mem _ hw)]
    split
    · have : x ≠ n := by rintro rfl; exact h v List.mem_cons_self
      simp [this]
    · rfl
theorem bindC_out {kindOf : Str → Option NameKind} {x : Str} : ∀ {binds : List (Str × Value)} {m : Str → Option Value}, (∀ v, (x, v) ∉ binds) → bindC kindOf binds m x = m x
  | [], _, _ => rfl
  | (n, v) :: r, m, h => by
    unfold bindC
    rw [bindC_out fun w hw => h w (List.mem_cons_of_mem _ hw)]
    split
    · rfl
    · have : x ≠ n := by rintro rfl; exact h v List.mem_cons_self
      simp [this]
theorem bindL_get {kindOf : Str → Option NameKind} {x : Str} {v : Value} : ∀ {P : List Str} {vs : List Value} {i : Nat} {m : Str → Option Value}, P.Nodup → P[i]? = some x → vs[i]? = some v → kindOf x = some .local →
    bindL kindOf (P.zip vs) m x = some v
  | [], _, _, _, _, h, _, _ => by simp at h
  | _ :: _, [], _, _, _, _, h, _ => by simp at h
  | p :: P, w :: vs, 0, m, nd, h1, h2, hk => by
    simp at h1 h2; subst h1; subst h2
    show bindL kindOf ((p, w) :: P.zip vs) m p = _
    unfold bindL
    rw [bindL_out fun v hv => (List.nodup_cons.mp nd).1 (List.of_mem_zip hv).1, if_pos hk]
    simp
  | p :: P, w :: vs, i + 1, m, nd, h1, h2, hk => by
    show bindL kindOf ((p, w) :: P.zip vs) m x = _
    unfold bindL
    exact bindL_get (i := i) (List.nodup_cons.mp nd).2 (by simpa using h1) (by simpa using h2) hk
theorem bindC_get {kindOf : Str → Option NameKind} {x : Str} {v : Value} : ∀ {P : List Str} {vs : List Value} {i : Nat} {m : Str → Option Value}, P.Nodup → P[i]? = some x → vs[i]? = some v → kindOf x ≠ some .local →
    bindC kindOf (P.zip vs) m x = some v
  | [], _, _, _, _, h, _, _ => by simp at h
  | _ :: _, [], _, _, _, _, h, _ => by simp at h
  | p :: P, w :: vs, 0, m, nd, h1, h2, hk => by
    simp at h1 h2; subst h1; subst h2
    show bindC kindOf ((p, w) :: P.zip vs) m p = _
    unfold bindC
    rw [bindC_out fun v hv => (List.nodup_cons.mp nd).1 (List.of_mem_zip hv).1, if_neg hk]
    simp
  | p :: P, w :: vs, i + 1, m, nd, h1, h2, hk => by
    show bindC kindOf ((p, w) :: P.zip vs) m x = _
    unfold bindC
    exact bindC_get (i := i) (List.nodup_cons.mp nd).2 (by simpa using h1) (by simpa using h2) hk
def start (N : List Str) (vs : List V) : St := vs.map some ++ List.replicate (N.length - vs.length) none
def cxOf (CX : CXT) (P : Program) (w : World) (K : PySem.W.Frag) (mg : Str → Option Value) (base : Heap) (N : List Str) (qual : Str) (scope : Scope) (f : Addr) (cd : Value) (A : Around) (outer : List Env) (s : Shared) (H : Hp) (E : XK) : Cx where
  prog := P
  w := w
  K := K
  mg := mg
  base := base
  A := A.deeper (envOfC qual scope s.heap.objs.size f cd)
  N := N
  s₀ := s
  H₀ := H
  env := envOfC qual scope s.heap.objs.size f cd
  outer := outer
  stack := envOfC qual scope s.heap.objs.size f cd :: outer
  ex := []
  calm := true
  fn := fun _ => true
  pn := []
  xe := fun e s' => wpAny (model P w) (A.deeper (envOfC qual scope s.heap.objs.size f cd)) (leaving (envOfC qual scope s.heap.objs.size f cd) e) (fun _ s'' => CX outer H s E e s'') (fun e' s'' => CX outer H s E e' s'') s'
theorem cell_has {sc : Scope} {n : Nat} {x : Str} (h : sc.names.lookup x = some .cell) : ∃ c, (cellsFrom n sc.names []).lookup x = some c := by
  have q := PySem.W.cellsFrom_some sc.names n [] (.inl h)
  exact Option.isSome_iff_exists.mp q
theorem inv_start {CX : CXT} {P : Program} {w : World} {K : PySem.W.Frag} {mg : Str → Option Value} {base : Heap} {N ps : List Str} {qual : Str} {scope : Scope} {f : Addr} {cd : Value} {A : Around} {outer : List Env} {s s1 : Shared} {H : Hp} {E : XK} {us : List Value} {vs : List V}
    (S : FnScope N ps scope) (hd : A.handled = none) (e0 : Env0 P w K mg base A outer s H) (hl : vs.length = ps.length) (r : Vals vs us)
    (x : InCallC s s.heap.objs.size (bindL (envOfC qual scope s.heap.objs.size f cd).kindOf (ps.zip us) fun _ => none) (cellsFrom (s.heap.objs.size + 1) scope.names []) (bindC (envOfC qual scope s.heap.objs.size f cd).kindOf (ps.zip us) fun _ => none) s1) :
    Inv (cxOf CX P w K mg base N qual scope f cd A outer s H E) [] (start N vs) H s1 := by
  have hpl : ps.length ≤ N.length := by have := congrArg List.length S.pre; rw [List.length_take] at this; omega
  obtain ⟨h1, tk, rfl, hk⟩ := x.done
  have noA : ∀ b : Addr, b ∉ (cxOf CX P w K mg base N qual scope f cd A outer s H E).ex := fun b z => absurd (show b ∈ ([] : List Addr) from z) (by simp)
  refine ⟨⟨e0.mod, S.kind, rfl, rfl, Nat.le_refl _, fun y z c h1 h2 => ?_, fun y hy => ?_, fun y c _ h => ?_, fun _ => hd, Around.frames_deeper e0.frames, .inr ⟨rfl, rfl⟩, fun b z => absurd z (noA b), e0.bs, e0.bsz, fun b _ _ => noA b, fun b z => absurd z (noA b), e0.funs, e0.frf⟩,
    rfl, e0.bare, Un.kept hk, ⟨_, x.toInCall.ns, fun i y v h1 h2 h3 => ?_⟩, fun y c h => ⟨_, x.cell y c h⟩, e0.hok.fresh (Nat.le_refl _), fun y c h => ?_, fun p hp => absurd (show p ∈ ([] : List (Addr × Obj)) from hp) (by simp), e0.hok.kept hk, ?_⟩
  · exact name_of_addr x.apart (PySem.mem_of_lookup h1) (PySem.mem_of_lookup h2)
  · have hy : scope.names.lookup y = some .cell ∨ scope.names.lookup y = some .free := hy
    rcases hy with hy | hy
    · exact cell_has hy
    · exact absurd rfl (S.nofree _ (PySem.mem_of_lookup hy))
  · exact Nat.le_of_lt (x.above y c (PySem.mem_of_lookup h))
  · have hi : i < vs.length := by
      unfold start at h2
      by_cases hi : i < vs.length
      · exact hi
      · rw [List.getElem?_append_right (by simpa using hi)] at h2
        rw [List.getElem?_replicate] at h2
        split at h2 <;> cases h2
    have ha : vs[i]? = some v := by
      unfold start at h2
      rw [List.getElem?_append_left (by simpa using hi), List.getElem?_map] at h2
      cases e : vs[i]? with
      | none => rw [e] at h2; cases h2
      | some a => rw [e] at h2; cases h2; rfl
    obtain ⟨u, hu, rv⟩ := r.get ha
    have hp : ps[i]? = some y := by
      rw [← S.pre, List.getElem?_take_of_lt (by omega)]; exact h1
    have ndP : ps.Nodup := by rw [← S.pre]; exact S.nd.sublist (List.take_sublist _ _)
    refine ⟨u, rv, ?_⟩
    rcases S.par y (List.mem_of_getElem? hp) with k | k
    · exact .inl ⟨k, bindL_get ndP hp hu k⟩
    · obtain ⟨c, e⟩ := cell_has (n := s.heap.objs.size + 1) k
      refine .inr ⟨.inl k, c, e, ?_⟩
      have q := x.cell y c e
      rw [bindC_get ndP hp hu (by show scope.names.lookup y ≠ _; rw [k]; decide)] at q
      exact q
  · exact e0.hok.fresh (Nat.le_of_lt (x.above y c (PySem.mem_of_lookup h)))
  · unfold start
    show _ = N.length
    rw [List.length_append, List.length_map, List.length_replicate]
    omega
theorem fn_of {CX : CXT} {P : Program} {w : World} {K : PySem.W.Frag} {mg : Str → Option Value} {base : Heap} {k : Nat} {f : Addr} {name qual : Str} {params : Arguments} {body : List Stmt} {scope : Scope} {dV kV doc pm cdv ct oc : Value} {an od : Option Addr}
    {osl : Array (Option Value)} {N ps : List Str} {sp : Sp} (lk : K.lookup f = some ⟨oc, od, .func (PySem.W.fnOf name qual params body scope dV kV doc pm an cdv ct), osl⟩) (hcd : PySem.W.codeIn K cdv qual = true) (S : FnScope N ps scope)
    (len : ∀ vs H Q E, sp vs H Q E → vs.length = ps.length)
    (hbody : ∀ (A : Around) (outer : List Env) (s : Shared) (H : Hp) (vs : List V) (Q : VK) (E : XK), Room k (A.deeper (envOfC qual scope s.heap.objs.size f cdv)) → sp vs H Q E →
      ∃ t, PSs (cxOf CX P w K mg base N qual scope f cdv A outer s H E) body t ∧ t { nx := fun _ H' => Q .non H', rt := Q } (start N vs) H) :
    FnOk P w K mg base CX (k + 1) f (PySem.W.fnOf name qual params body scope dV kV doc pm an cdv ct) ps sp := by
  refine ⟨len, fun A outer s H args us vs Q E hr e0 hb r hsp => ?_⟩
  have hl := len _ _ _ _ hsp
  have KX : K.In s.heap := e0.mod.kin.keeps fun b o e => (e0.bs b o e).1
  have lim : s.heap.NoLimit := e0.mod.nolimit.keeps fun b o e => (e0.bs b o e).1
  have hkind : ∀ y ∈ ps.zip us, scope.names.lookup y.1 = some .local ∨ (scope.names.lookup y.1 = some .cell ∧ ((cellsFrom (s.heap.objs.size + 1) scope.names []).lookup y.1).isSome = true) := fun ⟨n, v⟩ hy => by
    rcases S.par n (List.of_mem_zip hy).1 with q | q
    · exact .inl q
    · exact .inr ⟨q, PySem.W.cellsFrom_some _ _ _ (.inl q)⟩
  refine codeAny_call_function hr.depth (KX _ _ lk) rfl S.co S.gen rfl (PySem.W.codeRec_of KX hcd) (hb _ _ _ _ ?_)
  refine wpAny_newFunctionEnv_cells S.kind hkind fun env he s1 x => ?_
  subst he
  refine ⟨lim.keeps x.toInCall.keep, codeAny_func ?_⟩
  obtain ⟨t, ht, hq⟩ := hbody A outer s H vs Q E (hr.deeper _) hsp
  have I : Inv (cxOf CX P w K mg base N qual scope f cdv A outer s H E) [] (start N vs) H s1 := inv_start S hr.hd e0 hl r x
  refine wpAny_mono (ht [] s1 (start N vs) H _ I hq) (fun fl s' hs => ?_) fun e s' hs => hs
  have fin : ∀ {σ' : St} {H' : Hp} {v : V} {u : Value}, Inv (cxOf CX P w K mg base N qual scope f cdv A outer s H E) [] σ' H' s' → RelV v u → Q v H' → CE outer P w H s Q u s' :=
    fun {σ' H' v u} J rv q => ⟨v, H', J.os, J.bare, J.base, J.hok, rv, q⟩
  cases fl with
  | ret u =>
    obtain ⟨v, σ', H', J, rv, q⟩ := hs
    exact fin J rv q
  | next =>
    obtain ⟨σ', H', J, q⟩ := hs
    exact fin (v := V.non) (u := Value.none) J rfl q
  | brk =>
    obtain ⟨_, _, _, q⟩ := hs
    exact False.elim q
  | cont =>
    obtain ⟨_, _, _, q⟩ := hs
    exact False.elim q
end L2
namespace L2
open PySem PySem.Spec PyProof.Rows
section
variable {X : Cx} {x : Str} {p pos : Pos} {e : Expr} {es : List Expr} {t : TA} {id T : String} {r : List V → Hp → VK → Prop}
def tCB (r : List V → Hp → VK → Prop) (t : TA) : TE := fun σ H Q => t σ H fun vs H1 => r vs H1 Q
theorem pe_callB (hc : CallR X (.builtin id) r) (hg : Gl X x) (hm : X.mg x = none) (hv : bootBuiltins x = some (.builtin id)) (ha : PA X (e :: es) t) (hn : x ≠ "__name__" := by decide) (hdb : (x == ("__debug__" : Str)) = false := by decide)
    (he : starEach (e :: es) X.env = (false, eval e X.env) :: starEach es X.env := by rfl) (hpl : (backTo pos (starEach es X.env)).any (·.1) = false := by rfl) : PE X (.Call (.Name x p) (e :: es) [] pos) (tCB r t) := by
  intro pins s σ H Q I h
  refine wpAny_Call_Name_kw (ld_blt I hg hm hv ?_ hn hdb)
  exact PyProof.Rows.callWith_builtin1 (thn (ha pos pins s σ H _ I h) fun us s1 ⟨vs, H1, I1, r1, q1⟩ => hc pins s1 σ H1 vs us Q I1 r1 q1) he hpl
theorem pe_callTy (hc : CallR X (.type T) r) (hg : Gl X x) (hm : X.mg x = none) (hv : bootBuiltins x = some (.type T)) (ha : PA X (e :: es) t) (hn : x ≠ "__name__" := by decide) (hdb : (x == ("__debug__" : Str)) = false := by decide)
    (he : starEach (e :: es) X.env = (false, eval e X.env) :: starEach es X.env := by rfl) (hpl : (backTo pos (starEach es X.env)).any (·.1) = false := by rfl) : PE X (.Call (.Name x p) (e :: es) [] pos) (tCB r t) := by
  intro pins s σ H Q I h
  refine wpAny_Call_Name_kw (ld_blt I hg hm hv ?_ hn hdb)
  exact PyProof.Rows.callWith_type1 (thn (ha pos pins s σ H _ I h) fun us s1 ⟨vs, H1, I1, r1, q1⟩ => hc pins s1 σ H1 vs us Q I1 r1 q1) he hpl
end
end L2
namespace HT
open PySem PyProof.Rows
section
open PySem.SeqAt
open PySem.AutoSeq1 (wpAny_loadPart')
open PySem.MeetsSeq PySem.MeetsSeq2 PySem.MeetsSeq3
end
section
variable {prog : Program} {w : World} {A : Around} {E : Value → Shared → Prop} {s : Shared}
theorem cat_tup {t b : Addr} {vs ws : List Value} {Q : Value → Shared → Prop} (ht : IsTup s.heap t vs.toArray) (hb : IsTup s.heap b ws.toArray) (hv : vs ≠ [])
    (h1 : ws = [] → Q (.ref t) s) (h2 : ws ≠ [] → Q (.ref s.heap.objs.size) { s with heap := s.heap.push { cls := .type "tuple", data := .seq (vs ++ ws).toArray } })
    (hsz : vs.length + ws.length ≤ sizeLine) : wpAny (model prog w) A (binaryOp .Add (.ref t) (.ref b)) Q E s := by
  obtain ⟨⟨cls, dd, data, sl⟩, ho, hc, n, hd⟩ := id ht
  obtain ⟨⟨cls2, dd2, data2, sl2⟩, ho2, hc2, n2, hd2⟩ := id hb
  simp only at hc hd hc2 hd2
  subst hc hd hc2 hd2
  have e : vs.toArray ++ ws.toArray = (vs ++ ws).toArray := by simp
  by_cases hw : ws = []
  · exact concat_meets ⟨_, ho, rfl⟩ ⟨_, ho2, rfl⟩ noFill_tuple_add seq_tuple_add PySem.F.slot_tuple_add PySem.F.entry_tuple_add (PySem.F.args_tuple_add_2 _ _)
      (tuple_addW1 t b vs.toArray ws.toArray n n2 dd dd2 sl sl2 (by simpa using hv) (by simp [hw])) ⟨ho, ho2, h1 hw⟩
  · refine concat_meets ⟨_, ho, rfl⟩ ⟨_, ho2, rfl⟩ noFill_tuple_add seq_tuple_add PySem.F.slot_tuple_add PySem.F.entry_tuple_add (PySem.F.args_tuple_add_2 _ _)
      (tuple_addW2 t b vs.toArray ws.toArray n n2 dd dd2 sl sl2 (by simpa using hv) (by simpa using hw) (by rw [List.size_toArray, List.size_toArray]; exact hsz)) ⟨ho, ho2, ?_⟩
    rw [e]
    exact h2 hw
def sIx (n d : Nat) : Option Int → Nat
  | none => d
  | some v => if v < 0 then (v + (n : Int)).toNat else min v.toNat n
theorem sIx_le (n d : Nat) (hd : d ≤ n) (o : Option Int) : sIx n d o ≤ n := by
  cases o with
  | none => exact hd
  | some v =>
    show (if v < 0 then (v + (n : Int)).toNat else min v.toNat n) ≤ n
    by_cases hv : v < 0
    · rw [if_pos hv]; omega
    · rw [if_neg hv]; exact Nat.min_le_right _ _
theorem clip_eq (v : Int) (n d : Nat) : (if v < 0 then max (v + (n : Int)) 0 else min v (n : Int)) = ((sIx n d (some v) : Nat) : Int) := by
  show (if v < 0 then max (v + (n : Int)) 0 else min v (n : Int)) = (((if v < 0 then (v + (n : Int)).toNat else min v.toNat n) : Nat) : Int)
  by_cases hv : v < 0
  · simp only [if_pos hv]; omega
  · simp only [if_neg hv]; omega
theorem adjust_gen (lo hi : Option Int) (n : Nat) : Builtin.Slice.sliceAdjust lo hi 1 (n : Int) = (((sIx n 0 lo : Nat) : Int), ((sIx n n hi : Nat) : Int)) := by
  have h1 : ¬ ((1 : Int) < 0) := by omega
  unfold Builtin.Slice.sliceAdjust
  simp only [h1, if_false]
  refine Prod.ext ?_ ?_
  · cases lo with
    | none => rfl
    | some v => exact clip_eq v n 0
  · cases hi with
    | none => rfl
    | some v => exact clip_eq v n n
theorem places_gen (i j : Nat) : Builtin.Slice.slicePlaces (i : Int) (j : Int) 1 = j - i := by
  unfold Builtin.Slice.slicePlaces
  have h1 : (1 : Int) > 0 := by omega
  simp only [h1, if_true, Int.ediv_one]
  split <;> omega
theorem slicePart_ {v : Value} {o : Option Int} {Q : Option Int → Shared → Prop} (p : IsPart v o) (h : Q o s) : wpAny (model prog w) A (Builtin.Slice.slicePartIndex v) Q E s := by
  cases p with
  | none => exact slicePart_none h
  | int i t => exact slicePart_int h
theorem sliceApplied_gen {sl : Addr} {vl vu : Value} {lo hi : Option Int} {n : Nat} {Q : Int × Int × Nat → Shared → Prop} (hs : s.heap.IsSliceOf sl vl vu .none) (pl : IsPart vl lo) (pu : IsPart vu hi)
    (h : Q (((sIx n 0 lo : Nat) : Int), 1, sIx n n hi - sIx n 0 lo) s) : wpAny (model prog w) A (Builtin.Slice.sliceApplied (.ref sl) (pure (n : Int))) Q E s := by
  obtain ⟨os, hos, hcs, hds⟩ := id hs
  unfold Builtin.Slice.sliceApplied Builtin.Slice.sliceFields
  refine wpAny_bind (wpAny_bind (wpAny_field hos hds (x := vl) rfl (wpAny_bind (wpAny_field hos hds (x := vu) rfl (wpAny_bind (wpAny_field hos hds (x := .none) rfl (wpAny_pure ?_)))))))
  refine wpAny_bind (slicePart_none ?_)
  show wpAny _ _ (if ((1 : Int) == 0) = true then _ else _) _ _ s
  rw [if_neg (by decide)]
  refine wpAny_bind (slicePart_ pl (wpAny_bind (slicePart_ pu (wpAny_bind (wpAny_pure ?_)))))
  show wpAny _ _ (match Builtin.Slice.sliceAdjust lo hi 1 (n : Int) with | (lo, hi) => pure (lo, (1 : Int), Builtin.Slice.slicePlaces lo hi 1)) _ _ s
  rw [adjust_gen lo hi n]
  show wpAny _ _ (pure (((sIx n 0 lo : Nat) : Int), (1 : Int), Builtin.Slice.slicePlaces ((sIx n 0 lo : Nat) : Int) ((sIx n n hi : Nat) : Int) 1)) _ _ s
  rw [places_gen]
  exact wpAny_pure h
theorem pick_gen (xs : Array Value) (i k : Nat) : ((List.range k).filterMap fun (m : Nat) => xs[((i : Int) + (m : Int) * 1).toNat]?).toArray = ((xs.toList.drop i).take k).toArray := by
  have e : (fun (m : Nat) => xs[((i : Int) + (m : Int) * 1).toNat]?) = fun m => xs[i + m]? := by
    funext m
    have : ((i : Int) + (m : Int) * 1).toNat = i + m := by omega
    rw [this]
  rw [e]
  have := pick_run xs i k
  rw [List.filterMap_map] at this
  have e2 : ((fun x => xs[x]?) ∘ fun x => i + x) = fun m => xs[i + m]? := rfl
  rw [e2] at this
  rw [this]
theorem getItem_tuple_cut {t sl : Addr} {items : Array Value} {vl vu : Value} {lo hi : Option Int} {Q : Value → Shared → Prop} (ht : IsTup s.heap t items) (hs : s.heap.IsSliceOf sl vl vu .none) (pl : IsPart vl lo) (pu : IsPart vu hi)
    (hw : ¬ (sIx items.size 0 lo = 0 ∧ sIx items.size items.size hi = items.size))
    (h : Q (.ref s.heap.objs.size) { s with heap := s.heap.push { cls := .type "tuple", data := .seq ((items.toList.drop (sIx items.size 0 lo)).take (sIx items.size items.size hi - sIx items.size 0 lo)).toArray } })
    (hsz : items.size ≤ sizeLine) : wpAny (model prog w) A (getItem (.ref t) (.ref sl)) Q E s := by
  have htake : sizeOk (.seq ((items.toList.drop (sIx items.size 0 lo)).take (sIx items.size items.size hi - sIx items.size 0 lo)).toArray) := by
    show ((items.toList.drop (sIx items.size 0 lo)).take (sIx items.size items.size hi - sIx items.size 0 lo)).toArray.size ≤ sizeLine
    rw [List.size_toArray, List.length_take, List.length_drop, Array.length_toList]
    omega
  have hj : sIx items.size items.size hi ≤ items.size := sIx_le _ _ (Nat.le_refl _) hi
  obtain ⟨os, hos, hcs, hds⟩ := id hs
  have hTs : s.TypeIs (.ref sl) "slice" := ⟨os, hos, hcs⟩
  unfold getItem
  try with_reducible refine wpAny_holding ?_
  first | refine wpAny_bind (wpAny_pure ?_) | skip
  refine wpAny_bind (wpAny_sequenceKey ht.typeIs (by decide) ?_)
  refine wpAny_bind (wpAny_callSpecial?_slot (name := Str.ofString "__getitem__") ht.typeIs PyProof.Rows.slot_tuple_getitem
    (wpAny_call_entry PyProof.Rows.slot_tuple_getitem ht.typeIs entry_tuple_getitem ?_ (args_tuple_getitem _ _)))
  show wpAny _ _ (Builtin.Tuple.tupleItemsOf (.ref t) >>= _) _ _ s
  refine wpAny_bind (tupleItemsOf_ ht ?_)
  refine wpAny_bind (wpAny_typeOf hTs ?_)
  rw [if_pos (by decide)]
  refine wpAny_bind (sliceApplied_gen hs pl pu ?_)
  have hno : ¬ ((((sIx items.size 0 lo : Nat) : Int) == 0 && (1 : Int) == 1 && (sIx items.size items.size hi - sIx items.size 0 lo) == items.size) = true) := by
    intro q
    rw [Bool.and_eq_true, Bool.and_eq_true] at q
    have q1 : ((sIx items.size 0 lo : Nat) : Int) = 0 := eq_of_beq q.1.1
    have q2 : sIx items.size items.size hi - sIx items.size 0 lo = items.size := eq_of_beq q.2
    exact hw ⟨by omega, by omega⟩
  show wpAny _ _ (if (((sIx items.size 0 lo : Nat) : Int) == 0 && (1 : Int) == 1 && (sIx items.size items.size hi - sIx items.size 0 lo) == items.size) = true then _ else _) _ _ s
  rw [if_neg hno, pick_gen]
  first
    | exact wpAny_bind (m := Builtin.Tuple.tupleExact _) (wpAny_newObj_type (wpAny_pure ⟨_, rfl, wpAny_pure h⟩) htake)
    | exact wpAny_bind (m := Builtin.Tuple.tupleExact _) (wpAny_newObj_type (wpAny_bind (wpAny_pure (wpAny_pure ⟨_, rfl, wpAny_pure h⟩))) htake)
    | exact wpAny_bind (wpAny_bind (m := Builtin.Tuple.tupleExact _) (wpAny_newObj_type (wpAny_pure (wpAny_pure ⟨_, rfl, wpAny_pure h⟩)) htake))
    | exact wpAny_bind (wpAny_bind (m := Builtin.Tuple.tupleExact _) (wpAny_newObj_type (wpAny_pure ⟨_, rfl, wpAny_pure h⟩) htake))
end
end HT
namespace L2
open PySem PySem.Spec PyProof.Rows
abbrev TO := St → Hp → (Option Int → Hp → Prop) → Prop
def PO (X : Cx) (e : Option Expr) (t : TO) : Prop :=
  ∀ (pins : List (Addr × Obj)) (s : Shared) (σ : St) (H : Hp) (Q : Option Int → Hp → Prop), Inv X pins σ H s → t σ H Q →
    wpAny (model X.prog X.w) X.A (evalPart e X.env) (fun u s' => ∃ o H', Inv X pins σ H' s' ∧ IsPart u o ∧ Q o H') X.xe s
def tNoPart : TO := fun _ H Q => Q none H
def tPart (t : TE) : TO := fun σ H Q => t σ H fun x H1 => ∃ i, x = .int i ∧ Q (some i) H1
theorem intsAre_of {ns : List Int} : ∀ {us : List Value}, Vals (ns.map V.int) us → IntsAre us ns := by
  induction ns with
  | nil => intro us r; rw [List.map_nil] at r; cases r; exact .nil
  | cons n ns ih =>
    intro us r
    rw [List.map_cons] at r
    cases r with
    | cons r1 r2 =>
      obtain ⟨t, e⟩ := r1
      subst e
      exact .cons n t (ih r2)
section
variable {X : Cx} {e : Expr} {te : TE} {lo hi : Option Expr} {tl th : TO} {pos p2 : Pos}
theorem po_none : PO X none tNoPart := by
  intro pins s σ H Q I h
  rw [evalPart_none]
  exact wpAny_pure ⟨none, H, I, .none, h⟩
theorem po_some (h : PE X e te) : PO X (some e) (tPart te) := by
  intro pins s σ H Q I hw
  rw [evalPart_some]
  refine thn (h pins s σ H _ I hw) fun u s1 ⟨x, H1, I1, r1, q1⟩ => ?_
  obtain ⟨i, rfl, q⟩ := q1
  obtain ⟨t, rfl⟩ := r1
  exact ⟨some i, H1, I1, .int i t, q⟩
def SlR (X : Cx) (r : V → Option Int → Option Int → Hp → VK → Prop) : Prop :=
  ∀ (pins : List (Addr × Obj)) (s : Shared) (σ : St) (H : Hp) (x : V) (v vl vu : Value) (lo hi : Option Int) (sl : Addr) (Q : VK), Inv X pins σ H s → RelV x v → s.heap.IsSliceOf sl vl vu .none → IsPart vl lo → IsPart vu hi → r x lo hi H Q →
    ∃ T id, typeLookup (.type T) "__getitem__" = pure (some (.builtin id)) ∧ s.TypeIs v T ∧ wpAny (model X.prog X.w) X.A (getItem v (.ref sl)) (EP X pins σ Q) X.xe s
def tSl (r : V → Option Int → Option Int → Hp → VK → Prop) (te : TE) (tl th : TO) : TE := fun σ H Q => te σ H fun x H1 => tl σ H1 fun l H2 => th σ H2 fun u H3 => r x l u H3 Q
theorem pe_slice {r : V → Option Int → Option Int → Hp → VK → Prop} (hr : SlR X r) (he : PE X e te) (hl : PO X lo tl) (hu : PO X hi th) : PE X (.Subscript e (.Slice lo hi none p2) pos) (tSl r te tl th) := by
  intro pins s σ H Q I h
  refine Subscript_ (thn (he pins s σ H _ I h) fun v s1 ⟨x, H1, I1, r1, q1⟩ => ?_)
  refine wpAny_Slice (thn (hl pins s1 σ H1 _ I1 q1) fun vl s2 ⟨l, H2, I2, pl, q2⟩ => thn (hu pins s2 σ H2 _ I2 q2) fun vu s3 ⟨u, H3, I3, pu, q3⟩ => ?_)
  rw [evalPart_none]
  refine wpAny_pure ?_
  have I4 : Inv X pins σ H3 { s3 with heap := s3.heap.push { cls := .type "slice", data := .fields #[vl, vu, .none] } } := I3.kept (t' := s3.toks) fun b ob q => Heap.get?_push_of_some _ q
  obtain ⟨T, id, hT, ht, hg⟩ := hr pins { s3 with heap := s3.heap.push { cls := .type "slice", data := .fields #[vl, vu, .none] } } σ H3 x v vl vu l u s3.heap.objs.size Q I4 r1 (Heap.IsSliceOf.new ..) pl pu q3
  show wpAny (model X.prog X.w) X.A (subscriptTail e (.Slice lo hi none p2) v (.ref s3.heap.objs.size)) (EP X pins σ Q) X.xe { s3 with heap := s3.heap.push { cls := .type "slice", data := .fields #[vl, vu, .none] } }
  exact tail_any (ops := [.ref s3.heap.objs.size, v]) ht hT hg (by with_unfolding_all rfl)
def cutV (xs : List V) (lo hi : Option Int) : List V := (xs.drop (HT.sIx xs.length 0 lo)).take (HT.sIx xs.length xs.length hi - HT.sIx xs.length 0 lo)
theorem cutV_length (xs : List V) (lo hi : Option Int) : (cutV xs lo hi).length ≤ xs.length := by
  unfold cutV
  rw [List.length_take, List.length_drop]
  omega
def rSlT (K : PySem.W.Frag) : V → Option Int → Option Int → Hp → VK → Prop := fun x lo hi H Q => ∃ a xs, x = .ref a ∧ SqT K H a xs ∧
  ¬ (HT.sIx xs.length 0 lo = 0 ∧ HT.sIx xs.length xs.length hi = xs.length) ∧ ∀ p, H p = none → Q (.ref p) (upd H p (.tup (cutV xs lo hi)))
theorem sl_tup : SlR X (rSlT X.K) := by
  intro pins s σ H x v vl vu lo hi sl Q I rx hs pl pu h
  obtain ⟨a, xs, rfl, hx, hw, q⟩ := h
  cases rx
  obtain ⟨its, r, ht, hz⟩ := I.tuple hx
  have hlen : its.toArray.size = xs.length := by rw [List.size_toArray]; exact r.length.symm
  refine ⟨"tuple", _, PyProof.Rows.slot_tuple_getitem.lookup, ht.typeIs, ?_⟩
  refine HT.getItem_tuple_cut ht hs pl pu (by rw [hlen]; exact hw) ?_ (by rw [hlen]; exact hz)
  rw [hlen]
  refine ⟨.ref s.heap.objs.size, _, I.laid (t' := s.toks) (o := .tup (cutV xs lo hi)) (fun b ob q => Heap.get?_push_of_some _ q) (Nat.le_refl _) ?_, rfl, q _ (I.hok.fresh (Nat.le_refl _))⟩
  exact ⟨Nat.le_trans (cutV_length xs lo hi) hz, _, (r.drop (HT.sIx xs.length 0 lo)).take (HT.sIx xs.length xs.length hi - HT.sIx xs.length 0 lo), IsTup.new _ _⟩
def rCatT (K : PySem.W.Frag) : R2 := fun x y H Q => ∃ a b xs ys, x = .ref a ∧ y = .ref b ∧ SqT K H a xs ∧ SqT K H b ys ∧ xs ≠ [] ∧ xs.length + ys.length ≤ sizeLine ∧
  (ys = [] → Q (.ref a) H) ∧ (ys ≠ [] → ∀ p, H p = none → Q (.ref p) (upd H p (.tup (xs ++ ys))))
theorem Vals.nil_iff {xs : List V} {us : List Value} (r : Vals xs us) : us = [] ↔ xs = [] := by
  cases r with
  | nil => simp
  | cons _ _ => simp
theorem op_catT : OpR X (binaryOp .Add) (rCatT X.K) := by
  intro pins s σ H x y v u Q I rx ry h
  obtain ⟨a, b, xs, ys, rfl, rfl, ha, hb, hx, hz, q1, q2⟩ := h
  cases rx
  cases ry
  obtain ⟨its, r1, p1, _⟩ := I.tuple ha
  obtain ⟨its2, r2, p2, _⟩ := I.tuple hb
  refine HT.cat_tup p1 p2 (fun z => hx (r1.nil_iff.mp z)) (fun z => ⟨.ref a, H, I, rfl, q1 (r2.nil_iff.mp z)⟩) (fun z => ?_) (by rw [← r1.length, ← r2.length]; exact hz)
  refine ⟨.ref s.heap.objs.size, _, I.laid (t' := s.toks) (o := .tup (xs ++ ys)) (fun b ob q => Heap.get?_push_of_some _ q) (Nat.le_refl _) ?_, rfl, q2 (fun w => z (r2.nil_iff.mpr w)) _ (I.hok.fresh (Nat.le_refl _))⟩
  exact ⟨by rw [List.length_append]; exact hz, _, r1.append r2, IsTup.new _ _⟩
end
end L2
namespace L2
open PySem PySem.Spec PyProof.Rows
def ixN (n : Nat) (i : Int) : Option Nat := if 0 ≤ i then (if i < n then some i.toNat else none) else if -(n : Int) ≤ i then some (i + n).toNat else none
def atI {α : Type} (xs : List α) (i : Int) : Option α := (ixN xs.length i).bind fun j => xs[j]?
theorem ixN_seq {n : Nat} {i : Int} {j : Nat} (h : ixN n i = some j) : seqIndex? i n = some j ∧ j < n ∧ -(n : Int) ≤ i ∧ i < n := by
  unfold ixN at h
  by_cases h0 : 0 ≤ i
  · rw [if_pos h0] at h
    by_cases h1 : i < n
    · rw [if_pos h1] at h
      have e : i.toNat = j := Option.some.inj h
      exact ⟨by rw [seqIndex_of h0 h1, e], by omega, by omega, h1⟩
    · rw [if_neg h1] at h; cases h
  · rw [if_neg h0] at h
    by_cases h1 : -(n : Int) ≤ i
    · rw [if_pos h1] at h
      have e : (i + n).toNat = j := Option.some.inj h
      exact ⟨by rw [seqIndex_neg (by omega) h1, e], by omega, h1, by omega⟩
    · rw [if_neg h1] at h; cases h
theorem atI_get {α : Type} {xs : List α} {i : Int} {v : α} (h : atI xs i = some v) : ∃ j, seqIndex? i xs.length = some j ∧ xs[j]? = some v ∧ j < xs.length ∧ -(xs.length : Int) ≤ i ∧ i < xs.length := by
  unfold atI at h
  cases e : ixN xs.length i with
  | none => rw [e] at h; cases h
  | some j =>
    rw [e] at h
    obtain ⟨h1, h2, h3, h4⟩ := ixN_seq e
    exact ⟨j, h1, h, h2, h3, h4⟩
theorem atI_nat {α : Type} {xs : List α} {j : Nat} {v : α} (h : xs[j]? = some v) : atI xs (j : Int) = some v := by
  have hj : j < xs.length := (List.getElem?_eq_some_iff.mp h).1
  have e : ixN xs.length (j : Int) = some j := by
    unfold ixN
    rw [if_pos (by omega), if_pos (by omega)]; simp
  unfold atI; rw [e]; exact h
theorem atI_last {α : Type} (xs : List α) (v : α) : atI (xs ++ [v]) (-1) = some v := by
  have hl : (xs ++ [v]).length = xs.length + 1 := by simp
  have e : ixN (xs ++ [v]).length (-1) = some xs.length := by
    unfold ixN
    rw [hl, if_neg (by decide), if_pos (by omega)]
    congr 1
    omega
  unfold atI
  rw [e]
  show (xs ++ [v])[xs.length]? = some v
  simp
def PlainIx (b : Expr) : Prop := ∀ o i, subscripted b false o i = operate [o, i] (getItem o i)
def IxR (X : Cx) (r : R2) : Prop :=
  ∀ (value slice : Expr) (pins : List (Addr × Obj)) (s : Shared) (σ : St) (H : Hp) (x y : V) (v u : Value) (Q : VK), Inv X pins σ H s → RelV x v → RelV y u → r x y H Q →
    subscripted slice false v u = operate [v, u] (getItem v u) → wpAny (model X.prog X.w) X.A (subscriptTail value slice v u) (EP X pins σ Q) X.xe s
def MtR (X : Cx) (id : String) (r : V → List V → Hp → VK → Prop) : Prop :=
  ∀ (pins : List (Addr × Obj)) (s : Shared) (σ : St) (H : Hp) (x : V) (xs : List V) (v : Value) (us : List Value) (Q : VK), Inv X pins σ H s → RelV x v → Vals xs us → r x xs H Q →
    wpAny (model X.prog X.w) X.A (call (.builtin id) (v :: us)) (EP X pins σ Q) X.xe s
section
variable {X : Cx} {a b : Expr} {ta tb : TE} {pos : Pos}
theorem pe_ix {r : R2} (hr : IxR X r) (ha : PE X a ta) (hb : PE X b tb) (hs : PlainIx b) : PE X (.Subscript a b pos) (tOp r ta tb) := by
  intro pins s σ H Q I h
  exact Subscript_ (binT ha hb I h fun v u s2 x y H2 I2 rx ry q => hr a b pins s2 σ H2 x y v u Q I2 rx ry q (hs _ _))
def rIxL (K : PySem.W.Frag) : R2 := fun x y H Q => ∃ p xs i v, x = .ref p ∧ y = .int i ∧ SqL K H p xs ∧ atI xs i = some v ∧ Q v H
def rIxT (K : PySem.W.Frag) : R2 := fun x y H Q => ∃ p xs i v, x = .ref p ∧ y = .int i ∧ SqT K H p xs ∧ atI xs i = some v ∧ Q v H
theorem ix_list : IxR X (rIxL X.K) := by
  intro value slice pins s σ H x y v u Q I rx ry h hs
  obtain ⟨p, xs, i, z, rfl, rfl, hq, he, q⟩ := h
  cases rx
  obtain ⟨t, rfl⟩ := ry
  obtain ⟨its, r, pl, hz⟩ := I.list hq
  obtain ⟨j, h1, h2, h3, h4, h5⟩ := atI_get he
  obtain ⟨w, ew, rw'⟩ := r.get h2
  have hl := r.length
  have hn := line63
  have fin : EP X pins σ Q w s := ⟨z, H, I, rw', q⟩
  by_cases h0 : 0 ≤ i
  · have hj : i.toNat = j := by
      rw [seqIndex_of h0 h5] at h1
      exact Option.some.inj h1
    exact item_listR pl.isList h0 (by omega) (by rw [hj]; simpa using ew) fin hs
  · have hj : (i + (its.toArray.size : Int)).toNat = j := by
      rw [seqIndex_neg (by omega) h4] at h1
      rw [List.size_toArray, ← hl]
      exact Option.some.inj h1
    exact subscriptTail_builtinR (x := w) pl.isList.typeIs slot_list_getitem.lookup
      (wpAny_getItem_list_neg (Q := fun r s' => r = w ∧ EP X pins σ Q r s') pl.isList (by omega) (by rw [List.size_toArray] <;> omega) (by omega) (by rw [hj]; simpa using ew) ⟨rfl, fin⟩) hs
theorem ix_tup : IxR X (rIxT X.K) := by
  intro value slice pins s σ H x y v u Q I rx ry h hs
  obtain ⟨p, xs, i, z, rfl, rfl, hq, he, q⟩ := h
  cases rx
  obtain ⟨t, rfl⟩ := ry
  obtain ⟨its, r, pl, hz⟩ := I.tuple hq
  obtain ⟨j, h1, h2, h3, h4, h5⟩ := atI_get he
  obtain ⟨w, ew, rw'⟩ := r.get h2
  have hl := r.length
  have hn := line63
  have fin : EP X pins σ Q w s := ⟨z, H, I, rw', q⟩
  exact subscriptTail_builtinR (x := w) pl.typeIs slot_tuple_getitem.lookup
    (getItem_tuple (j := j) (Q := fun r s' => r = w ∧ EP X pins σ Q r s') pl (by omega) (by omega) (by rw [List.size_toArray, ← hl]; exact h1) (by simpa using ew) ⟨rfl, fin⟩) hs
theorem mapSeq_set (its : List Value) (n j : Nat) (u : Value) : Obj.mapSeq (·.setIfInBounds j u) { cls := .type "list", data := .seq its.toArray n } = { cls := .type "list", data := .seq (its.set j u).toArray n } := by
  simp [Obj.mapSeq]
theorem Inv.lst {pins : List (Addr × Obj)} {σ : St} {H : Hp} {s : Shared} {p : Addr} {xs : List V} (I : Inv X pins σ H s) (h : H p = some (.lst xs)) :
    ∃ (its : List Value) (n : Nat), Vals xs its ∧ s.heap.get? p = some { cls := .type "list", data := .seq its.toArray n } ∧ xs.length ≤ sizeLine := by
  obtain ⟨z, its, n, r, e⟩ := I.hok p _ h
  exact ⟨its, n, r, e, z⟩
theorem Inv.lstUpd {pins : List (Addr × Obj)} {σ : St} {H : Hp} {s : Shared} {p : Addr} {xs ys : List V} {its its' : List Value} {n n' : Nat} {f : Obj → Obj} (I : Inv X pins σ H s) (h : H p = some (.lst xs))
    (ho : s.heap.get? p = some { cls := .type "list", data := .seq its.toArray n }) (hf : f { cls := .type "list", data := .seq its.toArray n } = { cls := .type "list", data := .seq its'.toArray n' }) (r : Vals ys its') (hz : ys.length ≤ sizeLine) (t : Nat) :
    Inv X pins σ (upd H p (.lst ys)) { s with heap := s.heap.update p f, toks := t } := by
  have e : (s.heap.update p f).get? p = some { cls := .type "list", data := .seq its'.toArray n' } := by
    rw [Heap.get?_update_self f ho (by rw [hf] <;> rfl), hf]
  refine I.write (x := p) (e := p) (by rw [h]; trivial) (.inl rfl) (fun b u hb q => (Heap.get?_update_other _ _ (Ne.symm hb)).trans q) ⟨_, e⟩ ?_
  exact ⟨hz, its', n', r, e⟩
def rSetL : V → V → V → Hp → (Hp → Prop) → Prop := fun o i v H Q => ∃ p xs k j, o = .ref p ∧ i = .int k ∧ H p = some (.lst xs) ∧ ixN xs.length k = some j ∧ Q (upd H p (.lst (xs.set j v)))
theorem set_list : PSet X rSetL := by
  intro pins s σ H o i v ov iv u Q I ro ri rv h
  obtain ⟨p, xs, k, j, rfl, rfl, hp, hj, q⟩ := h
  cases ro
  obtain ⟨t, rfl⟩ := ri
  obtain ⟨its, n, r, ho, hz⟩ := I.lst hp
  obtain ⟨h1, h2, h3, h4⟩ := ixN_seq hj
  have hl := r.length
  have hn := line63
  have I' : Inv X pins σ (upd H p (.lst (xs.set j v))) { s with heap := s.heap.update p (Obj.mapSeq (·.setIfInBounds j u)) } :=
    I.lstUpd hp ho (mapSeq_set its n j u) (r.set rv j) (by rw [List.length_set]; exact hz) s.toks
  by_cases h0 : 0 ≤ k
  · have hk : k.toNat = j := by
      rw [seqIndex_of h0 h4] at h1
      exact Option.some.inj h1
    exact PySem.W.ki_setAt ho h0 (by omega) (by rw [List.size_toArray, ← hl]; exact h4) (by rw [hk]; exact ⟨_, I', q⟩)
  · have hk : (k + (its.toArray.size : Int)).toNat = j := by
      rw [seqIndex_neg (by omega) h3] at h1
      rw [List.size_toArray, ← hl]
      exact Option.some.inj h1
    exact PySem.W.ki_setBack ho (by omega) (by rw [List.size_toArray, ← hl]; exact h3) (by omega) (by rw [hk]; exact ⟨_, I', q⟩)
def flatV : V → Bool
  | .non => true
  | .bl _ => true
  | .int _ => true
  | .str _ => true
  | _ => false
def eqV : V → V → Bool
  | .non, .non => true
  | .bl a, .bl b => a == b
  | .bl a, .int b => (if a then 1 else 0) == b
  | .int a, .bl b => a == (if b then 1 else 0)
  | .int a, .int b => a == b
  | .str a, .str b => a == b
  | _, _ => false
theorem eqAt_V {A : Around} {s : Shared} {y x : V} {u v : Value} (ry : RelV y u) (rx : RelV x v) (fy : flatV y = true) (fx : flatV x = true) : SeqAt.EqAt A s u v (eqV y x) := by
  cases y with
  | non =>
    cases ry
    cases x with
    | non => cases rx; exact SeqAt.EqAt.same _
    | bl b => cases rx; exact SeqAt.EqAt.none_bool b
    | int b => obtain ⟨t, rfl⟩ := rx; exact SeqAt.EqAt.none_int b t
    | str b => obtain ⟨t, rfl⟩ := rx; exact SeqAt.EqAt.none_str b t
    | _ => exact absurd (show false = true from fx) Bool.false_ne_true
  | bl a =>
    cases ry
    cases x with
    | non => cases rx; exact SeqAt.EqAt.bool_none a
    | bl b => cases rx; exact SeqAt.EqAt.bool_bool a b
    | int b => obtain ⟨t, rfl⟩ := rx; exact SeqAt.EqAt.bool_int a b t
    | str b => obtain ⟨t, rfl⟩ := rx; exact SeqAt.EqAt.bool_str a b t
    | _ => exact absurd (show false = true from fx) Bool.false_ne_true
  | int a =>
    obtain ⟨t', rfl⟩ := ry
    cases x with
    | non => cases rx; exact SeqAt.EqAt.int_none a t'
    | bl b => cases rx; exact SeqAt.EqAt.int_bool a t' b
    | int b => obtain ⟨t, rfl⟩ := rx; exact SeqAt.EqAt.int_int a t' b t
    | str b => obtain ⟨t, rfl⟩ := rx; exact SeqAt.EqAt.int_str a t' b t
    | _ => exact absurd (show false = true from fx) Bool.false_ne_true
  | str a =>
    obtain ⟨t', rfl⟩ := ry
    cases x with
    | non => cases rx; exact SeqAt.EqAt.str_none a t'
    | bl b => cases rx; exact SeqAt.EqAt.str_bool a t' b
    | int b => obtain ⟨t, rfl⟩ := rx; exact SeqAt.EqAt.str_int a t' b t
    | str b => obtain ⟨t, rfl⟩ := rx; exact SeqAt.EqAt.str_str a t' b t
    | _ => exact absurd (show false = true from fx) Bool.false_ne_true
  | _ => exact absurd (show false = true from fy) Bool.false_ne_true
def eqU (x : V) (u : Value) : Bool := match u with
  | .none => eqV .non x
  | .bool b => eqV (.bl b) x
  | .int i _ => eqV (.int i) x
  | .str z _ => eqV (.str z) x
  | _ => false
theorem eqU_of {x y : V} {u : Value} (r : RelV y u) (f : flatV y = true) : eqU x u = eqV y x := by
  cases y with
  | non => cases r; rfl
  | bl b => cases r; rfl
  | int i => obtain ⟨t, rfl⟩ := r; rfl
  | str z => obtain ⟨t, rfl⟩ := r; rfl
  | _ => exact absurd (show false = true from f) Bool.false_ne_true
theorem any_eqU {x : V} : ∀ {xs : List V} {us : List Value}, Vals xs us → xs.all flatV = true → us.any (eqU x) = xs.any fun y => eqV y x
  | _, _, .nil, _ => rfl
  | y :: xs, u :: us, .cons r t, f => by
    rw [List.all_cons, Bool.and_eq_true] at f
    rw [List.any_cons, List.any_cons, eqU_of r f.1, any_eqU t f.2]
theorem mem_eqAt {A : Around} {s : Shared} {x : V} {v : Value} (rx : RelV x v) (fx : flatV x = true) : ∀ {xs : List V} {us : List Value}, Vals xs us → xs.all flatV = true → ∀ u ∈ us, SeqAt.EqAt A s u v (eqU x u)
  | _, _, .nil, _ => fun u hu => by cases hu
  | y :: xs, u :: us, .cons r t, f => fun u' hu => by
    rw [List.all_cons, Bool.and_eq_true] at f
    rcases List.mem_cons.mp hu with rfl | hu
    · rw [eqU_of r f.1]; exact eqAt_V r rx f.1 fx
    · exact mem_eqAt rx fx t f.2 u' hu
def inV (x : V) (xs : List V) : Bool := xs.any fun y => eqV y x
def rIn (K : PySem.W.Frag) (neg : Bool) : R2 := fun x y H Q => ∃ p xs, y = .ref p ∧ (SqL K H p xs ∨ SqT K H p xs) ∧ flatV x = true ∧ xs.all flatV = true ∧ Q (.bl (if neg then !inV x xs else inV x xs)) H
theorem op_in_seq : OpR X (compareOp .In) (rIn X.K false) := by
  intro pins s σ H x y v u Q I rx ry h
  obtain ⟨p, xs, rfl, hq, fx, fs, q⟩ := h
  cases ry
  rcases hq with hq | hq
  · obtain ⟨its, r, pl, hz⟩ := I.list hq
    refine SeqAt.in_listAt (eqU x) pl.isList (fun w hw => mem_eqAt rx fx r fs w (by simpa using hw)) ⟨.bl _, H, I, rfl, ?_⟩
    rw [show its.toArray.any (eqU x) = its.any (eqU x) by simp, any_eqU r fs]
    exact q
  · obtain ⟨its, r, pl, hz⟩ := I.tuple hq
    refine SeqAt.in_tupleAt (eqU x) pl (fun w hw => mem_eqAt rx fx r fs w (by simpa using hw)) ⟨.bl _, H, I, rfl, ?_⟩
    rw [show its.toArray.any (eqU x) = its.any (eqU x) by simp, any_eqU r fs]
    exact q
theorem op_notIn_seq : OpR X (compareOp .NotIn) (rIn X.K true) := by
  intro pins s σ H x y v u Q I rx ry h
  obtain ⟨p, xs, rfl, hq, fx, fs, q⟩ := h
  cases ry
  rcases hq with hq | hq
  · obtain ⟨its, r, pl, hz⟩ := I.list hq
    refine SeqAt.notIn_listAt (eqU x) pl.isList (fun w hw => mem_eqAt rx fx r fs w (by simpa using hw)) ⟨.bl _, H, I, rfl, ?_⟩
    rw [show its.toArray.any (eqU x) = its.any (eqU x) by simp, any_eqU r fs]
    exact q
  · obtain ⟨its, r, pl, hz⟩ := I.tuple hq
    refine SeqAt.notIn_tupleAt (eqU x) pl (fun w hw => mem_eqAt rx fx r fs w (by simpa using hw)) ⟨.bl _, H, I, rfl, ?_⟩
    rw [show its.toArray.any (eqU x) = its.any (eqU x) by simp, any_eqU r fs]
    exact q
theorem call_len_seq : CallR X (.builtin "len") (fun xs H Q => ∃ p ys, xs = [.ref p] ∧ (SqL X.K H p ys ∨ SqT X.K H p ys) ∧ Q (.int ys.length) H) := by
  intro pins s σ H xs us Q I r h
  obtain ⟨p, ys, rfl, hq, q⟩ := h
  obtain ⟨u, rfl, rx⟩ := vals1 r
  cases rx
  have hn := line63
  rcases hq with hq | hq
  · obtain ⟨its, r', pl, hz⟩ := I.list hq
    have hlen := r'.length
    exact Calls.call_len_list pl.isList (by simp only [List.size_toArray] <;> omega) ⟨.int ys.length, H, I.tok _, ⟨s.toks + 1, by rw [List.size_toArray, hlen]⟩, q⟩
  · obtain ⟨its, r', pl, hz⟩ := I.tuple hq
    have hlen := r'.length
    exact len_tuple pl (by simp only [List.size_toArray] <;> omega) ⟨.int ys.length, H, I.tok _, ⟨s.toks + 1, by rw [List.size_toArray, hlen]⟩, q⟩
theorem call_len_str : CallR X (.builtin "len") (fun xs H Q => ∃ z, xs = [.str z] ∧ z.length ≤ sizeLine ∧ Q (.int z.length) H) := by
  intro pins s σ H xs us Q I r h
  obtain ⟨z, rfl, hz, q⟩ := h
  obtain ⟨u, rfl, t, rfl⟩ := vals1 r
  have hn := line63
  exact len_str (by omega) ⟨.int z.length, H, I.tok _, ⟨_, rfl⟩, q⟩
theorem call_list_of : CallR X (.type "list") (fun xs H Q => ∃ p ys, xs = [.ref p] ∧ (SqL X.K H p ys ∨ SqT X.K H p ys) ∧ ∀ l, H l = none → Q (.ref l) (upd H l (.lst ys))) := by
  intro pins s σ H xs us Q I r h
  obtain ⟨p, ys, rfl, hq, q⟩ := h
  obtain ⟨u, rfl, rx⟩ := vals1 r
  cases rx
  have fin : ∀ (its : List Value), Vals ys its → ys.length ≤ sizeLine → ∀ (h' : Heap) (c' : Nat), (∀ b o', s.heap.get? b = some o' → h'.get? b = some o') →
      h'.get? s.heap.objs.size = some { cls := .type "list", dict := none, data := .seq its.toArray c', slots := #[] } → EP X pins σ Q (.ref s.heap.objs.size) { s with heap := h' } := fun its r' hz h' c' kp e =>
    ⟨.ref s.heap.objs.size, _, I.laid (t' := s.toks) kp (Nat.le_refl _) (show ObjOk X.prog X.w _ h' _ (.lst ys) from ⟨hz, its, c', r', e⟩), rfl, q _ (I.hok.fresh (Nat.le_refl _))⟩
  rcases hq with hq | hq
  · obtain ⟨its, r', pl, hz⟩ := I.list hq
    have hlen := r'.length
    obtain ⟨o, ho, hc, n, hd⟩ := pl.isList
    exact call_list_seq p (.inl rfl) ho hc hd (fun h' c' kp e => fin its r' hz h' c' kp e) (by simp only [List.size_toArray] <;> omega)
  · obtain ⟨its, r', pl, hz⟩ := I.tuple hq
    have hlen := r'.length
    obtain ⟨o, ho, hc, n, hd⟩ := pl
    exact call_list_seq p (.inr rfl) ho hc hd (fun h' c' kp e => fin its r' hz h' c' kp e) (by simp only [List.size_toArray] <;> omega)
theorem call_tuple_of : CallR X (.type "tuple") (fun xs H Q => ∃ p ys, xs = [.ref p] ∧ ((SqL X.K H p ys ∧ ∀ l, H l = none → Q (.ref l) (upd H l (.tup ys))) ∨ (SqT X.K H p ys ∧ Q (.ref p) H))) := by
  intro pins s σ H xs us Q I r h
  obtain ⟨p, ys, rfl, h⟩ := h
  obtain ⟨u, rfl, rx⟩ := vals1 r
  cases rx
  rcases h with ⟨hq, q⟩ | ⟨hq, q⟩
  · obtain ⟨its, r', pl, hz⟩ := I.list hq
    have hlen := r'.length
    refine call_tuple_list pl.isList (fun h' kp => ?_) (by simp only [List.size_toArray] <;> omega)
    have I1 : Inv X pins σ H { s with heap := h' } := I.kept (t' := s.toks) kp
    have I2 : Inv X pins σ (upd H h'.objs.size (.tup ys)) { s with heap := h'.push { cls := .type "tuple", data := .seq its.toArray } } :=
      I1.laid (t' := s.toks) (fun b o e => Heap.get?_push_of_some _ e) (Nat.le_refl _) (show ObjOk X.prog X.w _ _ _ (.tup ys) from ⟨hz, its, r', IsTup.new _ _⟩)
    exact ⟨.ref h'.objs.size, _, I2, rfl, q _ (I1.hok.fresh (Nat.le_refl _))⟩
  · obtain ⟨its, r', pl, hz⟩ := I.tuple hq
    exact call_tuple_same pl ⟨.ref p, H, I, rfl, q⟩
def tyV (K : PySem.W.Frag) (T : String) (x : V) (H : Hp) : Prop := match x with
  | .str _ => T = "str"
  | .int _ => T = "int"
  | .ref p => (T = "list" ∧ ∃ xs, SqL K H p xs) ∨ (T = "tuple" ∧ ∃ o, K.lookup p = some o ∧ o.cls = .type "tuple" ∧ o.dict = none) ∨
      (T = "dict" ∧ ((∃ kvs, H p = some (.dK kvs)) ∨ ∃ kvs, H p = some (.dT kvs))) ∨ (T = "set" ∧ ∃ S n, H p = some (.set S n))
  | _ => False
theorem tyV_is {pins : List (Addr × Obj)} {σ : St} {H : Hp} {s : Shared} {T : String} {x : V} {v : Value} (I : Inv X pins σ H s) (r : RelV x v) (ty : tyV X.K T x H) :
    s.TypeIs v T ∧ ∀ a, v = .ref a → ∃ ob, s.heap.get? a = some ob ∧ ob.dict = none := by
  cases x with
  | str z =>
    obtain ⟨t, rfl⟩ := r
    cases (show T = "str" from ty)
    exact ⟨typeIs_str s z t, fun _ e => nomatch e⟩
  | int i =>
    obtain ⟨t, rfl⟩ := r
    cases (show T = "int" from ty)
    exact ⟨typeIs_int s i t, fun _ e => nomatch e⟩
  | ref p =>
    cases r
    rcases ty with ⟨rfl, xs, hq⟩ | ⟨rfl, o, hk, hc, hd⟩ | ⟨rfl, hk⟩ | ⟨rfl, S, n, hk⟩
    · obtain ⟨its, _, pl, _⟩ := I.list hq
      refine ⟨pl.isList.typeIs, fun a e => ?_⟩
      cases e
      obtain ⟨o, n, e, c, hd, _⟩ := pl
      exact ⟨o, e, hd⟩
    · refine ⟨⟨o, I.kIn p o hk, hc⟩, fun a e => ?_⟩
      cases e
      exact ⟨o, I.kIn _ o hk, hd⟩
    · have z : ∃ o, s.heap.get? p = some o ∧ o.ExactDict := by
        rcases hk with ⟨kvs, hk⟩ | ⟨kvs, hk⟩
        · obtain ⟨_, _, _, _, o, _, _, e, ex, _⟩ := I.hok p _ hk
          exact ⟨o, e, ex⟩
        · obtain ⟨_, _, _, _, o, _, _, e, ex, _⟩ := I.hok p _ hk
          exact ⟨o, e, ex⟩
      obtain ⟨o, e, ex⟩ := z
      refine ⟨⟨o, e, ex.1⟩, fun a e2 => ?_⟩
      cases e2
      exact ⟨o, e, ex.2.1⟩
    · obtain ⟨o, _, _, _, e, ex, _⟩ := I.hok p _ hk
      refine ⟨⟨o, e, ex.1⟩, fun a e2 => ?_⟩
      cases e2
      exact ⟨o, e, ex.2.1⟩
  | _ => exact False.elim ty
def tBM (K : PySem.W.Frag) (T : String) (r : V → List V → Hp → VK → Prop) (to : TE) (t : TA) : TE := fun σ H Q => to σ H fun x H1 => tyV K T x H1 ∧ t σ H1 fun xs H2 => r x xs H2 Q
variable {o e : Expr} {es : List Expr} {to : TE} {t : TA} {name : Str} {apos cpos : Pos} {T id : String} {r : V → List V → Hp → VK → Prop}
theorem pe_bm (pa : PlainAttrs T) (slot : Slot T name id) (hty : typeOf (.builtin id) = pure (.type "method_descriptor")) (hm : MtR X id r) (ho : PE X o to) (ha : PA X (e :: es) t)
    (hbase : attributeBase o name X.env (eval o X.env) = eval o X.env := by rfl)
    (hfew : ((backTo cpos (starEach (e :: es) X.env)).all (fun x => !x.1) && (backToKw cpos (keywordEach [] X.env)).all (fun x => x.1.isSome)
      && decide ((e :: es).length + ([] : List Keyword).length + (if ([] : List Keyword).isEmpty then 0 else 1) < 30)) = true := by rfl)
    (hline : (apos.endLine == cpos.line) = true := by rfl) (hs : starEach (e :: es) X.env = (false, eval e X.env) :: starEach es X.env := by rfl) (hplain : (backTo cpos (starEach es X.env)).any (·.1) = false := by rfl) :
    PE X (.Call (.Attribute o name apos) (e :: es) [] cpos) (tBM X.K T r to t) := by
  intro pins s σ H Q I h
  refine wpAny_Call_method_late hbase hfew hline rfl (thn (ho pins s σ H _ I h) fun v s1 ⟨x, H1, I1, r1, ty, q1⟩ => ?_)
  obtain ⟨h1, h2⟩ := tyV_is I1 r1 ty
  refine ⟨T, id, pa, slot, hty, h1, h2, ?_⟩
  have hA := ha cpos pins s1 σ H1 _ I1 q1
  rw [hs] at hA ⊢
  refine Calls.callWith_builtin (by show (false || (backTo cpos (starEach es X.env)).any (·.1)) = false; rw [hplain] <;> rfl) (Calls.evalArgs_plain ?_)
  exact thn hA fun us s2 ⟨vs, H2, I2, r2, q2⟩ => hm pins s2 σ H2 x vs v us Q I2 r1 r2 q2
end
end L2
namespace L2
open PySem PySem.Spec PyProof.Rows
def MtM (X : Cx) (id : String) (r : V → List V → Hp → VK → Prop) : Prop :=
  ∀ (pins : List (Addr × Obj)) (s : Shared) (σ : St) (H : Hp) (x : V) (xs : List V) (v : Value) (us : List Value) (Q : VK), Inv X pins σ H s → RelV x v → Vals xs us → r x xs H Q →
    wpAny (model X.prog X.w) X.A (call (.builtin id) (v :: us)) (EP X pins σ Q) X.xe s
theorem Vals.one : ∀ {x : V} {us : List Value}, Vals [x] us → ∃ u, us = [u] ∧ RelV x u
  | _, _, .cons r .nil => ⟨_, rfl, r⟩
theorem Vals.two : ∀ {x y : V} {us : List Value}, Vals [x, y] us → ∃ u v, us = [u, v] ∧ RelV x u ∧ RelV y v
  | _, _, _, .cons r (.cons q .nil) => ⟨_, _, rfl, r, q⟩
theorem Vals.zero : ∀ {us : List Value}, Vals [] us → us = []
  | _, .nil => rfl
theorem Vals.dropLast {xs : List V} {us : List Value} (h : Vals xs us) : Vals xs.dropLast us.dropLast := by
  induction h with
  | nil => exact .nil
  | cons r t ih =>
    cases t with
    | nil => exact .nil
    | cons q t' => exact .cons r ih
section
variable {X : Cx} {pins : List (Addr × Obj)} {σ : St} {H : Hp} {s : Shared} {l b : Addr} {xs ys zs : List V}
theorem Inv.lset {its its' : List Value} {n : Nat} {f : Array Value → Array Value} {t' : Nat} (I : Inv X pins σ H s) (hH : H l = some (.lst xs))
    (e : s.heap.get? l = some { cls := .type "list", data := .seq its.toArray n }) (hf : f its.toArray = its'.toArray) (hv : Vals ys its') (hz : ys.length ≤ sizeLine) :
    Inv X pins σ (upd H l (.lst ys)) { s with heap := s.heap.update l (Obj.mapSeq f), toks := t' } := by
  have q := PySem.IsL.update e f
  rw [hf] at q
  refine I.write (x := l) (e := l) (by rw [hH]; exact trivial) (.inl rfl) (fun b' u hb hu => (Heap.get?_update_other s.heap (Obj.mapSeq f) (Ne.symm hb)).trans hu) ⟨_, q⟩ ?_
  exact ⟨hz, its', _, hv, q⟩
theorem Inv.fresh (I : Inv X pins σ H s) : H s.heap.objs.size = none := I.hok.fresh (Nat.le_refl _)
theorem Inv.lstM (I : Inv X pins σ H s) (hH : H l = some (.lst xs)) : xs.length ≤ sizeLine ∧ ∃ (its : List Value) (n : Nat), Vals xs its ∧ xs.length = its.length ∧ s.heap.get? l = some { cls := .type "list", data := .seq its.toArray n } := by
  obtain ⟨z, its, n, r, e⟩ := I.hok l _ hH
  exact ⟨z, its, n, r, r.length, e⟩
end
section
variable {X : Cx}
def rAppend : V → List V → Hp → VK → Prop := fun x vs H Q => ∃ l xs y, x = .ref l ∧ vs = [y] ∧ H l = some (.lst xs) ∧ xs.length < sizeLine ∧ Q .non (upd H l (.lst (xs ++ [y])))
theorem mt_append : MtM X "list.append" rAppend := by
  intro pins s σ H x vs v us Q I rx rv h
  obtain ⟨l, xs, y, rfl, rfl, hH, hz, q⟩ := h
  cases rx
  obtain ⟨u, rfl, ru⟩ := rv.one
  obtain ⟨z, its, n, r, hl, e⟩ := I.lstM hH
  refine call_meets F.slot_list_append ⟨_, e, rfl⟩ F.entry_list_append (F.args_list_append_2 _ _) (PySem.list_append l its.toArray n u (by rw [List.size_toArray]; omega)) ⟨e, ?_⟩
  refine ⟨.non, _, I.lset (its' := its ++ [u]) hH e (by simp) (r.append (.cons ru .nil)) ?_, rfl, q⟩
  rw [List.length_append, List.length_singleton]
  omega
end
section
variable {prog : Program} {w : World} {A : Around} {E : Value → Shared → Prop} {s : Shared}
end
section
variable {X : Cx}
end
end L2
namespace Att
open PySem PySem.W PySem.Calls PyProof.Rows
theorem ints_of_wellAll {P : Params} {h : Heap} : ∀ (ns : List Int) (vs : List Value), WellAll P h vs (ns.map WData.int) → IntsAre vs ns := by
  intro ns
  induction ns with
  | nil =>
    intro vs w
    rw [List.map_nil] at w
    cases w
    exact .nil
  | cons n ns ih =>
    intro vs w
    rw [List.map_cons] at w
    cases w with
    | cons a b =>
      cases a
      exact .cons _ _ (ih _ b)
theorem script_of {l : OpenLaw} {n : Nat} (hn : l.most = some n) {P : Params} {h : Heap} {args : List WData} {vals : List Value}
    (hpre : l.row.toRowW.claim.pre args = true) (hwl : WellAll P h vals args) :
    ∃ a vs ns, vals = [Value.ref a] ∧ args = [WData.list (ns.map WData.int)] ∧ h.get? a = some { cls := .type "list", data := .seq vs.toArray } ∧ IntsAre vs ns ∧ ns.length ≤ n := by
  have hsh : WShape.hasAll [] args [.list .int] = true := (pre_splitW hpre).1
  have hc : l.pre.holds [] { args := args } = true := (pre_splitW hpre).2
  obtain ⟨d, r, rfl, h1, h2⟩ := hasAllW_cons hsh
  obtain rfl := hasAllW_nil h2
  obtain ⟨xs, rfl, h3⟩ := hasW_list h1
  obtain ⟨ns, rfl⟩ := items_int h3
  have hlen : ns.length ≤ n := by
    unfold OpenLaw.pre at hc
    have h4 : (WTm.not (.lt (.lit (.int (n : Int))) (.len (.arg 0)))).holds [] { args := [.list (ns.map .int)] } = true := by
      have h4 := (holds_andW hc).1
      rw [hn] at h4
      exact h4
    have h5 := condW_of h4 (w_not (w_lt w_lit (w_len_list (w_arg rfl))))
    rw [List.length_map] at h5
    refine Nat.le_of_not_lt fun q => ?_
    have q' : (n : Int) < ((ns.length : Nat) : Int) := by omega
    first
      | (rw [decide_eq_true q'] at h5; exact absurd h5 (by decide))
      | (simp at h5; omega)
  cases hwl with
  | cons w1 w2 =>
    cases w2
    cases w1 with
    | list ho hall => exact ⟨_, _, ns, rfl, rfl, ho, ints_of_wellAll ns _ hall, hlen⟩
theorem post_true (l : OpenLaw) (args : List WData) : l.row.toRowW.claim.post args (.bool true) args = true :=
  postW_of (r := l.row.toRowW) (X := (true == true))
    (show WShape.has [] (.bool true) .bool = true by first | rfl | decide | simp [WShape.has, WShape.arms, WShape.armsAll])
    (show (WTm.eq .res (.lit (.bool true))).value [] { args := args, res := some (.bool true), after := args } = some (.bool (true == true)) from w_eq_bool (w_res rfl) w_lit) rfl
theorem attach_call {l : OpenLaw} {n : Nat} {q : Program} {loose : List Str} {XP : (Str → Option Value) → Heap → Prop} {YP : World → Heap → Prop} {d : DefRec}
    (hn : l.most = some n) (hdf : d.params.defaults = [])
    (call : ∀ (w : World) (s₀ s₁ : Shared) (mg mb : Str → Option Value) (fa : Addr) (o : Obj) (pm cd doc : Value) (a : Addr) (vs : List Value) (ns : List Int),
      Ground q loose [] XP w s₀ mg mb s₁.heap → YP w s₁.heap →
      s₁.heap.get? fa = some o → o.data = .func (docDef d.name d.params d.body d.scope pm cd doc) → s₁.heap.CodeRec cd d.name → mg d.name = some (.ref fa) →
      s₁.heap.get? a = some { cls := .type "list", data := .seq vs.toArray } → IntsAre vs ns → ns.length ≤ n → s₁.gens = #[] →
      codeAny (model l.prog w) callerA (.call (.ref fa) ⟨[.ref a], []⟩) (fun r s' => r = .ok (.ret (.bool true)) ∧ OldK s₁.heap s'.heap ∧ s'.os = s₁.os ∧ AllBare s'.gens) s₁) :
    WalkO q loose XP YP l.row.toRowW d [] (fun f vs => PySem.call f vs) := by
  intro w s₀ s₁ mg mb G Y fa o pm cd doc dV kV ho hd hcd hD hmg hg args vals as hpre hlay hrd hwl hlo
  obtain rfl : dV = .none := Dflts.none hD hdf
  obtain rfl : kV = .none := Dflts.noKw hD
  obtain ⟨a, vs, ns, rfl, rfl, hobj, hints, hlen⟩ := script_of hn hpre hwl
  refine enter_call (codeAny_mono (call w s₀ s₁ mg mb fa o pm cd doc a vs ns G Y ho (fd_plain hd) hcd hmg hobj hints hlen hg) fun r s' hq => ?_)
  obtain ⟨rfl, h2, h3, h4⟩ := hq
  exact ⟨.inl ⟨.bool true, .bool true, [], rfl, fun _ => rfl, .bool true, post_true l _, fun _ => ⟨List.Pairwise.nil, fun _ hm => (nomatch hm)⟩⟩, h2, h3, h4⟩
section
variable {prog : Program} {w : World} {A : Around} {E : Value → Shared → Prop} {s : Shared} {K : Frag}
end
end Att
namespace L2
open PySem PySem.Spec PyProof.Rows
theorem vals_ints : ∀ {vs : List Value} {ns : List Int}, IntsAre vs ns → Vals (ns.map V.int) vs
  | _, _, .nil => .nil
  | _, _, .cons n t h => .cons ⟨t, rfl⟩ (vals_ints h)
def Only (H : Hp) : Prop := ∀ b, H b = none ∨ ∃ o xs, H b = some (.frz o (.lst xs))
theorem law_call {P : Program} {w : World} {K : PySem.W.Frag} {mg mb : Str → Option Value} {CX : CXT} {k : Nat} {fa a : Addr} {fd : FuncData} {x : Str} {sp : Sp} {s₁ : Shared} {vs : List Value} {ns : List Int}
    (KX : K.In s₁.heap) (hns : s₁.heap.Ns mainGlobals mg) (hb : s₁.heap.Ns builtinsNs mb) (hbb : ∀ x : Str, x ≠ "__name__" → mb x = bootBuiltins x) (hlim : s₁.heap.NoLimit) (hg : s₁.gens = #[])
    (ha : s₁.heap.get? a = some { cls := .type "list", data := .seq vs.toArray }) (hi : IntsAre vs ns) (hl : ns.length ≤ sizeLine) (hr : Room k callerA)
    (F : ∀ base : Heap, K.In base → base.Ns mainGlobals mg → FnOk P w K mg base CX k fa fd [x] sp) (hbind : ∀ (s : Shared) (u : Value), BindsTo s fd ⟨[u], []⟩ [(x, u)])
    (hsp : ∀ H : Hp, Only H → SqL K H a (ns.map V.int) → sp [.ref a] H (fun v _ => v = .bl true) fun _ _ _ => False)
    (hCX : ∀ H e s', CX [] H s₁ (fun _ _ _ => False) e s' → False) :
    codeAny (model P w) callerA (.call (.ref fa) ⟨[.ref a], []⟩) (fun r s' => r = .ok (.ret (.bool true)) ∧ OldK s₁.heap s'.heap ∧ s'.os = s₁.os ∧ AllBare s'.gens) s₁ := by
  have rv := vals_ints hi
  have lenV := hi.length
  have core : ∀ H : Hp, Only H → SqL K H a (ns.map V.int) → HOk P w H s₁.heap → (∀ b, H b ≠ none → b = a) → (H a ≠ none → K.lookup a = none) →
      codeAny (model P w) callerA (.call (.ref fa) ⟨[.ref a], []⟩) (fun r s' => r = .ok (.ret (.bool true)) ∧ OldK s₁.heap s'.heap ∧ s'.os = s₁.os ∧ AllBare s'.gens) s₁ := by
    intro H hO hS hok hA hK
    have base_of : ∀ {b : Addr} {o : Obj}, s₁.heap.get? b = some o → H b = none → (hidT s₁.heap H).get? b = some o := fun e n => hidT_get e n
    have noA : ∀ {b : Addr} {o : Obj} {es : Array DictEntry} {ep : Nat}, s₁.heap.get? b = some o → o.data = .dict es ep → H b = none := fun {b o es ep} e d => by
      cases q : H b with
      | none => rfl
      | some u =>
        have e' : b = a := hA b (by rw [q]; simp)
        subst e'
        rw [ha] at e; cases e
        have d' : Data.seq vs.toArray _ = Data.dict es ep := d
        cases d'
    have nsK : ∀ {b : Addr} {m : Str → Option Value}, s₁.heap.Ns b m → (hidT s₁.heap H).Ns b m := fun {b m} ⟨o, es, ep, e, d, r⟩ => ⟨o, es, ep, base_of e (noA e d), d, r⟩
    have hKb : K.In (hidT s₁.heap H) := fun b o e => base_of (KX b o e) (by
      cases q : H b with
      | none => rfl
      | some u =>
        have e' : b = a := hA b (by rw [q]; simp)
        subst e'
        rw [hK (by rw [q]; simp)] at e; cases e)
    have hM : Mod K mg (hidT s₁.heap H) := ⟨hKb, nsK hns, ⟨mb, nsK hb, hbb⟩, let ⟨mc, h1, h2⟩ := hlim; ⟨mc, nsK h1, h2⟩⟩
    have e0 : Env0 P w K mg (hidT s₁.heap H) callerA [] s₁ H := ⟨rfl, hM, fun b o e => of_hidT e, Nat.le_of_eq (hidT_size _ _), trivial, fun b hb => absurd (show b ∈ ([] : List Addr) from hb) (by simp), hok, .of_eq hg⟩
    refine codeAny_mono ((F _ hKb (nsK hns)).run callerA [] s₁ H ⟨[.ref a], []⟩ [.ref a] [.ref a] _ _ hr e0 (hbind s₁ (.ref a)) (.cons rfl .nil) (hsp H hO hS)) fun r s' h => ?_
    cases r with
    | error e => exact (hCX H e s' h).elim
    | ok fl =>
      cases fl with
      | next => exact False.elim h
      | brk => exact False.elim h
      | cont => exact False.elim h
      | ret u =>
        obtain ⟨v, H', os, bare, un, hok', r', q⟩ := h
        have q' : v = .bl true := q
        subst q'
        obtain rfl : u = Value.bool true := r'
        refine ⟨rfl, OldK.of_keep fun b o e => ?_, os, bare⟩
        cases q : H b with
        | none => exact un.keep b o e q (by intro z; exact absurd (show b ∈ ([] : List Addr) from z) (by simp)) (by simp)
        | some u =>
          rcases hO b with z | ⟨ob, xs, z⟩
          · rw [q] at z; cases z
          · have z2 := un.frzs b ob _ z
            obtain ⟨e1, _⟩ := hok b _ z
            obtain ⟨e2, _⟩ := hok' b _ z2
            rw [e] at e1; cases e1
            exact e2
  cases hk : K.lookup a with
  | some o =>
    have e := KX a o hk
    rw [ha] at e
    cases e
    refine core (fun _ => none) (fun _ => .inl rfl) (.inr ⟨_, vs.toArray, _, hk, rfl, rfl, rfl, by rw [List.size_toArray, lenV]; exact hl, by simpa using rv⟩) (fun b u z => by have z' : (none : Option HO) = some u := z; cases z') (fun b z => absurd rfl z) fun z => absurd rfl z
  | none =>
    refine core (fun b => if b = a then some (.frz { cls := .type "list", data := .seq vs.toArray } (.lst (ns.map V.int))) else none) (fun b => ?_) (.inl (.inr ⟨{ cls := .type "list", data := .seq vs.toArray }, if_pos rfl⟩)) (fun b u z => ?_) (fun b z => ?_) fun _ => hk
    · by_cases hb : b = a
      · exact .inr ⟨_, _, if_pos hb⟩
      · exact .inl (if_neg hb)
    · by_cases hb : b = a
      · have z' := (if_pos hb).symm.trans z
        cases z'
        subst hb
        exact ⟨ha, by rw [List.length_map]; exact hl, vs, _, rv, ha⟩
      · have z' := (if_neg hb).symm.trans z
        cases z'
    · by_cases hb : b = a
      · exact hb
      · exact absurd (if_neg hb) z
end L2
namespace L2
open PySem PySem.Spec PyProof.Rows
theorem walk_of {l : PySem.W.OpenLaw} {n k : Nat} {q : Program} {loose : List Str} {XP : (Str → Option Value) → Heap → Prop} {YP : World → Heap → Prop} {d : DefRec} {K : Params → PySem.W.Frag} {CX : World → CXT} {sp : World → Sp} {x : Str}
    (hn : l.most = some n) (hn2 : n ≤ sizeLine) (hdf : d.params.defaults = []) (hr : Room k callerA)
    (hY : ∀ (w : World) (h : Heap), YP w h → (K w.params).In h)
    (F : ∀ (w : World) (mg : Str → Option Value) (fa : Addr) (h : Heap), (K w.params).In h → h.Ns mainGlobals mg → mg d.name = some (.ref fa) →
      ∃ fd : FuncData, (∀ (s : Shared) (u : Value), BindsTo s fd ⟨[u], []⟩ [(x, u)]) ∧
        ∀ base : Heap, (K w.params).In base → base.Ns mainGlobals mg → FnOk l.prog w (K w.params) mg base (CX w) k fa fd [x] (sp w))
    (hsp : ∀ (w : World) (H : Hp) (a : Addr) (ns : List Int), ns.length ≤ n → Only H → SqL (K w.params) H a (ns.map V.int) → sp w [.ref a] H (fun v _ => v = .bl true) fun _ _ _ => False)
    (hCX : ∀ (w : World) (H : Hp) (s : Shared) (e : Value) (s' : Shared), CX w [] H s (fun _ _ _ => False) e s' → False) :
    PySem.W.WalkO q loose XP YP l.row.toRowW d [] (fun f vs => PySem.call f vs) := by
  refine Att.attach_call hn hdf fun w s₀ s₁ mg mb fa o pm cd doc a vs ns G Y ho hd hcd hmg hobj hints hlen hg => ?_
  have KX := hY w _ Y
  obtain ⟨fd, hb, hF⟩ := F w mg fa _ KX G.T.g hmg
  exact law_call KX G.T.g G.T.b G.T.builtins G.T.nolimit hg hobj hints (Nat.le_trans hlen hn2) hr hF hb (fun H hO hS => hsp w H a ns hlen hO hS) fun H e s' => hCX w H s₁ e s'
end L2
namespace L2
open PySem PySem.Spec PyProof.Rows
def inClass (s : Stmt) (j : Nat) : Stmt := match s with
  | .ClassDef _ _ _ body _ _ _ _ _ _ _ => body.getD j (.Pass ⟨0, 0, 0, 0⟩)
  | _ => .Pass ⟨0, 0, 0, 0⟩
def defArgs (s : Stmt) : Arguments := match s with
  | .FunctionDef _ a _ _ _ _ _ _ _ _ => a
  | _ => { posonlyargs := [], args := [], vararg := none, kwonlyargs := [], kw_defaults := [], kwarg := none, defaults := [] }
def defBody (s : Stmt) : List Stmt := match s with
  | .FunctionDef _ _ b _ _ _ _ _ _ _ => b
  | _ => []
def defScope (s : Stmt) : Scope := match s with
  | .FunctionDef _ _ _ _ _ _ sc _ _ _ => sc
  | _ => { kind := .function, names := [], isGenerator := false, isCoroutine := false }
abbrev CX0 : CXT := fun _ _ _ _ _ _ => False
abbrev E0 : XK := fun _ _ _ => False
theorem pass0 {X : Cx} : Passes CX0 X E0 := fun _ _ _ _ _ _ _ h => h.elim
structure Fun (K : PySem.W.Frag) (x qual : Str) (st : Stmt) (f : Addr) (fd : FuncData) : Prop where
  ex : ∃ (oc : Value) (od : Option Addr) (kV doc pm : Value) (an : Option Addr) (cdv ct : Value) (osl : Array (Option Value)),
    fd = PySem.W.fnOf x qual (defArgs st) (defBody st) (defScope st) .none kV doc pm an cdv ct ∧ K.lookup f = some ⟨oc, od, .func fd, osl⟩ ∧ PySem.W.codeIn K cdv qual = true
  kp : PySem.W.keepIn K (.ref f) = true
section
variable {P : Program} {w : World} {K : PySem.W.Frag} {mg : Str → Option Value} {base : Heap}
theorem Fun.ok {x qual : Str} {st : Stmt} {f : Addr} {fd : FuncData} {N ps : List Str} {k : Nat} {sp : Sp} (F : Fun K x qual st f fd) (S : FnScope N ps (defScope st)) (len : ∀ vs H Q E, sp vs H Q E → vs.length = ps.length)
    (hbody : ∀ (cdv : Value) (A : Around) (outer : List Env) (s : Shared) (H : Hp) (vs : List V) (Q : VK) (E : XK), Room k (A.deeper (envOfC qual (defScope st) s.heap.objs.size f cdv)) → sp vs H Q E →
      ∃ t, PSs (cxOf CX0 P w K mg base N qual (defScope st) f cdv A outer s H E).nox (defBody st) t ∧ t { nx := fun _ H' => Q .non H', rt := Q } (start N vs) H) : FnOk P w K mg base CX0 (k + 1) f fd ps sp := by
  obtain ⟨oc, od, kV, doc, pm, an, cdv, ct, osl, rfl, lk, hcd⟩ := F.ex
  refine fn_of lk hcd S len fun A outer s H vs Q E hr hsp => ?_
  obtain ⟨t, h, q⟩ := hbody cdv A outer s H vs Q E hr hsp
  exact ⟨t, h.nox, q⟩
theorem Fun.binds {x qual : Str} {st : Stmt} {f : Addr} {fd : FuncData} {ps : List Str} (F : Fun K x qual st f fd)
    (h : ∀ (kV doc pm : Value) (an : Option Addr) (cdv ct : Value) (us : List Value), us.length = ps.length → bindArgs (PySem.W.fnOf x qual (defArgs st) (defBody st) (defScope st) .none kV doc pm an cdv ct) ⟨us, []⟩ = pure (ps.zip us)) : Binds K fd ps [] := by
  obtain ⟨oc, od, kV, doc, pm, an, cdv, ct, osl, rfl, lk, hcd⟩ := F.ex
  exact .all (h kV doc pm an cdv ct)
theorem fun_mk {x qual : Str} {st : Stmt} {f : Addr} {oc : Value} {od an : Option Addr} {osl : Array (Option Value)} {kV doc pm cdv ct : Value} (l : K.lookup f = some ⟨oc, od, .func (PySem.W.fnOf x qual (defArgs st) (defBody st) (defScope st) .none kV doc pm an cdv ct), osl⟩)
    (c : PySem.W.codeIn K cdv qual = true) (k : PySem.W.keepIn K (.ref f) = true) : Fun K x qual st f (PySem.W.fnOf x qual (defArgs st) (defBody st) (defScope st) .none kV doc pm an cdv ct) := ⟨⟨oc, od, kV, doc, pm, an, cdv, ct, osl, rfl, l, c⟩, k⟩
end
section
variable {X : Cx}
theorem pv (i : Nat) {x : Str} {pos : Pos} (hN : X.N[i]? = some x := by rfl) (hv : Vis X.env.scope x := by first | exact Or.inl rfl | exact Or.inr (Or.inl rfl) | exact Or.inr (Or.inr rfl)) (hd : (x == ("__debug__" : Str)) = false := by decide)
    (hcd : (x == ("__classdict__" : Str)) = false := by decide) : PE X (.Name x pos) (tVar i) := pe_var hN hv hd hcd
end
theorem iteF {A B : Prop} (h : B) : if false = true then A else B := by
  rw [if_neg Bool.false_ne_true]
  exact h
theorem iteT {A B : Prop} (h : A) : if true = true then A else B := by
  rw [if_pos rfl]
  exact h
def Same (H H' : Hp) : Prop := ∀ b o, H b = some o → H' b = some o
theorem Same.refl (H : Hp) : Same H H := fun _ _ h => h
theorem Same.trans {H H1 H2 : Hp} (a : Same H H1) (b : Same H1 H2) : Same H H2 := fun c o h => b c o (a c o h)
theorem Same.free {H H' : Hp} (e : Same H H') {l : Addr} (h : H' l = Option.none) : H l = Option.none := by
  cases q : H l with
  | none => rfl
  | some o =>
    rw [e l o q] at h
    cases h
theorem Same.seq {K : PySem.W.Frag} {H H' : Hp} {a : Addr} {xs : List V} (e : Same H H') (h : SqL K H a xs) : SqL K H' a xs := by
  rcases h with (h | ⟨o, h⟩) | h
  · exact .inl (.inl (e _ _ h))
  · exact .inl (.inr ⟨o, e _ _ h⟩)
  · exact .inr h
end L2
set_option maxRecDepth 100000
set_option maxHeartbeats 4000000
namespace L2
open PySem PySem.Spec PyProof.Rows
def OwnG (k : Nat) (g : TG) : Prop := ∀ v σ H (Q Q' : St → Hp → Prop),
  (∀ σ2 H2, σ2.length = σ.length → (∀ j, k ≤ j → σ2[j]? = σ[j]?) → Q σ2 H2 → Q' σ2 H2) → g v σ H Q → g v σ H Q'
def OwnGs (k : Nat) (t : TGs) : Prop := ∀ vs σ H (Q Q' : St → Hp → Prop),
  (∀ σ2 H2, σ2.length = σ.length → (∀ j, k ≤ j → σ2[j]? = σ[j]?) → Q σ2 H2 → Q' σ2 H2) → t vs σ H Q → t vs σ H Q'
theorem own_name {k i : Nat} (h : i < k) : OwnG k (gName i) := by
  intro v σ H Q Q' m q
  refine m _ _ (by simp) (fun j hj => ?_) q
  rw [List.getElem?_set_ne (by omega)]
theorem own_nil {k : Nat} : OwnGs k gNil := fun vs σ H Q Q' m ⟨e, q⟩ => ⟨e, m _ _ rfl (fun _ _ => rfl) q⟩
theorem own_cons {k : Nat} {t : TG} {u : TGs} (ht : OwnG k t) (hu : OwnGs k u) : OwnGs k (gCons t u) := by
  rintro vs σ H Q Q' m ⟨v, r, e, q⟩
  refine ⟨v, r, e, ht v σ H _ _ (fun σ2 H2 l2 k2 q2 => ?_) q⟩
  exact hu r σ2 H2 _ _ (fun σ3 H3 l3 k3 q3 => m σ3 H3 (l3.trans l2) (fun j hj => (k3 j hj).trans (k2 j hj)) q3) q2
theorem own_tup {k n : Nat} {K : PySem.W.Frag} {t : TGs} (ht : OwnGs k t) : OwnG k (gTup K n t) := by
  rintro v σ H Q Q' m ⟨a, xs, e, hs, hl, q⟩
  exact ⟨a, xs, e, hs, hl, ht xs σ H Q Q' m q⟩
def cxComp (X : Cx) (scope : Scope) (cl : List (Str × Addr)) (C : Addr) (N : List Str) (s : Shared) (H : Hp) (ex : List Addr) : Cx :=
  { X with N := N, s₀ := s, H₀ := H, env := compEnvC scope cl C X.env, outer := X.stack, ex := ex, fn := fun _ => false, pn := [], xe := fun _ _ => False }
def CompOk (osc : Scope) (oN : List Str) (k : Nat) (ix : List Nat) (N : List Str) (scope : Scope) : Prop :=
  scope.kind = .function ∧ (∀ y ∈ scope.names, y.2 ≠ .cell) ∧ (∀ y ∈ scope.names, y.2 = .local → scope.names.lookup y.1 = some .local) ∧
  (∀ y ∈ scope.names, y.2 = .free → osc.names.lookup y.1 = some .cell ∨ osc.names.lookup y.1 = some .free) ∧
  N.length = k + ix.length ∧ (∀ p ∈ (N.drop k).zip ix, oN[p.2]? = some p.1 ∧ scope.names.lookup p.1 = some .free)
instance {osc : Scope} {oN : List Str} {k : Nat} {ix : List Nat} {N : List Str} {scope : Scope} : Decidable (CompOk osc oN k ix N scope) := by
  unfold CompOk
  exact inferInstance
def outS (ix : List Nat) (σ : St) : St := ix.map fun i => (σ[i]?).getD none
theorem closure_ok (env : Env) : ∀ (ns : List (Str × NameKind)) (acc : List (Str × Addr)), (∀ y ∈ ns, y.2 = .free → ∃ c, env.cells.lookup y.1 = some c) →
    ∃ cl, (forIn (m := Sem) ns acc fun (y : Str × NameKind) r => match y with
      | (n, k) => if (k == .free) = true then (do let c ← cellOf env n; pure (ForInStep.yield ((n, c) :: r))) else pure (ForInStep.yield r)) = pure cl ∧
      (∀ n c, cl.lookup n = some c → acc.lookup n = some c ∨ env.cells.lookup n = some c) ∧ ∀ n, ((acc.lookup n).isSome = true ∨ (n, NameKind.free) ∈ ns) → (cl.lookup n).isSome = true
  | [], acc, _ => ⟨acc, rfl, fun _ _ h => .inl h, fun n h => h.elim id fun z => by cases z⟩
  | (n, k) :: ns, acc, h => by
    by_cases hk : k = .free
    · subst hk
      obtain ⟨c, hc⟩ := h (n, .free) List.mem_cons_self rfl
      obtain ⟨cl, e, p, q⟩ := closure_ok env ns ((n, c) :: acc) fun y hy => h y (List.mem_cons_of_mem _ hy)
      refine ⟨cl, ?_, fun m d hm => ?_, fun m hm => ?_⟩
      · rw [List.forIn_cons]
        simp only [cellOf, hc, beq_self_eq_true, if_true, pure_bind]
        exact e
      · rcases p m d hm with z | z
        · rw [List.lookup_cons] at z
          split at z
          · rename_i hmn
            cases z
            have : m = n := by simpa using hmn
            subst this
            exact .inr hc
          · exact .inl z
        · exact .inr z
      · refine q m ?_
        rw [List.lookup_cons]
        split
        · exact .inl rfl
        · rename_i hmn
          rcases hm with z | z
          · exact .inl z
          · rcases List.mem_cons.mp z with z | z
            · cases z
              simp at hmn
            · exact .inr z
    · obtain ⟨cl, e, p, q⟩ := closure_ok env ns acc fun y hy => h y (List.mem_cons_of_mem _ hy)
      have hb : (k == NameKind.free) = false := by simpa using hk
      refine ⟨cl, ?_, p, fun m hm => q m (hm.imp id fun z => ?_)⟩
      · rw [List.forIn_cons]
        simp only [hb, Bool.false_eq_true, if_false, pure_bind]
        exact e
      · rcases List.mem_cons.mp z with z | z
        · cases z
          exact absurd rfl hk
        · exact z
theorem closureFor_ok (env : Env) (scope : Scope) (h : ∀ y ∈ scope.names, y.2 = .free → ∃ c, env.cells.lookup y.1 = some c) :
    ∃ cl, closureFor scope env = pure cl ∧ (∀ n c, cl.lookup n = some c → env.cells.lookup n = some c) ∧ ∀ n, (n, NameKind.free) ∈ scope.names → ∃ c, cl.lookup n = some c := by
  obtain ⟨cl, e, p, q⟩ := closure_ok env scope.names [] h
  refine ⟨cl, ?_, fun n c z => (p n c z).elim (fun z => by cases z) id, fun n hn => Option.isSome_iff_exists.mp (q n (.inr hn))⟩
  unfold closureFor
  simpa using e
theorem comp_loop {prog : Program} {w : World} {A : Around} {R : Result → Shared → Prop} {s : Shared} {elt target iter : Expr} {ifs : List Expr} {scope : Scope} {pos : Pos} {it acc : Value} {env : Env}
    (J : Nat → Shared → Prop)
    (turn : ∀ n s, J n s → wpAny (model prog w) A (pyNext it) (fun r s1 => match r with
      | none => R (.ok .next) s1
      | some v => wpAny (model prog w) A (letOwnedTupleGo target it v) (fun _ s2 => wpAny (model prog w) A (assign target env v) (fun _ s3 =>
          wpAny (model prog w) A (forIn ifs true fun c r => if r = true then do let ok ← isTrue c env (eval c env); pure (ForInStep.yield ok) else pure (ForInStep.yield r)) (fun ok s4 =>
            if ok = true then wpAny (model prog w) A (eval elt env) (fun x s5 =>
              wpAny (model prog w) A (call (.builtin "list.append") [acc, x]) (fun _ s6 => ∃ m, m < n ∧ J m s6) (fun _ _ => False) s5) (fun _ _ => False) s4
            else ∃ m, m < n ∧ J m s4) (fun _ _ => False) s3) (fun _ _ => False) s2) (fun _ _ => False) s1) (fun _ _ => False) s)
    (n : Nat) (h : J n s) : codeAny (model prog w) A (.compLoop (.ListComp elt [⟨target, iter, ifs, 0⟩] scope pos) 0 it acc env) R s := by
  refine codeAny_loop rfl J (fun n s hJ => ?_) n h
  show wpAny (model prog w) A ((compTurn (.ListComp elt [⟨target, iter, ifs, 0⟩] scope pos) 0 it acc env).onRaise (fun y => do noteFrame y env; theTreesLotGoes y)) _ _ s
  refine wpAny_noted ?_
  rw [compTurn_list]
  refine wpAny_bind (wpAny_standAt (wpAny_bind (wpAny_mono (turn n s hJ) (fun r s1 h1 => ?_) fun _ _ z => z.elim)))
  cases r with
  | none => exact wpAny_pure h1
  | some v =>
    refine wpAny_bind (wpAny_mono h1 (fun _ s2 h2 => ?_) fun _ _ z => z.elim)
    refine wpAny_bind (wpAny_mono h2 (fun _ s3 h3 => ?_) fun _ _ z => z.elim)
    refine wpAny_bind (wpAny_mono h3 (fun ok s4 h4 => ?_) fun _ _ z => z.elim)
    cases ok with
    | false => exact wpAny_pure ⟨rfl, h4⟩
    | true =>
      refine wpAny_bind (wpAny_bind (wpAny_mono h4 (fun x s5 h5 => ?_) fun _ _ z => z.elim))
      exact wpAny_bind (wpAny_mono h5 (fun _ s6 h6 => wpAny_pure (wpAny_pure ⟨rfl, h6⟩)) fun _ _ z => z.elim)
def PF (X : Cx) (ifs : List Expr) (t : TT) : Prop :=
  ∀ (pins : List (Addr × Obj)) (s : Shared) (σ : St) (H : Hp) (Q : Bool → Hp → Prop), Inv X pins σ H s → t σ H Q →
    wpAny (model X.prog X.w) X.A (forIn ifs true fun c r => if r = true then do let ok ← isTrue c X.env (eval c X.env); pure (ForInStep.yield ok) else pure (ForInStep.yield r)) (TP X pins σ Q) X.xe s
def tYes : TT := fun _ H Q => Q true H
theorem pf_nil {X : Cx} : PF X [] tYes := fun _ _ _ H _ I h => wpAny_tests_nil ⟨H, I, h⟩
section
variable {X : Cx} {pins : List (Addr × Obj)} {σ : St} {H : Hp} {s : Shared}
theorem comp_ctx_ok {scope : Scope} {cl : List (Str × Addr)} {C : Addr} {N : List Str} {fp : List Addr} {k : Nat} {ix : List Nat} (I : Inv X pins σ H s) (hc : CompOk X.env.scope X.N k ix N scope)
    (hcl : ∀ n c, cl.lookup n = some c → X.env.cells.lookup n = some c) (hcl2 : ∀ n, (n, NameKind.free) ∈ scope.names → ∃ c, cl.lookup n = some c)
    (hC : s.heap.objs.size ≤ C) (hf : ∀ b ∈ fp, FpOk X pins H b) (hlt : ∀ b ∈ fp, b < s.heap.objs.size) : (cxComp X scope cl C N s H fp).Ok := by
  obtain ⟨kind, nocell, names, free, len, own⟩ := hc
  have lk : ∀ (l : List (Str × NameKind)) (x : Str) (kd : NameKind), l.lookup x = some kd → (x, kd) ∈ l := fun l x kd e => PySem.mem_of_lookup e
  refine ⟨I.ok.mod, kind, I.ok.glob, I.ok.blt, hC, fun x y c h1 h2 => I.ok.inj x y c (hcl x c h1) (hcl y c h2), fun x hx => ?_, fun x c z => (by cases z), I.ok.hd, I.ok.frames, .inl rfl, fun b hb => ⟨Nat.ne_of_lt (Nat.lt_of_lt_of_le (hlt b hb) hC), fun x c e => (hf b hb).2.2.2.2.1 x c (hcl x c e)⟩,
    I.bs, Nat.le_trans I.ok.bsz I.sz, fun b o e z => ?_, fun b hb z => ?_, I.stack, I.stkFree⟩
  ·
    have hx' : (relabel scope X.env).names.lookup x = some .cell ∨ (relabel scope X.env).names.lookup x = some .free := hx
    have key : (x, NameKind.free) ∈ scope.names := by
      have : ∃ kd, (x, kd) ∈ (relabel scope X.env).names ∧ (kd = .cell ∨ kd = .free) := by
        rcases hx' with z | z
        · exact ⟨_, lk _ _ _ z, .inl rfl⟩
        · exact ⟨_, lk _ _ _ z, .inr rfl⟩
      obtain ⟨kd, hm, hkd⟩ := this
      unfold relabel at hm
      obtain ⟨⟨n, k0⟩, h1, h2⟩ := List.mem_map.mp hm
      dsimp only at h2
      by_cases hc : (k0 == NameKind.free && X.env.scope.kind == .function && X.env.kindOf n == some .cell) = true
      · rw [if_pos hc] at h2
        cases h2
        have : k0 = .free := by
          simp only [Bool.and_eq_true] at hc
          simpa using hc.1.1
        rw [← this]
        exact h1
      · rw [if_neg hc] at h2
        cases h2
        rcases hkd with z | z
        · exact absurd z (nocell _ h1)
        · rw [← z]
          exact h1
    exact hcl2 x key
  · obtain ⟨_, _, _, hx, _⟩ := hf b z
    rcases hx with hx | hx
    · exact I.ok.noex b o e hx
    · exact absurd (Nat.lt_of_lt_of_le (Heap.lt_size (I.ok.bs b o e).1) hx) (Nat.lt_irrefl _)
  · rcases List.mem_cons.mp (I.stkSub b z) with e | e
    · exact (hf b hb).2.1 e
    · exact (hf b hb).2.2.1 e
theorem look_comp {scope : Scope} {cl : List (Str × Addr)} {C : Addr} {h' : Heap} {m m' : Str → Option Value} {x : Str} {u : Value} (hl : scope.names.lookup x = some .free)
    (ho : X.env.scope.names.lookup x = some .cell ∨ X.env.scope.names.lookup x = some .free) (hcl : ∀ n c, cl.lookup n = some c → X.env.cells.lookup n = some c) (hcl2 : ∃ c, cl.lookup x = some c)
    (l : Look X.env s.heap m x u) (hk : ∀ b o, s.heap.get? b = some o → h'.get? b = some o) : Look (compEnvC scope cl C X.env) h' m' x u := by
  rcases l with ⟨hk1, _⟩ | ⟨hk1, c, hc, o, e1, e2⟩
  · have hk1' : X.env.scope.names.lookup x = some .local := hk1
    rcases ho with z | z <;> rw [hk1'] at z <;> cases z
  · obtain ⟨c', hc'⟩ := hcl2
    have := hcl x c' hc'
    rw [hc] at this
    cases this
    refine .inr ⟨?_, c, hc', o, hk _ _ e1, e2⟩
    show (relabel scope X.env).names.lookup x = some .cell ∨ (relabel scope X.env).names.lookup x = some .free
    unfold relabel
    dsimp only
    revert hl
    generalize scope.names = ns
    intro hl
    induction ns with
    | nil => cases hl
    | cons y r ih =>
      obtain ⟨n, k0⟩ := y
      rw [List.map_cons]
      dsimp only
      rw [List.lookup_cons] at hl
      by_cases hxn : (x == n) = true
      · rw [hxn] at hl
        cases hl
        have exn : x = n := by simpa using hxn
        subst exn
        by_cases hc : (NameKind.free == NameKind.free && X.env.scope.kind == .function && X.env.kindOf x == some .cell) = true
        · rw [if_pos hc, List.lookup_cons, beq_self_eq_true]
          exact .inl rfl
        · rw [if_neg hc, List.lookup_cons, beq_self_eq_true]
          exact .inr rfl
      · have hxn' : (x == n) = false := by simpa using hxn
        rw [hxn'] at hl
        have hnn : ∀ (kk : NameKind), (List.lookup x ((n, kk) :: List.map (fun (y : Str × NameKind) => if (y.2 == NameKind.free && X.env.scope.kind == .function && X.env.kindOf y.1 == some .cell) = true then (y.1, NameKind.cell) else (y.1, y.2)) r)) = List.lookup x (List.map (fun (y : Str × NameKind) => if (y.2 == NameKind.free && X.env.scope.kind == .function && X.env.kindOf y.1 == some .cell) = true then (y.1, NameKind.cell) else (y.1, y.2)) r) := fun kk => by
          rw [List.lookup_cons, hxn']
        by_cases hc : (k0 == NameKind.free && X.env.scope.kind == .function && X.env.kindOf n == some .cell) = true
        · rw [if_pos hc]
          exact (hnn .cell).symm ▸ ih hl
        · rw [if_neg hc]
          exact (hnn k0).symm ▸ ih hl
theorem comp_inv {scope : Scope} {cl : List (Str × Addr)} {C : Addr} {N : List Str} {fp : List Addr} {k : Nat} {ix : List Nat} {h' : Heap} {m' : Str → Option Value} {t' : Nat} (I : Inv X pins σ H s) (hc : CompOk X.env.scope X.N k ix N scope)
    (hcl : ∀ n c, cl.lookup n = some c → X.env.cells.lookup n = some c) (hcl2 : ∀ n, (n, NameKind.free) ∈ scope.names → ∃ c, cl.lookup n = some c)
    (hC : s.heap.objs.size ≤ C) (hf : ∀ b ∈ fp, FpOk X pins H b) (hlt : ∀ b ∈ fp, b < s.heap.objs.size) (hk : ∀ b o, s.heap.get? b = some o → h'.get? b = some o) (hn : h'.Ns C m') :
    Inv (cxComp X scope cl C N s H fp) [] (List.replicate k none ++ outS ix σ) H { s with heap := h', toks := t' } := by
  have ok := comp_ctx_ok I hc hcl hcl2 hC hf hlt
  obtain ⟨kind, nocell, names, free, len, own⟩ := hc
  have mem : ∀ {x : Str}, scope.names.lookup x = some .free → (x, NameKind.free) ∈ scope.names := fun e => PySem.mem_of_lookup e
  refine ⟨ok, rfl, I.bare, Un.kept hk, ⟨m', hn, fun i x v h1 h2 _ => ?_⟩, fun x c e => ?_, I.hok.fresh hC, fun x c e => I.freeC x c (hcl x c e), fun p hp => (by cases hp), I.hok.kept hk, ?_⟩
  · have h1 : N[i]? = some x := h1
    have hi : k ≤ i := by
      rcases Nat.lt_or_ge i k with z | z
      · rw [List.getElem?_append_left (by simpa using z), List.getElem?_replicate, if_pos z] at h2
        cases h2
      · exact z
    rw [List.getElem?_append_right (by simpa using hi), List.length_replicate] at h2
    unfold outS at h2
    rw [List.getElem?_map] at h2
    cases e : ix[i - k]? with
    | none => rw [e] at h2; cases h2
    | some j =>
      rw [e] at h2
      have h2 : (σ[j]?).getD none = some v := Option.some.inj h2
      have hz : (x, j) ∈ (N.drop k).zip ix := by
        refine List.mem_of_getElem? (i := i - k) ?_
        rw [List.getElem?_zip_eq_some, List.getElem?_drop]
        exact ⟨by rw [Nat.add_sub_cancel' hi]; exact h1, e⟩
      obtain ⟨o1, o2⟩ := own _ hz
      have hs : σ[j]? = some (some v) := by
        cases q : σ[j]? with
        | none => rw [q] at h2; cases h2
        | some z => rw [q] at h2; have h2 : z = some v := h2; rw [h2]
      obtain ⟨m, hm, hl⟩ := I.loc
      have hfr := free _ (mem o2) rfl
      have hv : Vis X.env.scope x := hfr.elim (fun z => .inr (.inl z)) fun z => .inr (.inr z)
      obtain ⟨u, r, l⟩ := hl j x v o1 hs hv
      exact ⟨u, r, look_comp o2 hfr hcl (hcl2 _ (mem o2)) l hk⟩
  · obtain ⟨v, o, e1, e2⟩ := I.cell x c (hcl x c e)
    exact ⟨v, o, hk _ _ e1, e2⟩
  · show (List.replicate k none ++ outS ix σ).length = N.length
    rw [List.length_append, List.length_replicate, len]
    unfold outS
    rw [List.length_map]
structure BlockEnd (X : Cx) (scope : Scope) (cl : List (Str × Addr)) (N : List Str) (s : Shared) (H : Hp) (fp : List Addr) (D C : Addr) (ys : List V) (H' : Hp) (s' : Shared) : Prop where
  inv : ∃ σ', Inv (cxComp X scope cl C N s H fp) [] σ' H' s'
  dn : H' D = none
  lst : ∃ (its : List Value) (n : Nat), Vals ys its ∧ s'.heap.get? D = some { cls := .type "list", data := .seq its.toArray n }
  hD : s.heap.objs.size ≤ D
  hC : s.heap.objs.size ≤ C
  ne : D ≠ C
  sz : ys.length ≤ sizeLine
theorem BlockEnd.out {scope : Scope} {cl : List (Str × Addr)} {N : List Str} {fp : List Addr} {D C : Addr} {ys : List V} {H' : Hp} {s' : Shared} (I : Inv X pins σ H s) (hf : ∀ b ∈ fp, FpOk X pins H b)
    (B : BlockEnd X scope cl N s H fp D C ys H' s') : Inv X pins σ (upd H' D (.lst ys)) s' ∧ (∃ m, s'.heap.Ns C m) ∧ upd H' D (.lst ys) C = none := by
  obtain ⟨σ', J⟩ := B.inv
  obtain ⟨its, n, rv, e⟩ := B.lst
  have eD : ∀ b u, H' b = some u → b ≠ D := fun b u z => ne_of_none z B.dn
  refine ⟨?_, let ⟨m, hm, _⟩ := J.loc; ⟨m, hm⟩, by rw [upd_ne (Ne.symm B.ne)]; exact J.free⟩
  have U : Un (frs X.stack) fp H H' s.heap s'.heap := J.base
  refine I.call' (ch := fp) J.os ⟨U.keep, U.slot, fun b o q z hb => ?_, U.there, fun b xs q => ?_, fun b o xs q => ?_, fun b ps q => ?_⟩ ?_ J.bare fun b hb => ?_
  · rw [upd_ne (Nat.ne_of_lt (Nat.lt_of_lt_of_le (Heap.lt_size q) B.hD))]
    exact U.free b o q z hb
  · have z := U.tups b xs q
    rw [upd_ne (eD _ _ z)]; exact z
  · have z := U.frzs b o xs q
    rw [upd_ne (eD _ _ z)]; exact z
  · obtain ⟨m, z⟩ := U.tbls b ps q
    exact ⟨m, by rw [upd_ne (eD _ _ z)]; exact z⟩
  · intro b o q
    by_cases hb : b = D
    · subst hb
      rw [upd_same] at q
      cases q
      exact ⟨B.sz, its, n, rv, e⟩
    · rw [upd_ne hb] at q
      refine (J.hok b o q).stay (fun _ _ _ z => z) (fun c z => ?_) fun c xs z => ?_
      · rw [upd_ne (eD _ _ z)]; exact z
      · rw [upd_ne (eD _ _ z)]; exact z
  · obtain ⟨_, h1, h2, h3, h4, h5⟩ := hf b hb
    exact ⟨h3, h1, h4, h5⟩
end
end L2
set_option maxRecDepth 100000
set_option maxHeartbeats 4000000
namespace L2
open PySem PySem.Spec PyProof.Rows
def tTurn (k : Nat) (ix : List Nat) (g : TG) (tc : TT) (te : TE) (σ : St) (x : V) (H : Hp) (Qe : V → Hp → Prop) (Qn : Hp → Prop) : Prop :=
  g x (List.replicate k none ++ outS ix σ) H fun σ2 H2 => tc σ2 H2 fun b H3 => if b = true then te σ2 H3 Qe else Qn H3
def CompW (k : Nat) (ix : List Nat) (g : TG) (tc : TT) (te : TE) (σ : St) (J : It) (H1 : Hp) (Q : List V → Hp → Prop) : Prop :=
  ∃ W : Nat → Nat → List V → Hp → Prop, (∃ m, W 0 m [] H1) ∧ ∀ i m ys H, W i m ys H → ys.length ≤ sizeLine ∧
    ((J.stop i H ∧ Q ys H) ∨ (J.go i H ∧ ∀ x H', J.yld i H x H' → tTurn k ix g tc te σ x H' (fun v H4 => ∃ m', m' < m ∧ W (i + 1) m' (ys ++ [v]) H4) fun H3 => ∃ m', m' < m ∧ W (i + 1) m' ys H3))
section
variable {X : Cx} {pins : List (Addr × Obj)} {σ : St} {H : Hp} {s : Shared}
theorem comp_block {elt target iter : Expr} {ifs : List Expr} {scope : Scope} {cl : List (Str × Addr)} {pos : Pos} {N : List Str} {fp : List Addr} {k : Nat} {ix : List Nat} {it : Addr} {J : It} {tn : Nat → Heap → Prop} {g : TG} {tc : TT} {te : TE}
    {Q : List V → Hp → Prop} {RR : Value → Addr → Result → Shared → Prop} {E : Value → Shared → Prop} (hcalm : X.calm = true) (I : Inv X pins σ H s) (hc : CompOk X.env.scope X.N k ix N scope) (og : OwnG k g)
    (hcl : ∀ n c, cl.lookup n = some c → X.env.cells.lookup n = some c) (hcl2 : ∀ n, (n, NameKind.free) ∈ scope.names → ∃ c, cl.lookup n = some c)
    (T : Turn X.prog X.w X.K target J fp it tn) (t0 : tn 0 s.heap) (hf : ∀ b ∈ fp, FpOk X pins H b)
    (hg : ∀ C, PG (cxComp X scope cl C N s H fp) target g) (ht : ∀ C, PF (cxComp X scope cl C N s H fp) ifs tc) (he : ∀ C, PE (cxComp X scope cl C N s H fp) elt te)
    (hw : CompW k ix g tc te σ J H Q)
    (fin : ∀ D C ys H' s', BlockEnd X scope cl N s H fp D C ys H' s' → Q ys H' → RR (.ref D) C (.ok .next) s') :
    wpAny (model X.prog X.w) X.A (newList []) (fun acc s3 => wpAny (model X.prog X.w) X.A (newFunctionEnv scope X.env.globals cl [] X.env.qual none .none (some X.env)) (fun cenv s4 =>
      codeAny (model X.prog X.w) X.A (.compStart (.ListComp elt [⟨target, iter, ifs, 0⟩] scope pos) 0 (.ref it) acc { cenv with scope := relabel scope X.env }) (RR acc cenv.locals) s4) E s3) E s := by
  have hlt : ∀ b ∈ fp, b < s.heap.objs.size := fun b hb => by
    obtain ⟨o, e, _⟩ := T.obj 0 _ t0 b hb
    exact Heap.lt_size e
  refine wpAny_newObj_type (wpAny_newFunctionEnv hc.2.1 (by intro y hy; simp at hy) (fun h1 hns hsb => ?_) hc.1)
  dsimp only at hns hsb ⊢
  generalize eH : s.heap.push { cls := .type "list", dict := none, data := .seq ([] : List Value).toArray } = Hx at hns hsb ⊢
  have hC : Hx.objs.size = s.heap.objs.size + 1 := by rw [← eH, Heap.size_push]
  have hne : s.heap.objs.size ≠ Hx.objs.size := by rw [hC]; exact Nat.ne_of_lt (Nat.lt_succ_self _)
  have hle : s.heap.objs.size ≤ Hx.objs.size := by rw [hC]; exact Nat.le_succ _
  have old : ∀ b o, s.heap.get? b = some o → h1.get? b = some o := fun b o e =>
    hsb.extBut b o (Nat.ne_of_lt (Nat.lt_of_lt_of_le (Heap.lt_size e) hle)) (Heap.get?_push_of_some _ (eH ▸ Heap.get?_push_of_some _ e))
  have hacc : h1.PlainList s.heap.objs.size #[] := ⟨_, hsb.extBut _ _ hne (Heap.get?_push_of_some _ (eH ▸ Heap.get?_push_size _ rfl))⟩
  have ci := fun (t' : Nat) => comp_inv (C := Hx.objs.size) (t' := t') I hc hcl hcl2 hle hf hlt old hns
  have cfp : ∀ {H' : Hp}, (∀ b ∈ fp, H' b = none) → ∀ b ∈ fp, FpOk (cxComp X scope cl Hx.objs.size N s H fp) [] H' b := fun hn b hb => by
    obtain ⟨_, z1, z2, z3, z4, z5⟩ := hf b hb
    refine ⟨hn b hb, Nat.ne_of_lt (Nat.lt_of_lt_of_le (hlt b hb) hle), fun z => ?_, .inl hb, fun x c e => z4 x c (hcl x c e), fun p hp => by cases hp⟩
    rcases List.mem_cons.mp (I.stkSub b z) with e | e
    · exact z1 e
    · exact z2 e
  have dfs : s.heap.objs.size ∉ frs X.stack := fun z => (List.mem_cons.mp (I.stkSub _ z)).elim (fun e => absurd I.lt (by rw [e]; exact Nat.lt_irrefl _)) fun e => I.nofs (Nat.le_refl _) e
  have cne : ∀ x c, X.env.cells.lookup x = some c → c ≠ s.heap.objs.size := fun x c e z => by
    obtain ⟨_, o, q, _⟩ := I.cell x c e
    exact absurd (Heap.lt_size q) (by rw [z]; exact Nat.lt_irrefl _)
  obtain ⟨W, ⟨m0, w0⟩, turn⟩ := hw
  have loop : ∀ s3 : Shared, s3 = { s with heap := h1, toks := s.toks + ([] : List (Str × Value)).length } →
      codeAny (model X.prog X.w) X.A (.compLoop (.ListComp elt [⟨target, iter, ifs, 0⟩] scope pos) 0 (.ref it) (.ref s.heap.objs.size) (compEnvC scope cl Hx.objs.size X.env)) (RR (.ref s.heap.objs.size) Hx.objs.size) s3 := by
    rintro s3 rfl
    refine comp_loop (fun n s' => ∃ i ys H' its, Inv (cxComp X scope cl Hx.objs.size N s H fp) [] (List.replicate k none ++ outS ix σ) H' s' ∧ tn i s'.heap ∧ (∀ b ∈ fp, H' b = none) ∧ s'.heap.PlainList s.heap.objs.size (List.toArray its) ∧
      H' s.heap.objs.size = none ∧ Vals ys its ∧ W i n ys H') ?_ m0 ⟨0, [], H, [], ci _, T.keep _ _ _ t0 fun b _ o e => old b o e, fun b hb => (hf b hb).1, hacc, I.hok.fresh (Nat.le_refl _), .nil, w0⟩
    rintro n s4 ⟨i, ys, H4, its, I4, t4, f4, p4, d4, v4, w4⟩
    obtain ⟨hsz, turn4⟩ := turn i n ys H4 w4
    rcases turn4 with ⟨st, q⟩ | ⟨go, step⟩
    ·
      obtain ⟨pn, pe⟩ := p4
      have I4' : Inv (cxComp X scope cl Hx.objs.size N s H fp) [(s.heap.objs.size, { cls := .type "list", data := .seq its.toArray pn })] (List.replicate k none ++ outS ix σ) H4 s4 := I4.pins_of fun p hp => by
        have ep := List.mem_singleton.mp hp
        subst ep
        exact ⟨pe, d4, hne, dfs, fun v z => (by cases z)⟩
      have fp4 : ∀ b ∈ fp, FpOk (cxComp X scope cl Hx.objs.size N s H fp) [(s.heap.objs.size, { cls := .type "list", data := .seq its.toArray pn })] H4 b := fun b hb => by
        obtain ⟨z0, z1, z2, z3, z4, _⟩ := cfp f4 b hb
        refine ⟨z0, z1, z2, z3, z4, fun p hp e => ?_⟩
        have ep := List.mem_singleton.mp hp
        subst ep
        exact absurd (hlt b hb) (by rw [← e]; exact Nat.lt_irrefl _)
      refine thn (T.done (cxComp X scope cl Hx.objs.size N s H fp) rfl rfl rfl hcalm i _ s4 _ H4 _ I4' fp4 t4 st) fun r s5 ⟨hr, I5⟩ => ?_
      subst hr
      obtain ⟨e5, n5, _⟩ := I5.pin (s.heap.objs.size, _) (List.mem_singleton.mpr rfl)
      exact fin s.heap.objs.size Hx.objs.size ys H4 s5 ⟨⟨_, I5.pins_of (pins' := []) fun p hp => (by cases hp)⟩, n5, ⟨its, pn, v4, e5⟩, Nat.le_refl _, hle, hne, hsz⟩ q
    · obtain ⟨pn, pe⟩ := p4
      have I4' : Inv (cxComp X scope cl Hx.objs.size N s H fp) [(s.heap.objs.size, { cls := .type "list", data := .seq its.toArray pn })] (List.replicate k none ++ outS ix σ) H4 s4 := I4.pins_of fun p hp => by
        have ep := List.mem_singleton.mp hp
        subst ep
        exact ⟨pe, d4, hne, dfs, fun v z => (by cases z)⟩
      have fpx : ∀ {H' : Hp}, (∀ b ∈ fp, H' b = none) → ∀ b ∈ fp, FpOk (cxComp X scope cl Hx.objs.size N s H fp) [(s.heap.objs.size, { cls := .type "list", data := .seq its.toArray pn })] H' b := fun hn b hb => by
        obtain ⟨z0, z1, z2, z3, z4, _⟩ := cfp hn b hb
        refine ⟨z0, z1, z2, z3, z4, fun p hp e => ?_⟩
        have ep := List.mem_singleton.mp hp
        subst ep
        exact absurd (hlt b hb) (by rw [← e]; exact Nat.lt_irrefl _)
      refine thn (T.item (cxComp X scope cl Hx.objs.size N s H fp) rfl rfl rfl hcalm i _ s4 _ H4 (fun _ _ => False) I4' (fpx f4) t4 go) fun r s5 ⟨u, hr, h5⟩ => ?_
      subst hr
      refine thn h5 fun _ s6 ⟨x, H6, I6, r6, y6, t6, f6⟩ => ?_
      have I6' := I6.pinned (fpx f6) (T.obj _ _ t6)
      have stp := og x _ H6 _ (fun σ2 H2 => (σ2.length = (List.replicate k none ++ outS ix σ).length ∧ ∀ j, k ≤ j → σ2[j]? = (List.replicate k none ++ outS ix σ)[j]?) ∧
        tc σ2 H2 fun b H3 => if b = true then te σ2 H3 (fun v H4 => ∃ m', m' < n ∧ W (i + 1) m' (ys ++ [v]) H4) else ∃ m', m' < n ∧ W (i + 1) m' ys H3) (fun σ2 H2 a b c => ⟨⟨a, b⟩, c⟩) (step x H6 y6)
      refine thn (hg _ _ s6 _ H6 x u _ I6' r6 stp) fun _ s7 ⟨σ7, H7, I7, ⟨l7, k7⟩, q7⟩ => ?_
      have weak : ∀ {H' : Hp} {s' : Shared} {ps : List (Addr × Obj)}, Inv (cxComp X scope cl Hx.objs.size N s H fp) ps σ7 H' s' → Inv (cxComp X scope cl Hx.objs.size N s H fp) ps (List.replicate k none ++ outS ix σ) H' s' := fun z => z.weak l7.symm fun j v e => by
        rcases Nat.lt_or_ge j k with hj | hj
        · rw [List.getElem?_append_left (by simpa using hj), List.getElem?_replicate, if_pos hj] at e
          cases e
        · rw [k7 j hj]; exact e
      refine thn (ht _ _ s7 σ7 H7 _ I7 q7) fun ok s8 ⟨H8, I8, q8⟩ => ?_
      have keepT : ∀ {H' : Hp} {s' : Shared}, Inv (cxComp X scope cl Hx.objs.size N s H fp) ([(s.heap.objs.size, { cls := .type "list", data := .seq its.toArray pn })] ++ pinsAt fp s6.heap) σ7 H' s' →
          tn (i + 1) s'.heap ∧ (∀ b ∈ fp, H' b = none) ∧ s'.heap.PlainList s.heap.objs.size its.toArray ∧ H' s.heap.objs.size = none := fun {H' s'} z => by
        refine ⟨T.keep _ _ _ t6 fun b hb o e => (z.pin (b, o) (List.mem_append_right _ (List.mem_append_right _ (mem_pinsAt hb e)))).1, fun b hb => ?_, ?_⟩
        · obtain ⟨o, e, d⟩ := T.obj _ _ t6 b hb
          exact (z.pin (b, o) (List.mem_append_right _ (List.mem_append_right _ (mem_pinsAt hb e)))).2.1
        · obtain ⟨e, n', _⟩ := z.pin (s.heap.objs.size, { cls := .type "list", data := .seq its.toArray pn }) (List.mem_append_right _ (List.mem_append_left _ (List.mem_singleton.mpr rfl)))
          exact ⟨⟨pn, e⟩, n'⟩
      cases ok with
      | false =>
        have q8 : ∃ m', m' < n ∧ W (i + 1) m' ys H8 := by simpa using q8
        obtain ⟨m', hm, w8⟩ := q8
        obtain ⟨a1, a2, a3, a4⟩ := keepT I8
        exact ⟨m', hm, i + 1, ys, H8, its, (weak I8).pins_of (pins' := []) fun p hp => (by cases hp), a1, a2, a3, a4, v4, w8⟩
      | true =>
        have q8 : te σ7 H8 (fun v H4 => ∃ m', m' < n ∧ W (i + 1) m' (ys ++ [v]) H4) := by simpa using q8
        show wpAny _ _ (eval elt _) _ _ s8
        refine thn (he _ _ s8 σ7 H8 _ I8 q8) fun y s9 ⟨v, H9, I9, r9, m', hm, w9⟩ => ?_
        obtain ⟨a1, a2, a3, a4⟩ := keepT I9
        refine wpAny_list_append_plain a3 (fun h10 hp10 hs10 => ?_) (by rw [List.size_toArray, ← v4.length]; exact hsz)
        refine ⟨m', hm, i + 1, ys ++ [v], H9, its ++ [y], ?_, T.keep _ _ _ a1 fun b hb o e => hs10.extBut b o (fun z => absurd (hlt b hb) (by rw [z]; exact Nat.lt_irrefl _)) e, a2, by simpa using hp10, a4, Paired.snoc v4 r9, w9⟩
        have I9' : Inv (cxComp X scope cl Hx.objs.size N s H fp) [] (List.replicate k none ++ outS ix σ) H9 s9 := (weak I9).pins_of (pins' := []) fun p hp => (by cases hp)
        exact I9'.turned (t' := s9.toks) (it := s.heap.objs.size) (fun b o hb e => hs10.extBut b o hb e) a4 hne (.inr (Nat.le_refl _))
          (fun x c e => cne x c (hcl x c e)) fun p hp => (by cases hp)
  exact codeAny_compStart_list (loop _ rfl) (T.self _ 0 _ _ _ (T.keep _ _ _ t0 fun b _ o e => old b o e) (loop _ rfl))
end
def tComp (k : Nat) (ix : List Nat) (wi : TI) (g : TG) (tc : TT) (te : TE) : TE := fun σ H Q => wi σ H fun J H1 =>
  CompW k ix g tc te σ J H1 fun ys H2 => ∀ D, H2 D = none → Q (.ref D) (upd H2 D (.lst ys))
section
variable {X : Cx} {elt target iter : Expr} {ifs : List Expr} {scope : Scope} {pos : Pos} {N : List Str} {k : Nat} {ix : List Nat} {wi : TI} {g : TG} {tc : TT} {te : TE}
theorem comp_free {pins : List (Addr × Obj)} {σ : St} {H : Hp} {s : Shared} (I : Inv X pins σ H s) (hc : CompOk X.env.scope X.N k ix N scope) : ∀ y ∈ scope.names, y.2 = .free → ∃ c, X.env.cells.lookup y.1 = some c := fun y hy e =>
  I.ok.has y.1 (hc.2.2.2.1 y hy e)
theorem pe_comp (hcalm : X.calm = true) (hc : CompOk X.env.scope X.N k ix N scope) (og : OwnG k g) (hi : PI X target iter wi)
    (hb : ∀ cl C s H fp, PG (cxComp X scope cl C N s H fp) target g ∧ PF (cxComp X scope cl C N s H fp) ifs tc ∧ PE (cxComp X scope cl C N s H fp) elt te)
    (hs : ∀ x, foldedSetIterable iter X.env x = pure x := by intro _; rfl) : PE X (.ListComp elt [⟨target, iter, ifs, 0⟩] scope pos) (tComp k ix wi g tc te) := by
  intro pins s σ H Q I h
  obtain ⟨cl, hclos, hcl, hcl2⟩ := closureFor_ok X.env scope (comp_free I hc)
  rw [eval_ListComp]
  refine wpAny_comprehension_free (use := none) rfl hs hclos hc.1 hc.2.2.1 (thn (hi pins s σ H _ I h) fun xv s1 h1 => thn h1 fun itv s2 h2 => ?_)
  obtain ⟨it, fp, tn, J, H2, e, I2, T, st2, f2, hw⟩ := h2
  subst e
  refine comp_block hcalm I2 hc og hcl hcl2 T st2 f2 (fun C => (hb cl C s2 H2 fp).1) (fun C => (hb cl C s2 H2 fp).2.1) (fun C => (hb cl C s2 H2 fp).2.2) hw (RR := fun acc C => compPost (model X.prog X.w) X.A X.xe none (EP X pins σ Q) acc C) ?_
  intro D C ys H' s' B q
  obtain ⟨I3, ⟨m, hm⟩, hCn⟩ := B.out I2 f2
  refine ⟨m, hm, fun h' hs' => ?_⟩
  have q' := q D B.dn
  have hCs : X.s₀.heap.objs.size ≤ C := Nat.le_trans I2.sz B.hC
  obtain ⟨_, f1, f3, f4, f5, f6⟩ := I2.fpOk (H' := upd H' D (.lst ys)) B.hC hCn
  exact ⟨.ref D, _, I3.turned (t' := s'.toks) (it := C) (fun b o hb e => hs'.extBut b o hb e) hCn f1 f4 f5 f6, rfl, q'⟩
def tSetComp (i k : Nat) (ix : List Nat) (wi : TI) (g : TG) (tc : TT) (te : TE) : TS := fun D σ H => wi σ H fun J H1 =>
  CompW k ix g tc te σ J H1 fun ys H2 => ∀ p, H2 p = none → D.nx (σ.set i (some (.ref p))) (upd H2 p (.lst ys))
theorem ps_setComp {i : Nat} {x : Str} {pos' spos : Pos} (hcalm : X.calm = true) (hN : X.N.Nodup) (hx0 : X.N[i]? = some x) (hx : X.env.scope.names.lookup x = some .local) (hc : CompOk X.env.scope X.N k ix N scope) (og : OwnG k g) (hi : PI X target iter wi)
    (hb : ∀ cl C s H fp, PG (cxComp X scope cl C N s H fp) target g ∧ PF (cxComp X scope cl C N s H fp) ifs tc ∧ PE (cxComp X scope cl C N s H fp) elt te)
    (hsw : swapsWith (.ListComp elt [⟨target, iter, ifs, 0⟩] scope pos) (some (.Name x pos')) spos.line X.env = pure true := by rfl)
    (hs : ∀ x, foldedSetIterable iter X.env x = pure x := by intro _; rfl) : PS X (.Assign [.Name x pos'] (.ListComp elt [⟨target, iter, ifs, 0⟩] scope pos) spos) (tSetComp i k ix wi g tc te) := by
  intro pins s σ H Dn I h
  obtain ⟨cl, hclos, hcl, hcl2⟩ := closureFor_ok X.env scope (comp_free I hc)
  rw [exec_Assign_Name_used _ _ _ _ hsw]
  refine wpAny_bind (wpAny_standAt (wpAny_bind ?_))
  show wpAny _ X.A (do let _ ← comprehension (.ListComp elt [⟨target, iter, ifs, 0⟩] scope pos) scope X.env _ (newList []) false (eval iter X.env) (some (assign (.Name x pos') X.env))) _ _ s
  refine wpAny_bind (wpAny_mono (wpAny_comprehension_free (use := some (assign (.Name x pos') X.env)) (Q := fun _ s' => SP X pins Dn .next s') rfl hs hclos hc.1 hc.2.2.1
    (thn (hi pins s σ H _ I h) fun xv s1 h1 => thn h1 fun itv s2 h2 => ?_)) (fun _ s' hq => wpAny_pure (wpAny_pure hq)) fun _ _ e => e)
  obtain ⟨it, fp, tn, J, H2, e, I2, T, st2, f2, hw⟩ := h2
  subst e
  refine comp_block hcalm I2 hc og hcl hcl2 T st2 f2 (fun C => (hb cl C s2 H2 fp).1) (fun C => (hb cl C s2 H2 fp).2.1) (fun C => (hb cl C s2 H2 fp).2.2) hw (RR := fun acc C => compPost (model X.prog X.w) X.A X.xe (some (assign (.Name x pos') X.env)) (fun _ s' => SP X pins Dn .next s') acc C) ?_
  intro D C ys H' s' B q
  obtain ⟨I3, ⟨m, o, es, ep, ho, hd, hr⟩, hCn⟩ := B.out I2 f2
  have q' := q D B.dn
  obtain ⟨_, f1, f3, f4, f5, f6⟩ := I2.fpOk (H' := upd H' D (.lst ys)) B.hC hCn
  have I4 : Inv X (pins ++ [(C, o)]) σ (upd H' D (.lst ys)) s' := I3.pins_of fun p hp => (List.mem_append.mp hp).elim (fun z => I3.pin p (List.mem_append_right _ z)) fun z => by
    have z' := List.mem_singleton.mp z
    subst z'
    exact ⟨ho, hCn, f1, f3, fun v z => by rw [hd] at z; cases z⟩
  show wpAny _ X.A (assign (.Name x pos') X.env (.ref D)) _ _ s'
  refine wpAny_assign_Name (store_ok I4 hN hx0 (.inl hx) (v := .ref D) (u := .ref D) rfl (fun s5 I5 => ?_) (.inr hx))
  obtain ⟨e5, n5, _⟩ := I5.pin (C, o) (List.mem_append_right _ (List.mem_append_right _ (List.mem_singleton.mpr rfl)))
  refine ⟨m, ⟨o, es, ep, e5, hd, hr⟩, fun h' hs' => ?_⟩
  exact ⟨_, _, I5.unpinned.turned (t' := s5.toks) (it := C) (fun b o hb e => hs'.extBut b o hb e) hCn f1 f4 f5 f6, q'⟩
end
end L2
set_option maxRecDepth 100000
set_option maxHeartbeats 4000000
namespace L2
open PySem PySem.Spec PyProof.Rows
def ExcAt (a C : Addr) (h : Heap) : Prop := ∃ o vs, h.get? a = some o ∧ o.cls = .ref C ∧ o.data = .fields vs
def excD (C : Addr) : PyData := .dict [(.none, .int (C : Int))]
def ExcDAt (a C dx : Addr) (h : Heap) : Prop := ∃ o vs, h.get? a = some o ∧ o.cls = .ref C ∧ o.data = .fields vs ∧ o.dict = some dx
def excRD (C : Addr) (n : Int) : PyData := .dict [(.none, .int (C : Int)), (.none, .int n)]
def excC : List (PyData × PyData) → Option Addr
  | [(.none, .int i)] => some i.toNat
  | [(.none, .int i), (.none, .int _)] => some i.toNat
  | _ => none
def keyD : Key → PyData
  | .inl i => .int i
  | .inr x => .str x
mutual
inductive DV (K : PySem.W.Frag) (H : Hp) : V → PyData → Prop where
  | non : DV K H .non .none
  | bl (b : Bool) : DV K H (.bl b) (.bool b)
  | int (i : Int) : DV K H (.int i) (.int i)
  | str (x : Str) : DV K H (.str x) (.str x)
  | tup {a : Addr} {xs : List V} {ds : List PyData} : SqT K H a xs → DVs K H xs ds → DV K H (.ref a) (.tuple ds)
  | lst {a : Addr} {xs : List V} {ds : List PyData} : SqL K H a xs → DVs K H xs ds → DV K H (.ref a) (.list ds)
  | dct {a : Addr} {kvs : List (Key × V)} {es : List (PyData × PyData)} : H a = some (.dK kvs) → DVk K H kvs es → DV K H (.ref a) (.dict es)
  | exc {a C : Addr} : H a = some (.ext (ExcAt a C)) → DV K H (.ref a) (.dict [(.none, .int (C : Int))])
  | exr {a C dx : Addr} {n : Int} : H a = some (.ext (ExcDAt a C dx)) → H dx = some (.xd [("row", .int n)]) → DV K H (.ref a) (.dict [(.none, .int (C : Int)), (.none, .int n)])
inductive DVs (K : PySem.W.Frag) (H : Hp) : List V → List PyData → Prop where
  | nil : DVs K H [] []
  | cons {x : V} {d : PyData} {xs : List V} {ds : List PyData} : DV K H x d → DVs K H xs ds → DVs K H (x :: xs) (d :: ds)
inductive DVk (K : PySem.W.Frag) (H : Hp) : List (Key × V) → List (PyData × PyData) → Prop where
  | nil : DVk K H [] []
  | cons {k : Key} {x : V} {d : PyData} {xs : List (Key × V)} {ds : List (PyData × PyData)} : DV K H x d → DVk K H xs ds → DVk K H ((k, x) :: xs) ((keyD k, d) :: ds)
end
theorem Same.seqT {K : PySem.W.Frag} {H H' : Hp} {a : Addr} {xs : List V} (e : Same H H') (h : SqT K H a xs) : SqT K H' a xs := by
  rcases h with (h | ⟨o, h⟩) | h
  · exact .inl (.inl (e _ _ h))
  · exact .inl (.inr ⟨o, e _ _ h⟩)
  · exact .inr h
section
variable {K : PySem.W.Frag} {H H' : Hp}
mutual
theorem DV.mono (e : Same H H') : ∀ {v : V} {d : PyData}, DV K H v d → DV K H' v d
  | _, _, .non => .non
  | _, _, .bl b => .bl b
  | _, _, .int i => .int i
  | _, _, .str x => .str x
  | _, _, .tup h t => .tup (e.seqT h) (DVs.mono e t)
  | _, _, .lst h t => .lst (e.seq h) (DVs.mono e t)
  | _, _, .dct h t => .dct (e _ _ h) (DVk.mono e t)
  | _, _, .exc h => .exc (e _ _ h)
  | _, _, .exr h h' => .exr (e _ _ h) (e _ _ h')
theorem DVs.mono (e : Same H H') : ∀ {vs : List V} {ds : List PyData}, DVs K H vs ds → DVs K H' vs ds
  | _, _, .nil => .nil
  | _, _, .cons h t => .cons (DV.mono e h) (DVs.mono e t)
theorem DVk.mono (e : Same H H') : ∀ {vs : List (Key × V)} {ds : List (PyData × PyData)}, DVk K H vs ds → DVk K H' vs ds
  | _, _, .nil => .nil
  | _, _, .cons h t => .cons (DV.mono e h) (DVk.mono e t)
end
theorem DVs.length : ∀ {vs : List V} {ds : List PyData}, DVs K H vs ds → vs.length = ds.length
  | _, _, .nil => rfl
  | _, _, .cons _ t => by rw [List.length_cons, List.length_cons, DVs.length t]
theorem DVs.get : ∀ {vs : List V} {ds : List PyData} {i : Nat} {d : PyData}, DVs K H vs ds → ds[i]? = some d → ∃ v, vs[i]? = some v ∧ DV K H v d
  | _, _, _, _, .nil, e => by simp at e
  | _, _, 0, _, .cons h _, e => by simp at e; subst e; exact ⟨_, rfl, h⟩
  | _, _, i + 1, d, .cons _ t, e => by
    obtain ⟨v, h1, h2⟩ := DVs.get (i := i) (d := d) t (by simpa using e)
    exact ⟨v, by simpa using h1, h2⟩
theorem DVs.get' : ∀ {vs : List V} {ds : List PyData} {i : Nat} {v : V}, DVs K H vs ds → vs[i]? = some v → ∃ d, ds[i]? = some d ∧ DV K H v d
  | _, _, _, _, .nil, e => by simp at e
  | _, _, 0, _, .cons h _, e => by simp at e; subst e; exact ⟨_, rfl, h⟩
  | _, _, i + 1, d, .cons _ t, e => by
    obtain ⟨v, h1, h2⟩ := DVs.get' (i := i) (v := d) t (by simpa using e)
    exact ⟨v, by simpa using h1, h2⟩
theorem DVs.append : ∀ {vs ws : List V} {ds es : List PyData}, DVs K H vs ds → DVs K H ws es → DVs K H (vs ++ ws) (ds ++ es)
  | _, _, _, _, .nil, s => s
  | _, _, _, _, .cons h t, s => .cons h (DVs.append t s)
theorem DVs.take : ∀ {vs : List V} {ds : List PyData} (n : Nat), DVs K H vs ds → DVs K H (vs.take n) (ds.take n)
  | _, _, 0, _ => .nil
  | _, _, _ + 1, .nil => .nil
  | _, _, n + 1, .cons h t => .cons h (DVs.take n t)
theorem DVs.drop : ∀ {vs : List V} {ds : List PyData} (n : Nat), DVs K H vs ds → DVs K H (vs.drop n) (ds.drop n)
  | _, _, 0, r => r
  | _, _, _ + 1, .nil => .nil
  | _, _, n + 1, .cons _ t => DVs.drop n t
theorem DVs.ints : ∀ (ns : List Int), DVs K H (ns.map V.int) (ns.map PyData.int)
  | [] => .nil
  | n :: r => .cons (.int n) (DVs.ints r)
theorem DVs.of_ints : ∀ {vs : List V} {ns : List Int}, DVs K H vs (ns.map PyData.int) → vs = ns.map V.int
  | _, [], .nil => rfl
  | _, n :: r, .cons h t => by cases h; rw [DVs.of_ints t]; rfl
theorem DVs.of_bools : ∀ {vs : List V} {ns : List Bool}, DVs K H vs (ns.map PyData.bool) → vs = ns.map V.bl
  | _, [], .nil => rfl
  | _, n :: r, .cons h t => by cases h; rw [DVs.of_bools t]; rfl
theorem DV.of_int {v : V} {i : Int} (h : DV K H v (.int i)) : v = .int i := by cases h; rfl
theorem DV.of_bl {v : V} {i : Bool} (h : DV K H v (.bool i)) : v = .bl i := by cases h; rfl
theorem DV.of_str {v : V} {i : Str} (h : DV K H v (.str i)) : v = .str i := by cases h; rfl
theorem DV.of_tup {v : V} {ds : List PyData} (h : DV K H v (.tuple ds)) : ∃ a xs, v = .ref a ∧ SqT K H a xs ∧ DVs K H xs ds := by cases h with | tup h t => exact ⟨_, _, rfl, h, t⟩
theorem excC_dvk {kvs : List (Key × V)} {es : List (PyData × PyData)} (h : DVk K H kvs es) : excC es = none := by
  cases h with
  | nil => rfl
  | cons h t =>
    rename_i k x d xs ds
    cases t with
    | nil => cases k <;> cases d <;> rfl
    | cons h2 t2 => rename_i k2 x2 d2 xs2 ds2; cases k <;> cases d <;> cases k2 <;> cases d2 <;> cases ds2 <;> rfl
theorem DV.of_exr {v : V} {C : Addr} {n : Int} (h : DV K H v (excRD C n)) : ∃ a dx, v = .ref a ∧ H a = some (.ext (ExcDAt a C dx)) ∧ H dx = some (.xd [("row", .int n)]) := by
  unfold excRD at h
  generalize ei : ((C : Nat) : Int) = i at h
  generalize ee : PyData.dict [(.none, .int i), (.none, .int n)] = e at h
  cases h with
  | dct h t =>
    injection ee with ee
    subst ee
    have z := excC_dvk t
    cases z
  | exr h h' =>
    injection ee with ee
    injection ee with ee e2
    injection ee with _ ee
    injection ee with ee
    injection e2 with e2 _
    injection e2 with _ e2
    injection e2 with e2
    have : C = _ := Int.ofNat.inj (ei.trans ee)
    subst this e2
    exact ⟨_, _, rfl, h, h'⟩
  | _ => cases ee
theorem DV.of_lst {v : V} {ds : List PyData} (h : DV K H v (.list ds)) : ∃ a xs, v = .ref a ∧ SqL K H a xs ∧ DVs K H xs ds := by cases h with | lst h t => exact ⟨_, _, rfl, h, t⟩
end
mutual
theorem DV.reads {X : Cx} {pins : List (Addr × Obj)} {σ : St} {H : Hp} {s : Shared} (I : Inv X pins σ H s) : ∀ {v : V} {d : PyData} {u : Value}, DV X.K H v d → RelV v u → d.canLay0 = true → ∃ as, Reads s.heap u d as
  | _, _, _, .non, r, _ => ⟨[], by rw [show _ = Value.none from r]; exact .none⟩
  | _, _, _, .bl b, r, _ => ⟨[], by rw [show _ = Value.bool b from r]; exact .bool b⟩
  | _, _, _, .int i, r, _ => let ⟨t, e⟩ := r; ⟨[], by rw [e]; exact .int i t⟩
  | _, _, _, .str x, r, _ => let ⟨t, e⟩ := r; ⟨[], by rw [e]; exact .str x t⟩
  | _, _, _, .tup h t, r, c => by
    rw [show _ = Value.ref _ from r]
    obtain ⟨its, rv, ⟨o, e1, e2, n, e3⟩, _⟩ := I.tuple h
    obtain ⟨as, q⟩ := DVs.reads I t rv (by unfold PyData.canLay0 at c; exact c)
    exact ⟨_, .tuple e1 e2 e3 (by simpa using q)⟩
  | _, _, _, .lst h t, r, c => by
    rw [show _ = Value.ref _ from r]
    obtain ⟨its, rv, pl, _⟩ := I.list h
    obtain ⟨o, e1, e2, n, e3⟩ := pl.isList
    obtain ⟨as, q⟩ := DVs.reads I t rv (by unfold PyData.canLay0 at c; exact c)
    exact ⟨_, .list e1 e2 e3 (by simpa using q)⟩
  | _, _, _, .dct h t, r, c => by simp [PyData.canLay0] at c
  | _, _, _, .exc h, r, c => by simp [PyData.canLay0] at c
  | _, _, _, .exr h h', r, c => by simp [PyData.canLay0] at c
theorem DVs.reads {X : Cx} {pins : List (Addr × Obj)} {σ : St} {H : Hp} {s : Shared} (I : Inv X pins σ H s) : ∀ {vs : List V} {ds : List PyData} {us : List Value}, DVs X.K H vs ds → Vals vs us → PyData.canLayAll0 ds = true → ∃ as, ReadsAll s.heap us ds as
  | _, _, _, .nil, .nil, _ => ⟨_, .nil⟩
  | _, _, _, .cons h t, .cons r rs, c => by
    unfold PyData.canLayAll0 at c
    rw [Bool.and_eq_true] at c
    obtain ⟨a1, q1⟩ := DV.reads I h r c.1
    obtain ⟨a2, q2⟩ := DVs.reads I t rs c.2
    exact ⟨_, .cons q1 q2⟩
end
abbrev Gam := List (Option PyData)
def SD (K : PySem.W.Frag) (H : Hp) (σ : St) (G : Gam) : Prop := σ.length = G.length ∧ ∀ (i : Nat) d, G[i]? = some (some d) → ∃ v, σ[i]? = some (some v) ∧ DV K H v d
theorem SD.mono {K : PySem.W.Frag} {H H' : Hp} {σ : St} {G : Gam} (h : SD K H σ G) (e : Same H H') : SD K H' σ G := ⟨h.1, fun i d z => let ⟨v, a, b⟩ := h.2 i d z; ⟨v, a, b.mono e⟩⟩
theorem SD.set {K : PySem.W.Frag} {H : Hp} {σ : St} {G : Gam} {i : Nat} {v : V} {d : PyData} (h : SD K H σ G) (q : DV K H v d) : SD K H (σ.set i (some v)) (G.set i (some d)) := by
  refine ⟨by rw [List.length_set, List.length_set, h.1], fun j e z => ?_⟩
  by_cases hj : i = j
  · subst hj
    by_cases hl : i < G.length
    · rw [List.getElem?_set_self hl] at z
      cases z
      exact ⟨v, List.getElem?_set_self (by rw [h.1]; exact hl), q⟩
    · rw [List.getElem?_eq_none (by rw [List.length_set]; omega)] at z
      cases z
  · rw [List.getElem?_set_ne hj] at z
    obtain ⟨w, a, b⟩ := h.2 j e z
    exact ⟨w, by rw [List.getElem?_set_ne hj]; exact a, b⟩
theorem SD.forget {K : PySem.W.Frag} {H : Hp} {σ : St} {G G' : Gam} (h : SD K H σ G) (hl : G'.length = G.length) (hw : ∀ (i : Nat) d, G'[i]? = some (some d) → G[i]? = some (some d)) : SD K H σ G' := ⟨h.1.trans hl.symm, fun i d z => h.2 i d (hw i d z)⟩
def tD (K : PySem.W.Frag) (G : Gam) (d : PyData) : TE := fun σ H Q => SD K H σ G ∧ ∀ v H', Same H H' → DV K H' v d → Q v H'
def tDT (K : PySem.W.Frag) (G : Gam) (b : Bool) : TT := fun σ H Q => SD K H σ G ∧ ∀ H', Same H H' → Q b H'
def tDA (K : PySem.W.Frag) (G : Gam) (ds : List PyData) : TA := fun σ H Q => SD K H σ G ∧ ∀ vs H', Same H H' → DVs K H' vs ds → Q vs H'
inductive Out where
  | next (G : Gam) | ret (d : PyData)
def tDS (K : PySem.W.Frag) (G : Gam) (o : Out) : TS := fun D σ H => SD K H σ G ∧ match o with
  | .next G' => ∀ σ' H', Same H H' → SD K H' σ' G' → D.nx σ' H'
  | .ret d => ∀ v H', Same H H' → DV K H' v d → D.rt v H'
abbrev EV (X : Cx) (G : Gam) (e : Expr) (d : PyData) : Prop := PE X e (tD X.K G d)
abbrev TV (X : Cx) (G : Gam) (e : Expr) (b : Bool) : Prop := PT X e (tDT X.K G b)
abbrev WV (X : Cx) (G : Gam) (e : Expr) (b : Bool) : Prop := PW X e (tDT X.K G b)
abbrev AV (X : Cx) (G : Gam) (es : List Expr) (ds : List PyData) : Prop := PA X es (tDA X.K G ds)
abbrev SV (X : Cx) (G : Gam) (st : Stmt) (o : Out) : Prop := PS X st (tDS X.K G o)
abbrev SVs (X : Cx) (G : Gam) (st : List Stmt) (o : Out) : Prop := PSs X st (tDS X.K G o)
section
variable {X : Cx} {G : Gam} {a b c e : Expr} {es : List Expr} {pos : Pos} {d da db dc : PyData}
theorem PE.imp {t t' : TE} (h : PE X e t) (m : ∀ σ H Q, t' σ H Q → t σ H Q) : PE X e t' := fun pins s σ H Q I q => h pins s σ H Q I (m σ H Q q)
theorem PT.imp {t t' : TT} (h : PT X e t) (m : ∀ σ H Q, t' σ H Q → t σ H Q) : PT X e t' := fun pins s σ H Q I q => h pins s σ H Q I (m σ H Q q)
theorem PW.imp {t t' : TT} (h : PW X e t) (m : ∀ σ H Q, t' σ H Q → t σ H Q) : PW X e t' := fun w pins s σ H Q I q => h w pins s σ H Q I (m σ H Q q)
theorem PA.imp {t t' : TA} (h : PA X es t) (m : ∀ σ H Q, t' σ H Q → t σ H Q) : PA X es t' := fun p pins s σ H Q I q => h p pins s σ H Q I (m σ H Q q)
theorem PS.imp {st : Stmt} {t t' : TS} (h : PS X st t) (m : ∀ D σ H, t' D σ H → t D σ H) : PS X st t' := fun pins s σ H D I q => h pins s σ H D I (m D σ H q)
theorem PSs.imp {st : List Stmt} {t t' : TS} (h : PSs X st t) (m : ∀ D σ H, t' D σ H → t D σ H) : PSs X st t' := fun pins s σ H D I q => h pins s σ H D I (m D σ H q)
theorem OpR.imp {f : Value → Value → Sem Value} {r r' : R2} (h : OpR X f r) (m : ∀ x y H Q, r' x y H Q → r x y H Q) : OpR X f r' := fun pins s σ H x y v u Q I rx ry q => h pins s σ H x y v u Q I rx ry (m x y H Q q)
theorem CallR.imp {f : Value} {r r' : List V → Hp → VK → Prop} (h : CallR X f r) (m : ∀ xs H Q, r' xs H Q → r xs H Q) : CallR X f r' := fun pins s σ H xs us Q I rs q => h pins s σ H xs us Q I rs (m xs H Q q)
theorem ev_var (i : Nat) {x : Str} (hG : G[i]? = some (some d)) (hp : PE X (.Name x pos) (tVar i)) : EV X G (.Name x pos) d := hp.imp fun σ H Q ⟨h, k⟩ => by
  obtain ⟨v, a, b⟩ := h.2 i d hG
  exact ⟨v, a, k v H (Same.refl H) b⟩
theorem ev_int {i j} : EV X G (.Constant (.int i) j pos) (.int i) := pe_int.imp fun σ H Q ⟨h, k⟩ => k _ H (Same.refl H) (.int i)
theorem ev_bl {i j} : EV X G (.Constant (.bool i) j pos) (.bool i) := pe_bl.imp fun σ H Q ⟨h, k⟩ => k _ H (Same.refl H) (.bl i)
theorem ev_str {i j} : EV X G (.Constant (.str i) j pos) (.str i) := pe_str.imp fun σ H Q ⟨h, k⟩ => k _ H (Same.refl H) (.str i)
def rD (K : PySem.W.Frag) (da db d : PyData) : R2 := fun x y H Q => DV K H x da ∧ DV K H y db ∧ ∀ v H', Same H H' → DV K H' v d → Q v H'
abbrev OD (X : Cx) (f : Value → Value → Sem Value) (da db d : PyData) : Prop := OpR X f (rD X.K da db d)
theorem tOp_D {r : R2} {σ : St} {H : Hp} {Q : VK} {K : PySem.W.Frag} (h : SD K H σ G) (k : ∀ x y H', Same H H' → DV K H' x da → DV K H' y db → r x y H' Q) : tOp r (tD K G da) (tD K G db) σ H Q :=
  ⟨h, fun x H1 s1 d1 => ⟨h.mono s1, fun y H2 s2 d2 => k x y H2 (s1.trans s2) (d1.mono s2) d2⟩⟩
theorem ev_bin {op : Operator} (ha : EV X G a da) (hb : EV X G b db) (ho : OD X (binaryOp op) da db d) : EV X G (.BinOp a op b pos) d :=
  (pe_op ho ha hb).imp fun σ H Q ⟨h, k⟩ => tOp_D h fun x y H' s' d1 d2 => ⟨d1, d2, fun v H2 s2 dv => k v H2 (s'.trans s2) dv⟩
theorem ev_cmp {op : CmpOp} (ha : EV X G a da) (hb : EV X G b db) (ho : OD X (compareOp op) da db d) (hm : behindInMarks op b = false) : EV X G (.Compare a [op] [b] pos) d :=
  (pe_cmpR ho ha hb hm).imp fun σ H Q ⟨h, k⟩ => tOp_D h fun x y H' s' d1 d2 => ⟨d1, d2, fun v H2 s2 dv => k v H2 (s'.trans s2) dv⟩
theorem tv_cmp {op : CmpOp} {k : Bool} (ha : EV X G a da) (hb : EV X G b db) (ho : OD X (compareOp op) da db (.bool k)) (hm : behindInMarks op b = false) : TV X G (.Compare a [op] [b] pos) k :=
  (pt_cmpR ho ha hb hm).imp fun σ H Q ⟨h, kk⟩ => tOp_D h fun x y H' s' d1 d2 => ⟨d1, d2, fun v H2 s2 dv => ⟨k, dv.of_bl, kk H2 (s'.trans s2)⟩⟩
theorem od_rI0 {f : Value → Value → Sem Value} {i j : Int} {g : Int → Int → V} (h : OpR X f (rI0 g)) (hd : ∀ H, DV X.K H (g i j) d) : OD X f (.int i) (.int j) d :=
  h.imp fun x y H Q ⟨h1, h2, k⟩ => ⟨i, j, h1.of_int, h2.of_int, k _ H (Same.refl H) (hd H)⟩
theorem od_rI {f : Value → Value → Sem Value} {i j : Int} {C : Int → Int → Prop} {g : Int → Int → V} (h : OpR X f (rI C g)) (hc : C i j) (hd : ∀ H, DV X.K H (g i j) d) : OD X f (.int i) (.int j) d :=
  h.imp fun x y H Q ⟨h1, h2, k⟩ => ⟨i, j, h1.of_int, h2.of_int, hc, k _ H (Same.refl H) (hd H)⟩
theorem od_eq {k : Bool} (hu : X.A.units + 64 < cLine) (ha : da.canLay0 = true) (hb : db.canLay0 = true) (hd : min da.depth db.depth ≤ 60) (hk : PyData.eqv da db = k) : OD X (compareOp .Eq) da db (.bool k) := by
  intro pins s σ H x y v u Q I rx ry ⟨h1, h2, q⟩
  obtain ⟨as, r1⟩ := h1.reads I rx ha
  obtain ⟨bs, r2⟩ := h2.reads I ry hb
  refine PySem.SeqAt.compareEq_reads r1 r2 ha hb (by omega) ⟨.bl _, H, I, rfl, q _ H (Same.refl H) ?_⟩
  rw [hk]
  exact .bl k
theorem od_ne {k : Bool} (hu : X.A.units + 64 < cLine) (ha : da.canLay0 = true) (hb : db.canLay0 = true) (hd : min da.depth db.depth ≤ 60) (hk : (!PyData.eqv da db) = k) : OD X (compareOp .NotEq) da db (.bool k) := by
  intro pins s σ H x y v u Q I rx ry ⟨h1, h2, q⟩
  obtain ⟨as, r1⟩ := h1.reads I rx ha
  obtain ⟨bs, r2⟩ := h2.reads I ry hb
  refine PySem.SeqAt.compareNe_reads r1 r2 ha hb (by omega) ⟨.bl _, H, I, rfl, q _ H (Same.refl H) ?_⟩
  rw [hk]
  exact .bl k
end
end L2
set_option maxRecDepth 100000
set_option maxHeartbeats 4000000
namespace L2
open PySem PySem.Spec PyProof.Rows
section
variable {X : Cx} {G : Gam} {a b c e : Expr} {es rest : List Expr} {pos : Pos} {d da db dc : PyData}
theorem Same.new {H : Hp} {p : Addr} {o : HO} (h : H p = none) : Same H (upd H p o) := fun b u e => by rw [upd_ne (ne_of_none e h)]; exact e
theorem tv_val {k : Bool} (h : EV X G e (.bool k)) (he : ∀ whole, isTrue e X.env whole = (do let v ← whole; standAt e.pos; holding [v] (truthy v)) := by intro _; rfl) : TV X G e k :=
  (pt_val h he).imp fun σ H Q ⟨h, q⟩ => ⟨h, fun v H' s' dv => ⟨k, dv.of_bl, q H' s'⟩⟩
theorem wv_and1 {k : Bool} (h : TV X G a k) : WV X G (.BoolOp .And [a] pos) k := pw_and1 h
theorem wv_or1 {k : Bool} (h : TV X G a k) : WV X G (.BoolOp .Or [a] pos) k := pw_or1 h
theorem wv_and {k k' : Bool} (h : TV X G a k) (h2 : k = true → WV X G (.BoolOp .And (b :: rest) pos) k') : WV X G (.BoolOp .And (a :: b :: rest) pos) (k && k') := by
  cases k with
  | true => exact (pw_and h (h2 rfl)).imp fun σ H Q ⟨h, q⟩ => ⟨h, fun H' s' => (by simp only [if_true]; exact ⟨h.mono s', fun H2 s2 => q H2 (s'.trans s2)⟩)⟩
  | false =>
    intro wh pins s σ H Q I ⟨h1, q⟩
    refine isTrue_and (thn (h pins s σ H (fun c H1 => c = false ∧ Q false H1) I ⟨h1, fun H' s' => ⟨rfl, q H' s'⟩⟩) fun c s1 ⟨H1, I1, e1, q1⟩ => ?_)
    subst e1
    exact ⟨H1, I1, q1⟩
theorem wv_or {k k' : Bool} (h : TV X G a k) (h2 : k = false → WV X G (.BoolOp .Or (b :: rest) pos) k') : WV X G (.BoolOp .Or (a :: b :: rest) pos) (k || k') := by
  cases k with
  | false => exact (pw_or h (h2 rfl)).imp fun σ H Q ⟨h, q⟩ => ⟨h, fun H' s' => (by simp only [Bool.false_eq_true, if_false]; exact ⟨h.mono s', fun H2 s2 => q H2 (s'.trans s2)⟩)⟩
  | true =>
    intro wh pins s σ H Q I ⟨h1, q⟩
    refine isTrue_or (thn (h pins s σ H (fun c H1 => c = true ∧ Q true H1) I ⟨h1, fun H' s' => ⟨rfl, q H' s'⟩⟩) fun c s1 ⟨H1, I1, e1, q1⟩ => ?_)
    subst e1
    exact ⟨H1, I1, q1⟩
theorem tv_w {k : Bool} (h : WV X G e k) : TV X G e k := h.pt
theorem tv_not {k : Bool} (h : TV X G a k) : TV X G (.UnaryOp .Not a pos) (!k) := (pt_not h).imp fun σ H Q ⟨h, q⟩ => ⟨h, fun H' s' => q H' s'⟩
theorem ev_not {k : Bool} (h : EV X G a (.bool k)) : EV X G (.UnaryOp .Not a pos) (.bool (!k)) := (pe_not h).imp fun σ H Q ⟨h, q⟩ => ⟨h, fun v H' s' dv => ⟨k, dv.of_bl, q _ H' s' (.bl _)⟩⟩
theorem ev_one {op} (h : EV X G a d) : EV X G (.BoolOp op [a] pos) d := pe_one h
theorem ev_and {k : Bool} (h : EV X G a (.bool k)) (h2 : k = true → EV X G (.BoolOp .And (b :: rest) pos) d) (h3 : k = false → d = .bool false) : EV X G (.BoolOp .And (a :: b :: rest) pos) d := by
  cases k with
  | true => exact (pe_and h (h2 rfl)).imp fun σ H Q ⟨h, q⟩ => ⟨h, fun v H' s' dv => ⟨true, dv.of_bl, by simp only [if_true]; exact ⟨h.mono s', fun v2 H2 s2 d2 => q v2 H2 (s'.trans s2) d2⟩⟩⟩
  | false =>
    intro pins s σ H Q I ⟨h1, q⟩
    refine BoolOp_and (thn (h pins s σ H (fun v H1 => v = .bl false ∧ Q (.bl false) H1) I ⟨h1, fun v H' s' dv => ⟨dv.of_bl, q _ H' s' (by rw [h3 rfl]; exact .bl _)⟩⟩) fun v s1 ⟨x, H1, I1, r1, e1, q1⟩ => ?_)
    subst e1
    cases r1
    exact wpAny_truthy_bool ⟨.bl false, H1, I1, rfl, q1⟩
theorem ev_chain {op op' : CmpOp} {k k' : Bool} (ho : OD X (compareOp op) da db (.bool k)) (ho' : k = true → OD X (compareOp op') db dc (.bool k')) (ha : EV X G a da) (hb : EV X G b db) (hc : k = true → EV X G c dc)
    (hm : lastMarks [op, op'] [b, c] = false := by with_unfolding_all rfl) : EV X G (.Compare a [op, op'] [b, c] pos) (.bool (k && k')) := by
  cases k with
  | true =>
    refine (pe_chain ho (ho' rfl) ha hb (hc rfl) hm).imp fun σ H Q ⟨h, q⟩ => ⟨h, fun x H1 s1 d1 => ⟨h.mono s1, fun y H2 s2 d2 => ⟨d1.mono s2, d2, fun v H3 s3 d3 => ⟨true, d3.of_bl, ?_⟩⟩⟩⟩
    simp only [if_true]
    exact ⟨((h.mono s1).mono s2).mono s3, fun z H4 s4 d4 => ⟨(d2.mono s3).mono s4, d4, fun v H5 s5 d5 => q v H5 ((((s1.trans s2).trans s3).trans s4).trans s5) d5⟩⟩
  | false =>
    intro pins s σ H Q I ⟨h1, q⟩
    refine Compare_chain (thn (ha pins s σ H (fun x H1 => Same H H1 ∧ DV X.K H1 x da) I ⟨h1, fun v H' s' dv => ⟨s', dv⟩⟩) fun v s1 ⟨x, H1, I1, r1, z1, d1⟩ =>
      chain_link (thn (hb pins s1 σ H1 (fun y H2 => Same H H2 ∧ DV X.K H2 x da ∧ DV X.K H2 y db) I1 ⟨h1.mono z1, fun v H' s' dv => ⟨z1.trans s', d1.mono s', dv⟩⟩) fun u s2 ⟨y, H2, I2, r2, z2, d2, d3⟩ =>
      thn (ho pins s2 σ H2 x y v u (fun z H3 => z = .bl false ∧ Q (.bl false) H3) I2 r1 r2 ⟨d2, d3, fun v H3 s3 d3 => ⟨d3.of_bl, q _ H3 (z2.trans s3) (.bl false)⟩⟩) fun w s3 ⟨z, H3, I3, r3, e3, q3⟩ => ?_)) hm
    subst e3
    cases r3
    exact wpAny_truthy_bool (ite_ff ⟨.bl false, H3, I3, rfl, q3⟩)
theorem od_add {i j : Int} : OD X (binaryOp .Add) (.int i) (.int j) (.int (i + j)) := od_rI0 op_add fun H => .int _
theorem od_sub {i j : Int} : OD X (binaryOp .Sub) (.int i) (.int j) (.int (i - j)) := od_rI0 op_sub fun H => .int _
theorem od_mul {i j : Int} (h : CMul i j) : OD X (binaryOp .Mult) (.int i) (.int j) (.int (i * j)) := od_rI op_mul h fun H => .int _
theorem od_fdiv {i j : Int} (h : CDiv i j) : OD X (binaryOp .FloorDiv) (.int i) (.int j) (.int (i / j)) := od_rI op_fdiv h fun H => .int _
theorem od_mod {i j : Int} (h : 0 < j) : OD X (binaryOp .Mod) (.int i) (.int j) (.int (i % j)) := od_rI op_mod h fun H => .int _
theorem od_pow {i j : Int} (h : CPow i j) : OD X (binaryOp .Pow) (.int i) (.int j) (.int (i ^ j.toNat)) := od_rI op_pow h fun H => .int _
theorem od_xor {i j : Int} : OD X (binaryOp .BitXor) (.int i) (.int j) (.int (Builtin.bitXor i j)) := od_rI0 op_xor fun H => .int _
theorem od_lt {i j : Int} : OD X (compareOp .Lt) (.int i) (.int j) (.bool (decide (i < j))) := od_rI0 op_lt fun H => .bl _
theorem od_le {i j : Int} : OD X (compareOp .LtE) (.int i) (.int j) (.bool (decide (i ≤ j))) := od_rI0 op_le fun H => .bl _
theorem od_gt {i j : Int} : OD X (compareOp .Gt) (.int i) (.int j) (.bool (decide (j < i))) := od_rI0 op_gt fun H => .bl _
theorem od_ge {i j : Int} : OD X (compareOp .GtE) (.int i) (.int j) (.bool (decide (j ≤ i))) := od_rI0 op_ge fun H => .bl _
theorem od_catL {xs ys : List PyData} (hz : xs.length + ys.length ≤ sizeLine) : OD X (binaryOp .Add) (.list xs) (.list ys) (.list (xs ++ ys)) := by
  intro pins s σ H x y v u Q I rx ry ⟨h1, h2, q⟩
  obtain ⟨l, us, rfl, hl, d1⟩ := h1.of_lst
  obtain ⟨m, ws, rfl, hm, d2⟩ := h2.of_lst
  cases rx
  cases ry
  obtain ⟨its, r, pl, _⟩ := I.list hl
  obtain ⟨its2, r2, pl2, _⟩ := I.list hm
  obtain ⟨⟨cls, dd, data, sl⟩, ho, hc, n, hd⟩ := pl.isList
  obtain ⟨⟨cls2, dd2, data2, sl2⟩, ho2, hc2, n2, hd2⟩ := pl2.isList
  simp only at hc hd hc2 hd2
  subst hc hd hc2 hd2
  have hn : its.toArray.size + its2.toArray.size ≤ sizeLine := by rw [List.size_toArray, List.size_toArray, ← r.length, ← r2.length, d1.length, d2.length]; exact hz
  refine concat_meets ⟨_, ho, rfl⟩ ⟨_, ho2, rfl⟩ noFill_list_add seq_list_add PySem.F.slot_list_add PySem.F.entry_list_add (PySem.F.args_list_add_2 _ _) (list_addW l m its.toArray its2.toArray n n2 dd dd2 sl sl2 hn) ⟨ho, ho2, ?_⟩
  have ea : its.toArray ++ its2.toArray = (its ++ its2).toArray := by simp
  rw [ea]
  have hf := I.hok.fresh (Nat.le_refl _)
  refine ⟨.ref s.heap.objs.size, _, I.laid (t' := s.toks) (o := .lst (us ++ ws)) (fun b o e => Heap.get?_push_of_some _ e) (Nat.le_refl _) ⟨by rw [List.length_append, d1.length, d2.length]; exact hz, its ++ its2, 0, r.append r2, Heap.get?_push_size _ rfl⟩, rfl, q _ _ (Same.new hf) ?_⟩
  exact .lst (SqL.of upd_same) ((d1.append d2).mono (Same.new hf))
theorem od_catT {xs ys : List PyData} (hx : xs ≠ []) (hz : xs.length + ys.length ≤ sizeLine) : OD X (binaryOp .Add) (.tuple xs) (.tuple ys) (.tuple (xs ++ ys)) :=
  op_catT.imp fun x y H Q ⟨h1, h2, q⟩ => by
    obtain ⟨l, us, rfl, hl, d1⟩ := h1.of_tup
    obtain ⟨m, ws, rfl, hm, d2⟩ := h2.of_tup
    refine ⟨l, m, us, ws, rfl, rfl, hl, hm, fun z => hx ?_, by rw [d1.length, d2.length]; exact hz, fun z => ?_, fun z p hp => ?_⟩
    · subst z
      cases d1
      rfl
    · subst z
      cases d2
      rw [List.append_nil] at q
      exact q _ H (Same.refl H) (.tup hl d1)
    · exact q _ _ (Same.new hp) (.tup (SqT.of upd_same) ((d1.append d2).mono (Same.new hp)))
def flatD : PyData → Bool
  | .none => true
  | .bool _ => true
  | .int _ => true
  | .str _ => true
  | _ => false
theorem DV.flat {K : PySem.W.Frag} {H : Hp} {v : V} {d : PyData} (h : DV K H v d) (f : flatD d = true) : flatV v = true := by
  cases h <;> first | rfl | cases f
theorem DVs.flat {K : PySem.W.Frag} {H : Hp} : ∀ {vs : List V} {ds : List PyData}, DVs K H vs ds → ds.all flatD = true → vs.all flatV = true
  | _, _, .nil, _ => rfl
  | _, _, .cons h t, f => by
    rw [List.all_cons, Bool.and_eq_true] at f ⊢
    exact ⟨h.flat f.1, DVs.flat t f.2⟩
theorem DV.eqV_eqv {K : PySem.W.Frag} {H : Hp} {v w : V} {d e : PyData} (h : DV K H v d) (h' : DV K H w e) (f : flatD d = true) (f' : flatD e = true) : eqV v w = PyData.eqv d e := by
  cases h <;> cases h' <;> first | rfl | (simp [flatD] at f; done) | (simp [flatD] at f'; done)
theorem DVs.inV {K : PySem.W.Frag} {H : Hp} {v : V} {d : PyData} (h : DV K H v d) (f : flatD d = true) : ∀ {vs : List V} {ds : List PyData}, DVs K H vs ds → ds.all flatD = true → inV v vs = ds.any fun e => PyData.eqv e d
  | _, _, .nil, _ => rfl
  | _, _, .cons h' t, fs => by
    rw [List.all_cons, Bool.and_eq_true] at fs
    have ih := DVs.inV h f t fs.2
    unfold L2.inV at ih ⊢
    rw [List.any_cons, List.any_cons, ih, h'.eqV_eqv h fs.1 f]
theorem od_in {xs : List PyData} {k : Bool} (hs : db = .list xs ∨ db = .tuple xs) (f : flatD da = true) (fs : xs.all flatD = true) (hk : (xs.any fun e => PyData.eqv e da) = k) : OD X (compareOp .In) da db (.bool k) :=
  op_in_seq.imp fun x y H Q ⟨h1, h2, q⟩ => by
    have z : ∃ p us, y = .ref p ∧ (SqL X.K H p us ∨ SqT X.K H p us) ∧ DVs X.K H us xs := by
      rcases hs with rfl | rfl
      · obtain ⟨l, us, e, hl, d1⟩ := h2.of_lst
        exact ⟨l, us, e, .inl hl, d1⟩
      · obtain ⟨l, us, e, hl, d1⟩ := h2.of_tup
        exact ⟨l, us, e, .inr hl, d1⟩
    obtain ⟨p, us, e, hl, d1⟩ := z
    refine ⟨p, us, e, hl, h1.flat f, d1.flat fs, q _ H (Same.refl H) ?_⟩
    rw [if_neg (by simp), d1.inV h1 f fs, hk]
    exact .bl k
theorem od_notIn {xs : List PyData} {k : Bool} (hs : db = .list xs ∨ db = .tuple xs) (f : flatD da = true) (fs : xs.all flatD = true) (hk : (!xs.any fun e => PyData.eqv e da) = k) : OD X (compareOp .NotIn) da db (.bool k) :=
  op_notIn_seq.imp fun x y H Q ⟨h1, h2, q⟩ => by
    have z : ∃ p us, y = .ref p ∧ (SqL X.K H p us ∨ SqT X.K H p us) ∧ DVs X.K H us xs := by
      rcases hs with rfl | rfl
      · obtain ⟨l, us, e, hl, d1⟩ := h2.of_lst
        exact ⟨l, us, e, .inl hl, d1⟩
      · obtain ⟨l, us, e, hl, d1⟩ := h2.of_tup
        exact ⟨l, us, e, .inr hl, d1⟩
    obtain ⟨p, us, e, hl, d1⟩ := z
    refine ⟨p, us, e, hl, h1.flat f, d1.flat fs, q _ H (Same.refl H) ?_⟩
    rw [if_pos rfl, d1.inV h1 f fs, hk]
    exact .bl k
theorem av_nil : AV X G [] [] := pa_nil.imp fun σ H Q ⟨h, q⟩ => q [] H (Same.refl H) .nil
theorem av_cons {ds : List PyData} (h : EV X G e d) (hr : AV X G es ds) (hs : starEach (e :: es) X.env = (false, eval e X.env) :: starEach es X.env := by rfl) : AV X G (e :: es) (d :: ds) :=
  (pa_cons h hr hs).imp fun σ H Q ⟨h, q⟩ => ⟨h, fun v H1 s1 d1 => ⟨h.mono s1, fun vs H2 s2 d2 => q _ H2 (s1.trans s2) (.cons (d1.mono s2) d2)⟩⟩
theorem ev_tup {x1} {ds : List PyData} (h : AV X G es ds) (hz : ds.length ≤ sizeLine) : EV X G (.Tuple es x1 pos) (.tuple ds) :=
  (pe_tup h).imp fun σ H Q ⟨h, q⟩ => ⟨h, fun vs H1 s1 d1 => ⟨by rw [d1.length]; exact hz, fun p hp => q _ _ (s1.trans (Same.new hp)) (.tup (SqT.of upd_same) (d1.mono (Same.new hp)))⟩⟩
theorem ev_lst {ds : List PyData} (h : AV X G es ds) (hz : ds.length ≤ sizeLine) : EV X G (.List es pos) (.list ds) :=
  (pe_lst h).imp fun σ H Q ⟨h, q⟩ => ⟨h, fun vs H1 s1 d1 => ⟨by rw [d1.length]; exact hz, fun p hp => q _ _ (s1.trans (Same.new hp)) (.lst (SqL.of upd_same) (d1.mono (Same.new hp)))⟩⟩
theorem DVs.atI {K : PySem.W.Frag} {H : Hp} {vs : List V} {ds : List PyData} {i : Int} {d : PyData} (h : DVs K H vs ds) (e : atI ds i = some d) : ∃ v, L2.atI vs i = some v ∧ DV K H v d := by
  unfold L2.atI at e ⊢
  rw [h.length]
  cases q : ixN ds.length i with
  | none => rw [q] at e; cases e
  | some j =>
    rw [q] at e
    exact h.get e
theorem ev_ixL {ds : List PyData} {i : Int} (ha : EV X G a (.list ds)) (hb : EV X G b (.int i)) (he : atI ds i = some d) (hs : PlainIx b := by intro _ _; rfl) : EV X G (.Subscript a b pos) d :=
  (pe_ix ix_list ha hb hs).imp fun σ H Q ⟨h, q⟩ => tOp_D h fun x y H' s' d1 d2 => by
    obtain ⟨l, us, rfl, hl, d3⟩ := d1.of_lst
    obtain ⟨v, e1, e2⟩ := d3.atI he
    exact ⟨l, us, i, v, rfl, d2.of_int, hl, e1, q v H' s' e2⟩
theorem ev_ixT {ds : List PyData} {i : Int} (ha : EV X G a (.tuple ds)) (hb : EV X G b (.int i)) (he : atI ds i = some d) (hs : PlainIx b := by intro _ _; rfl) : EV X G (.Subscript a b pos) d :=
  (pe_ix ix_tup ha hb hs).imp fun σ H Q ⟨h, q⟩ => tOp_D h fun x y H' s' d1 d2 => by
    obtain ⟨l, us, rfl, hl, d3⟩ := d1.of_tup
    obtain ⟨v, e1, e2⟩ := d3.atI he
    exact ⟨l, us, i, v, rfl, d2.of_int, hl, e1, q v H' s' e2⟩
theorem ev_neg {i : Int} (ha : EV X G a (.int i)) : EV X G (.UnaryOp .USub a pos) (.int (-i)) :=
  (pe_un un_neg ha).imp fun σ H Q ⟨h, q⟩ => ⟨h, fun v H' s' dv => ⟨i, dv.of_int, q _ H' s' (.int _)⟩⟩
def tDO (K : PySem.W.Frag) (G : Gam) (o : Option Int) : TO := fun σ H Q => SD K H σ G ∧ ∀ H', Same H H' → Q o H'
abbrev OV (X : Cx) (G : Gam) (e : Option Expr) (o : Option Int) : Prop := PO X e (tDO X.K G o)
theorem ov_none : OV X G none none := fun pins s σ H Q I ⟨h, q⟩ => po_none pins s σ H Q I (q H (Same.refl H))
theorem ov_some {i : Int} (h : EV X G e (.int i)) : OV X G (some e) (some i) := fun pins s σ H Q I ⟨h1, q⟩ => po_some h pins s σ H Q I ⟨h1, fun v H' s' dv => ⟨i, dv.of_int, q H' s'⟩⟩
def cutD (xs : List PyData) (lo hi : Option Int) : List PyData := (xs.drop (HT.sIx xs.length 0 lo)).take (HT.sIx xs.length xs.length hi - HT.sIx xs.length 0 lo)
theorem DVs.cut {K : PySem.W.Frag} {H : Hp} {vs : List V} {ds : List PyData} (h : DVs K H vs ds) (lo hi : Option Int) : DVs K H (cutV vs lo hi) (cutD ds lo hi) := by
  unfold cutV cutD
  rw [h.length]
  exact (h.drop _).take _
theorem ev_slT {lo hi : Option Expr} {ol oh : Option Int} {p2 : Pos} {ds : List PyData} (ha : EV X G a (.tuple ds)) (hl : OV X G lo ol) (hh : OV X G hi oh) (hw : ¬ (HT.sIx ds.length 0 ol = 0 ∧ HT.sIx ds.length ds.length oh = ds.length)) :
    EV X G (.Subscript a (.Slice lo hi none p2) pos) (.tuple (cutD ds ol oh)) :=
  (pe_slice sl_tup ha hl hh).imp fun σ H Q ⟨h, q⟩ => ⟨h, fun v H1 s1 d1 => ⟨h.mono s1, fun H2 s2 => ⟨(h.mono s1).mono s2, fun H3 s3 => by
    obtain ⟨l, us, rfl, hl, d3⟩ := ((d1.mono s2).mono s3).of_tup
    exact ⟨l, us, rfl, hl, by rw [d3.length]; exact hw, fun p hp => q _ _ (((s1.trans s2).trans s3).trans (Same.new hp)) (.tup (SqT.of upd_same) ((d3.cut ol oh).mono (Same.new hp)))⟩⟩⟩⟩
end
end L2
set_option maxRecDepth 100000
set_option maxHeartbeats 4000000
namespace L2
open PySem PySem.Spec PyProof.Rows
section
variable {κ : Type} [DecidableEq κ]
def valV (kvs : List (κ × V)) (k : κ) : Option V := (kvs.find? fun kv => decide (kv.1 = k)).map (·.2)
def putK (kvs : List (κ × V)) (k : κ) (v : V) : List (κ × V) :=
  if (kvs.any fun kv => decide (kv.1 = k)) = true then kvs.map (fun kv => if kv.1 = k then (kv.1, v) else kv) else kvs ++ [(k, v)]
def dropK (kvs : List (κ × V)) (k : κ) : List (κ × V) := kvs.filter fun kv => decide (kv.1 ≠ k)
theorem valV_pos {p : κ × V} {r : List (κ × V)} {k : κ} (e : p.1 = k) : valV (p :: r) k = some p.2 := by simp [valV, List.find?_cons, e]
theorem valV_neg {p : κ × V} {r : List (κ × V)} {k : κ} (e : ¬ p.1 = k) : valV (p :: r) k = valV r k := by simp [valV, List.find?_cons, e]
theorem valV_any (k : κ) : ∀ kvs : List (κ × V), (kvs.any fun kv => decide (kv.1 = k)) = (valV kvs k).isSome
  | [] => rfl
  | p :: r => by
    rw [List.any_cons]
    by_cases e : p.1 = k
    · simp only [valV_pos e, decide_eq_true e, Bool.true_or, Option.isSome_some]
    · rw [valV_neg e, decide_eq_false e, Bool.false_or]; exact valV_any k r
theorem RelO.getD {o : Option V} {u : Option Value} {d : V} {d' : Value} (r : RelO o u) (rd : RelV d d') : RelV (o.getD d) (u.getD d') := by
  cases o with
  | none => cases u with
    | none => exact rd
    | some _ => exact (show False from r).elim
  | some _ => cases u with
    | none => exact (show False from r).elim
    | some _ => exact r
theorem KV.val {kvs : List (κ × V)} {vs : List (κ × Value)} (r : KV kvs vs) (k : κ) : RelO (valV kvs k) (valueAt vs k) := by
  unfold KV at r
  induction r with
  | nil => exact True.intro
  | @cons p q ps qs h t ih =>
    obtain ⟨h1, h2⟩ := h
    by_cases e : p.1 = k
    · have e' : q.1 = k := h1.symm.trans e
      have b : valueAt (q :: qs) k = some q.2 := by simp [valueAt, List.find?_cons, e']
      rw [valV_pos e, b]; exact h2
    · have e' : ¬ q.1 = k := fun z => e (h1.trans z)
      have b : valueAt (q :: qs) k = valueAt qs k := by simp [valueAt, List.find?_cons, e']
      rw [valV_neg e, b]; exact ih
theorem KV.any {kvs : List (κ × V)} {vs : List (κ × Value)} (r : KV kvs vs) (k : κ) : (kvs.any fun kv => decide (kv.1 = k)) = vs.any fun kv => decide (kv.1 = k) := by
  unfold KV at r
  induction r with
  | nil => rfl
  | cons h t ih => rw [List.any_cons, List.any_cons, ih, h.1]
theorem KV.drop {kvs : List (κ × V)} {vs : List (κ × Value)} (r : KV kvs vs) (k : κ) : KV (dropK kvs k) (without vs k) := by
  unfold KV at r ⊢
  unfold dropK without
  induction r with
  | nil => exact .nil
  | @cons p q ps qs h t ih =>
    obtain ⟨h1, h2⟩ := h
    rw [List.filter_cons, List.filter_cons]
    by_cases e : p.1 = k
    · have a : ¬ decide (p.1 ≠ k) = true := by simp [e]
      have b : ¬ decide (q.1 ≠ k) = true := by simp [h1.symm.trans e]
      rw [if_neg a, if_neg b]; exact ih
    · have e' : ¬ q.1 = k := fun z => e (h1.trans z)
      have a : decide (p.1 ≠ k) = true := by simp [e]
      have b : decide (q.1 ≠ k) = true := by simp [e']
      rw [if_pos a, if_pos b]; exact .cons ⟨h1, h2⟩ ih
theorem KV.keys {kvs : List (κ × V)} {vs : List (κ × Value)} (r : KV kvs vs) : kvs.map (·.1) = vs.map (·.1) := by
  unfold KV at r
  induction r with
  | nil => rfl
  | cons h t ih => rw [List.map_cons, List.map_cons, ih, h.1]
theorem KV.length {kvs : List (κ × V)} {vs : List (κ × Value)} (r : KV kvs vs) : kvs.length = vs.length := Paired.length r
end
theorem kV_is {P : Program} {w : World} {k : Key} {u : Value} (r : RelV (kV k) u) : (mixKind P w).is k u = true := by
  cases k with
  | inl i => obtain ⟨t, e⟩ := (show ∃ t, u = Value.int i t from r); subst e; exact mixKind_int P w i t
  | inr x => obtain ⟨t, e⟩ := (show ∃ t, u = Value.str x t from r); subst e; exact mixKind_str P w x t
theorem items_are {P : Program} {w : World} : ∀ {ks : List Key} {us : List Value}, Vals (ks.map kV) us → ItemsAre (mixKind P w) ks us
  | [], _, r => by rw [List.map_nil] at r; cases r; exact .nil
  | k :: ks, _, r => by
    rw [List.map_cons] at r
    cases r with
    | cons h t => exact .cons (kV_is h) (items_are t)
abbrev KT (H : Hp) : List (List Key × V) → List (List Key × Addr × Value) → Prop := Paired fun p q => p.1 = q.1 ∧ H q.2.1 = some (.tup (p.1.map kV)) ∧ RelV p.2 q.2.2
theorem KT.val {H : Hp} {kvs : List (List Key × V)} {xs : List (List Key × Addr × Value)} (r : KT H kvs xs) (k : List Key) : RelO (valV kvs k) ((atKey xs k).map (·.2)) := by
  induction r with
  | nil => exact True.intro
  | @cons p q ps qs h t ih =>
    obtain ⟨h1, _, h2⟩ := h
    by_cases e : p.1 = k
    · have e' : q.1 = k := h1.symm.trans e
      have b : atKey (q :: qs) k = some q.2 := by simp [atKey, List.find?_cons, e']
      rw [valV_pos e, b]; exact h2
    · have e' : ¬ q.1 = k := fun z => e (h1.trans z)
      have b : atKey (q :: qs) k = atKey qs k := by simp [atKey, List.find?_cons, e']
      rw [valV_neg e, b]; exact ih
theorem KT.keeps {H H' : Hp} {kvs : List (List Key × V)} {xs : List (List Key × Addr × Value)} (r : KT H kvs xs) (ht : ∀ b ys, H b = some (.tup ys) → H' b = some (.tup ys)) : KT H' kvs xs :=
  Paired.mapP r fun _ _ z => ⟨z.1, ht _ _ z.2.1, z.2.2⟩
section
variable {P : Program} {w : World} {H : Hp} {h : Heap} {a : Addr}
theorem rd_of {u : HO} (ok : HOk P w H h) (e : Rd H a u) : ObjOk P w H h a u := e.ok ok
theorem dk_rd {kvs : List (Key × V)} (ok : HOk P w H h) (e : Rd H a (.dK kvs)) : kvs.length ≤ sizeLine ∧ (a == sysModules) = false ∧ ∃ vs, KV kvs vs ∧ h.DictOf (mixKind P w) a vs :=
  show ObjOk P w H h a (.dK kvs) from rd_of ok e
theorem key_of {ks : List Key} (ok : HOk P w H h) (e : H a = some (.tup (ks.map kV))) : (tupleKind (mixKind P w)).is h ks a := by
  obtain ⟨_, its, r, o, h1, h2, n, h3⟩ := (show ObjOk P w H h a (.tup (ks.map kV)) from ok a _ e)
  exact ⟨o, its.toArray, n, h1, h2, h3, by simpa using items_are r⟩
theorem dt_rd {kvs : List (List Key × V)} (ok : HOk P w H h) (e : Rd H a (.dT kvs)) : kvs.length ≤ sizeLine ∧ (a == sysModules) = false ∧
    ∃ xs, KT H kvs xs ∧ h.DictOfH (tupleKind (mixKind P w)) a xs := by
  obtain ⟨z, y, xs, r, o, es, ep, h1, h2, h3, h4, h5⟩ := (show ObjOk P w H h a (.dT kvs) from rd_of ok e)
  refine ⟨z, y, xs, r, o, es, ep, h1, h2, h3, h4, fun x hx => ?_, h5⟩
  have all : ∀ {l : List (List Key × V)} {m : List (List Key × Addr × Value)}, KT H l m → ∀ x ∈ m, (tupleKind (mixKind P w)).is h x.1 x.2.1 := by
    intro l m q
    induction q with
    | nil => intro x hx; exact nomatch hx
    | @cons p q ps qs hq t ih =>
      intro x hx
      rcases List.mem_cons.mp hx with e | hx
      · subst e
        exact key_of ok (by rw [← hq.1]; exact hq.2.1)
      · exact ih x hx
  exact all r x hx
end
def DGet (H : Hp) (a : Addr) (y : V) (r : Option V) : Prop :=
  (∃ kvs k, Rd H a (.dK kvs) ∧ y = kV k ∧ r = valV kvs k) ∨ ∃ kvs k b, Rd H a (.dT kvs) ∧ y = .ref b ∧ H b = some (.tup (k.map kV)) ∧ r = valV kvs k
def DPut (H : Hp) (a : Addr) (y v : V) (H' : Hp) : Prop :=
  (∃ kvs k, H a = some (.dK kvs) ∧ y = kV k ∧ kvs.length < sizeLine ∧ H' = upd H a (.dK (putK kvs k v))) ∨
  ∃ kvs k b, H a = some (.dT kvs) ∧ y = .ref b ∧ H b = some (.tup (k.map kV)) ∧ kvs.length < sizeLine ∧ H' = upd H a (.dT (putK kvs k v))
theorem DGet.k {H : Hp} {a : Addr} {kvs : List (Key × V)} {k : Key} (e : H a = some (.dK kvs)) : DGet H a (kV k) (valV kvs k) := .inl ⟨kvs, k, .inl e, rfl, rfl⟩
theorem DGet.t {H : Hp} {a b : Addr} {kvs : List (List Key × V)} {k : List Key} (e : H a = some (.dT kvs)) (eb : H b = some (.tup (k.map kV))) : DGet H a (.ref b) (valV kvs k) := .inr ⟨kvs, k, b, .inl e, rfl, eb, rfl⟩
theorem DPut.k {H : Hp} {a : Addr} {kvs : List (Key × V)} {k : Key} {v : V} (e : H a = some (.dK kvs)) (hl : kvs.length < sizeLine) : DPut H a (kV k) v (upd H a (.dK (putK kvs k v))) := .inl ⟨kvs, k, e, rfl, hl, rfl⟩
theorem DPut.t {H : Hp} {a b : Addr} {kvs : List (List Key × V)} {k : List Key} {v : V} (e : H a = some (.dT kvs)) (eb : H b = some (.tup (k.map kV))) (hl : kvs.length < sizeLine) :
    DPut H a (.ref b) v (upd H a (.dT (putK kvs k v))) := .inr ⟨kvs, k, b, e, rfl, eb, hl, rfl⟩
section
variable {X : Cx} {pins : List (Addr × Obj)} {σ : St} {H : Hp} {s : Shared} {a : Addr} {y v : V} {u r : Value} {o : Option V} {A : Around} {E : Value → Shared → Prop}
end
section
variable {X : Cx} {pins : List (Addr × Obj)} {σ : St} {H : Hp} {s : Shared} {a : Addr} {kvs : List (Key × V)} {k : Key} {u : Value} {A : Around} {E : Value → Shared → Prop}
end
section
variable {X : Cx} {o i e value : Expr} {pos pos' tpos : Pos} {td ty tv : TE}
end
section
variable {X : Cx} {pos : Pos}
end
structure M1 (X : Cx) (o : Expr) (m : Str) (apos : Pos) (e : Expr) (cpos : Pos) : Prop where
  base : attributeBase o m X.env (eval o X.env) = eval o X.env
  few : ((backTo cpos (starEach [e] X.env)).all (fun x => !x.1) && (backToKw cpos (keywordEach [] X.env)).all (fun x => x.1.isSome)
    && decide (([e] : List Expr).length + ([] : List Keyword).length + (if ([] : List Keyword).isEmpty then 0 else 1) < 30)) = true
  line : (apos.endLine == cpos.line) = true
  trees : backTo cpos (starEach [e] X.env) = [(false, eval e X.env)]
structure M2 (X : Cx) (o : Expr) (m : Str) (apos : Pos) (e f : Expr) (cpos : Pos) : Prop where
  base : attributeBase o m X.env (eval o X.env) = eval o X.env
  few : ((backTo cpos (starEach [e, f] X.env)).all (fun x => !x.1) && (backToKw cpos (keywordEach [] X.env)).all (fun x => x.1.isSome)
    && decide (([e, f] : List Expr).length + ([] : List Keyword).length + (if ([] : List Keyword).isEmpty then 0 else 1) < 30)) = true
  line : (apos.endLine == cpos.line) = true
  trees : backTo cpos (starEach [e, f] X.env) = [(false, eval e X.env), (false, eval f X.env)]
def IsD (H : Hp) (a : Addr) : Prop := (∃ kvs, Rd H a (.dK kvs)) ∨ ∃ kvs, Rd H a (.dT kvs)
theorem isD_at {X : Cx} {pins : List (Addr × Obj)} {σ : St} {H : Hp} {s : Shared} {a : Addr} (I : Inv X pins σ H s) (d : IsD H a) :
    s.TypeIs (.ref a) "dict" ∧ (∀ b, Value.ref a = .ref b → ∃ ob, s.heap.get? b = some ob ∧ ob.dict = none) ∧ (a == sysModules) = false := by
  rcases d with ⟨kvs, e⟩ | ⟨kvs, e⟩
  · obtain ⟨_, hd, vs, _, dd⟩ := dk_rd I.hok e
    refine ⟨dd.typeIs, fun b q => ?_, hd⟩
    cases q
    obtain ⟨ob, _, _, h1, h2, _⟩ := dd
    exact ⟨ob, h1, h2.2.1⟩
  · obtain ⟨_, hd, xs, _, dd⟩ := dt_rd I.hok e
    refine ⟨dd.typeIs, fun b q => ?_, hd⟩
    cases q
    obtain ⟨ob, _, _, h1, h2, _⟩ := dd
    exact ⟨ob, h1, h2.2.1⟩
section
variable {X : Cx} {pins : List (Addr × Obj)} {σ : St} {H : Hp} {s : Shared} {a : Addr} {y d : V} {u r : Value} {o : Option V} {A : Around} {E : Value → Shared → Prop}
end
section
variable {X : Cx} {o e f : Expr} {apos cpos : Pos} {td ty tx : TE}
end
section
variable {X : Cx} {pins : List (Addr × Obj)} {σ : St} {H : Hp} {s : Shared} {a : Addr} {kvs : List (Key × V)} {A : Around} {E : Value → Shared → Prop}
end
section
variable {X : Cx} {pins : List (Addr × Obj)} {σ : St} {H : Hp} {s : Shared} {a : Addr} {y : V} {u : Value} {A : Around} {E : Value → Shared → Prop}
end
end L2
set_option maxRecDepth 100000
set_option maxHeartbeats 4000000
namespace L2
open PySem PySem.Spec PyProof.Rows
def rDA (K : PySem.W.Frag) (ds : List PyData) (d : PyData) : List V → Hp → VK → Prop := fun xs H Q => DVs K H xs ds ∧ ∀ v H', Same H H' → DV K H' v d → Q v H'
abbrev CD (X : Cx) (f : Value) (ds : List PyData) (d : PyData) : Prop := CallR X f (rDA X.K ds d)
section
variable {X : Cx} {G : Gam} {a b c e : Expr} {es rest : List Expr} {pos p p2 : Pos} {d da db dc : PyData} {ds : List PyData} {x : Str} {id T : String}
theorem ev_callB (hc : CD X (.builtin id) ds d) (hg : Gl X x) (hm : X.mg x = none) (hv : bootBuiltins x = some (.builtin id)) (ha : AV X G (e :: es) ds) (hn : x ≠ "__name__" := by decide) (hdb : (x == ("__debug__" : Str)) = false := by decide)
    (he : starEach (e :: es) X.env = (false, eval e X.env) :: starEach es X.env := by rfl) (hpl : (backTo pos (starEach es X.env)).any (·.1) = false := by rfl) : EV X G (.Call (.Name x p) (e :: es) [] pos) d :=
  (pe_callB hc hg hm hv ha hn hdb he hpl).imp fun σ H Q ⟨h, q⟩ => ⟨h, fun vs H1 s1 d1 => ⟨d1, fun v H2 s2 d2 => q v H2 (s1.trans s2) d2⟩⟩
theorem ev_callTy (hc : CD X (.type T) ds d) (hg : Gl X x) (hm : X.mg x = none) (hv : bootBuiltins x = some (.type T)) (ha : AV X G (e :: es) ds) (hn : x ≠ "__name__" := by decide) (hdb : (x == ("__debug__" : Str)) = false := by decide)
    (he : starEach (e :: es) X.env = (false, eval e X.env) :: starEach es X.env := by rfl) (hpl : (backTo pos (starEach es X.env)).any (·.1) = false := by rfl) : EV X G (.Call (.Name x p) (e :: es) [] pos) d :=
  (pe_callTy hc hg hm hv ha hn hdb he hpl).imp fun σ H Q ⟨h, q⟩ => ⟨h, fun vs H1 s1 d1 => ⟨d1, fun v H2 s2 d2 => q v H2 (s1.trans s2) d2⟩⟩
theorem DVs.one {K : PySem.W.Frag} {H : Hp} {vs : List V} (h : DVs K H vs [d]) : ∃ v, vs = [v] ∧ DV K H v d := by
  cases h with
  | cons h t => cases t; exact ⟨_, rfl, h⟩
theorem DVs.two {K : PySem.W.Frag} {H : Hp} {vs : List V} (h : DVs K H vs [da, db]) : ∃ v w, vs = [v, w] ∧ DV K H v da ∧ DV K H w db := by
  cases h with
  | cons h t =>
    obtain ⟨w, rfl, h2⟩ := t.one
    exact ⟨_, w, rfl, h, h2⟩
theorem cd_lenL : CD X (.builtin "len") [.list ds] (.int ds.length) := call_len_seq.imp fun xs H Q ⟨h, q⟩ => by
  obtain ⟨v, rfl, dv⟩ := h.one
  obtain ⟨l, us, rfl, hl, d1⟩ := dv.of_lst
  exact ⟨l, us, rfl, .inl hl, q _ H (Same.refl H) (by rw [d1.length]; exact .int _)⟩
theorem cd_lenT : CD X (.builtin "len") [.tuple ds] (.int ds.length) := call_len_seq.imp fun xs H Q ⟨h, q⟩ => by
  obtain ⟨v, rfl, dv⟩ := h.one
  obtain ⟨l, us, rfl, hl, d1⟩ := dv.of_tup
  exact ⟨l, us, rfl, .inr hl, q _ H (Same.refl H) (by rw [d1.length]; exact .int _)⟩
theorem cd_lenS {z : Str} (hz : z.length ≤ sizeLine) : CD X (.builtin "len") [.str z] (.int z.length) := call_len_str.imp fun xs H Q ⟨h, q⟩ => by
  obtain ⟨v, rfl, dv⟩ := h.one
  exact ⟨z, by rw [dv.of_str], hz, q _ H (Same.refl H) (.int _)⟩
theorem cd_tupleL : CD X (.type "tuple") [.list ds] (.tuple ds) := call_tuple_of.imp fun xs H Q ⟨h, q⟩ => by
  obtain ⟨v, rfl, dv⟩ := h.one
  obtain ⟨l, us, rfl, hl, d1⟩ := dv.of_lst
  exact ⟨l, us, rfl, .inl ⟨hl, fun p hp => q _ _ (Same.new hp) (.tup (SqT.of upd_same) (d1.mono (Same.new hp)))⟩⟩
theorem cd_listL : CD X (.type "list") [.list ds] (.list ds) := call_list_of.imp fun xs H Q ⟨h, q⟩ => by
  obtain ⟨v, rfl, dv⟩ := h.one
  obtain ⟨l, us, rfl, hl, d1⟩ := dv.of_lst
  exact ⟨l, us, rfl, .inl hl, fun p hp => q _ _ (Same.new hp) (.lst (SqL.of upd_same) (d1.mono (Same.new hp)))⟩
theorem cd_listT : CD X (.type "list") [.tuple ds] (.list ds) := call_list_of.imp fun xs H Q ⟨h, q⟩ => by
  obtain ⟨v, rfl, dv⟩ := h.one
  obtain ⟨l, us, rfl, hl, d1⟩ := dv.of_tup
  exact ⟨l, us, rfl, .inr hl, fun p hp => q _ _ (Same.new hp) (.lst (SqL.of upd_same) (d1.mono (Same.new hp)))⟩
theorem cd_intB {k : Bool} : CD X (.type "int") [.bool k] (.int (if k then 1 else 0)) := call_int1.imp fun xs H Q ⟨h, q⟩ => by
  obtain ⟨v, rfl, dv⟩ := h.one
  exact .inr ⟨k, by rw [dv.of_bl], q _ H (Same.refl H) (.int _)⟩
theorem cd_max {i j : Int} (hc : X.calm = true) : CD X (.builtin "max") [.int i, .int j] (.int (if j > i then j else i)) := (call_max2 hc).imp fun xs H Q ⟨h, q⟩ => by
  obtain ⟨v, w, rfl, dv, dw⟩ := h.two
  exact ⟨i, j, by rw [dv.of_int, dw.of_int], q _ H (Same.refl H) (.int _)⟩
theorem all_range_eq (bs : List Bool) : (List.range bs.length).all (fun i => bs.getD i false) = bs.all (fun z => z) := by
  rw [Bool.eq_iff_iff, List.all_eq_true, List.all_eq_true]
  constructor
  · intro h x hx
    obtain ⟨i, hi, e⟩ := List.mem_iff_getElem.mp hx
    have := h i (List.mem_range.mpr hi)
    simp only [List.getD_eq_getElem?_getD, List.getElem?_eq_getElem hi, Option.getD_some] at this
    rw [← e]
    exact this
  · intro h i hi
    have hi := List.mem_range.mp hi
    simp only [List.getD_eq_getElem?_getD, List.getElem?_eq_getElem hi, Option.getD_some]
    exact h _ (List.getElem_mem hi)
theorem cd_all (hc : X.calm = true) {bs : List Bool} : CD X (.builtin "all") [.list (bs.map PyData.bool)] (.bool (bs.all fun z => z)) := by
  intro pins s σ H xs us Q I rs ⟨h, q⟩
  obtain ⟨v, rfl, dv⟩ := h.one
  obtain ⟨l, vs, rfl, hl, d1⟩ := dv.of_lst
  obtain ⟨u, rfl, ru⟩ := vals1 rs
  cases ru
  have e1 := d1.of_bools
  subst e1
  obtain ⟨its, r, pl, hz⟩ := I.list hl
  have hlt : l < s.heap.objs.size := by
    obtain ⟨o, ho, _⟩ := pl.isList
    exact Heap.lt_size ho
  have hh : X.A.in1.handled = none := I.ok.hd hc
  have hlen : its.toArray.size = bs.length := by rw [List.size_toArray, ← r.length, List.length_map]
  refine call_all_walk (wpAny_pyIter_list pl.isList ⟨s.heap.objs.size, _, _, its.toArray.size, _, _, fun i => bs.getD i false, rfl, Walks.list hh s.heap.objs.size l (Nat.ne_of_lt hlt) its.toArray,
    ⟨⟨_, Heap.get?_push_size _ rfl, rfl, rfl⟩, let ⟨o, e, r⟩ := pl.isList; ⟨o, Heap.get?_push_of_some _ e, r⟩⟩, fun i v s2 Q2 E2 hP hQ => ?_, fun h' tk hk => ?_⟩)
  · have hP : its.toArray[i]? = some v := hP
    have hP : its[i]? = some v := by simpa using hP
    have hi : i < bs.length := by
      have := (List.getElem?_eq_some_iff.mp hP).1
      rw [← r.length, List.length_map] at this
      exact this
    have hb : (bs.map V.bl)[i]? = some (V.bl bs[i]) := by simp [hi]
    obtain ⟨u, e2, r2⟩ := r.get hb
    rw [hP] at e2
    cases e2
    cases r2
    refine wpAny_truthy_bool ?_
    have : bs.getD i false = bs[i] := by simp [List.getD_eq_getElem?_getD, hi]
    exact this ▸ hQ
  · rw [hlen, all_range_eq]
    have I1 : Inv X pins σ H { s with heap := h', toks := tk } := I.kept fun b o e => hk b o (by
      intro z
      have z : b = s.heap.objs.size := by simpa using z
      exact absurd (Heap.lt_size e) (by rw [z]; exact Nat.lt_irrefl _)) (Heap.get?_push_of_some _ e)
    exact ⟨.bl _, H, I1, rfl, q _ H (Same.refl H) (.bl _)⟩
theorem cd_sum (hc : X.calm = true) {ns : List Int} : CD X (.builtin "sum") [.list (ns.map PyData.int)] (.int ns.sum) := by
  intro pins s σ H xs us Q I rs ⟨h, q⟩
  obtain ⟨v, rfl, dv⟩ := h.one
  obtain ⟨l, vs, rfl, hl, d1⟩ := dv.of_lst
  obtain ⟨u, rfl, ru⟩ := vals1 rs
  cases ru
  have e1 := d1.of_ints
  subst e1
  obtain ⟨its, r, pl, hz⟩ := I.list hl
  have hi : IntsAre its ns := intsAre_of r
  obtain ⟨ys, ey⟩ := (hi.allInts : AllInts its.toArray).items
  have hh : X.A.handled = none := I.ok.hd hc
  have hl' : s.heap.IsList l (intItems ys) := ey ▸ pl.isList
  refine sum_intListG hh hl' fun h' tk t' hk => ?_
  have I1 : Inv X pins σ H { s with heap := h', toks := tk } := I.kept hk
  have en : ns = numsOf its := hi.numsOf.symm
  have es : preSum (numAt ys) ys.size = ns.sum := by
    rw [preSum_eq, List.take_of_length_le (by simp), en, ← nums_intItems ys]
    congr 2
    have := congrArg Array.toList ey
    simpa using this.symm
  rw [es]
  exact ⟨.int _, H, I1, ⟨_, rfl⟩, q _ H (Same.refl H) (.int _)⟩
def tyD : PyData → Value
  | .none => .type "NoneType"
  | .bool _ => .type "bool"
  | .int _ => .type "int"
  | .str _ => .type "str"
  | .list _ => .type "list"
  | .tuple _ => .type "tuple"
  | .dict es => match excC es with
    | some C => .ref C
    | none => .type "dict"
def ExcIsi (K : PySem.W.Frag) (C : Addr) : Prop := ∀ (a : Addr) (φ : Heap → Prop), (∀ h, φ h → ∃ o, h.get? a = some o ∧ o.cls = .ref C) → PySem.W.KitX K (.ref a) (.ref C) φ
theorem isinst_D {pins : List (Addr × Obj)} {σ : St} {H : Hp} {s : Shared} {A : Around} {E : Value → Shared → Prop} {Q : Value → Shared → Prop} {c : Value} {k : Bool} {v : V} {u : Value} (I : Inv X pins σ H s) (h : DV X.K H v d) (rv : RelV v u)
    (e : PySem.W.kitOne X.K (tyD d) c = some k) (hq : ∀ tk, Q (.bool k) { s with toks := tk }) (hX : ∀ C, d = excD C → ExcIsi X.K C := by intro _ z; cases z) (hX2 : ∀ C n, d = excRD C n → ExcIsi X.K C := by intro _ _ z; first | cases z | (unfold excD at z; cases z)) : wpAny (model X.prog X.w) A (call (.builtin "isinstance") [u, c]) Q E s := by
  cases h with
  | non => exact isinst_ok I rv .non e hq
  | bl b => exact isinst_ok I rv (.bl b) e hq
  | int i => exact isinst_ok I rv (.int i) e hq
  | str x => exact isinst_ok I rv (.str x) e hq
  | @tup a xs ds h t =>
    cases rv
    obtain ⟨its, _, ⟨o, h1, h2, _⟩, _⟩ := I.tuple h
    exact PySem.W.kia_one PySem.W.kitx_tuple I.kIn ⟨o, h1, h2⟩ e (fun z => nomatch z) hq
  | @lst a xs ds h t =>
    cases rv
    obtain ⟨its, _, pl, _⟩ := I.list h
    obtain ⟨o, h1, h2, _⟩ := pl.isList
    exact PySem.W.kia_one PySem.W.kitx_list I.kIn ⟨o, h1, h2⟩ e (fun z => nomatch z) hq
  | @dct a kvs es h t =>
    cases rv
    have e' : PySem.W.kitOne X.K (.type "dict") c = some k := by
      have z : tyD (.dict es) = (match excC es with | some C => Value.ref C | none => .type "dict") := rfl
      rw [z, excC_dvk t] at e
      exact e
    exact PySem.W.kia_one PySem.W.kitx_dict I.kIn (isD_at I (.inl ⟨kvs, .inl h⟩)).1 e' (fun z => nomatch z) hq
  | @exc a C h =>
    cases rv
    have e' : PySem.W.kitOne X.K (.ref C) c = some k := e
    exact PySem.W.kia_one (hX C rfl a _ fun h p => let ⟨o, _, h1, h2, _⟩ := p; ⟨o, h1, h2⟩) I.kIn (I.hok a _ h).1 e' (fun z => nomatch z) hq
  | @exr a C dx n h h' =>
    cases rv
    have e' : PySem.W.kitOne X.K (.ref C) c = some k := e
    exact PySem.W.kia_one (hX2 C n rfl a _ fun h p => let ⟨o, _, h1, h2, _⟩ := p; ⟨o, h1, h2⟩) I.kIn (I.hok a _ h).1 e' (fun z => nomatch z) hq
theorem ev_isi {k : Bool} {n : String} {x1 : Str} (ha : EV X G a da) (hg : Gl X "isinstance") (hm : X.mg "isinstance" = none) (hg1 : Gl X x1) (hm1 : X.mg x1 = none) (hv1 : bootBuiltins x1 = some (.type n)) (e : PySem.W.kitOne X.K (tyD da) (.type n) = some k)
    (hX : ∀ C, da = excD C → ExcIsi X.K C := by intro _ z; cases z) (hX2 : ∀ C n, da = excRD C n → ExcIsi X.K C := by intro _ _ z; first | cases z | (unfold excD at z; cases z)) (hn : x1 ≠ "__name__" := by decide) (hd1 : (x1 == ("__debug__" : Str)) = false := by decide) (hv : bootBuiltins "isinstance" = some (.builtin "isinstance") := by decide +kernel)
    (he : starEach [a, .Name x1 p2] X.env = (false, eval a X.env) :: starEach [.Name x1 p2] X.env := by rfl) (he2 : starEach [.Name x1 p2] X.env = (false, eval (.Name x1 p2) X.env) :: starEach [] X.env := by rfl)
    (hpl : (backTo pos (starEach [.Name x1 p2] X.env)).any (·.1) = false := by rfl) :
    EV X G (.Call (.Name "isinstance" p) [a, .Name x1 p2] [] pos) (.bool k) := by
  have cr : CallR X (.builtin "isinstance") (fun xs H Q => ∃ v, xs = [v, .ty n] ∧ DV X.K H v da ∧ Q (.bl k) H) := by
    intro pins s σ H xs us Q I rs ⟨v, ex, dv, q⟩
    subst ex
    obtain ⟨u, w, rfl, ru, rw'⟩ := vals2 rs
    cases rw'
    exact isinst_D I dv ru e (fun tk => ⟨.bl k, H, I.tok tk, rfl, q⟩) hX hX2
  refine (pe_callB cr hg hm hv (pa_cons ha (pa_cons (pe_bltn (v := .ty n) hg1 hm1 hv1 rfl hn hd1) pa_nil he2) he) (by decide) (by decide) he hpl).imp fun σ H Q ⟨h, q⟩ => ⟨h, fun v H1 s1 d1 => ⟨v, rfl, d1, q _ H1 s1 (.bl k)⟩⟩
def spD (K : PySem.W.Frag) (F : List PyData → PyData → Prop) : Sp := fun vs H Q _ => ∃ ds d, DVs K H vs ds ∧ F ds d ∧ ∀ v H', Same H H' → DV K H' v d → Q v H'
def DFn (P : Program) (w : World) (K : PySem.W.Frag) (mg : Str → Option Value) (base : Heap) (k : Nat) (x : Str) (F : List PyData → PyData → Prop) : Prop :=
  ∃ f fd ps, FnOk P w K mg base CX0 k f fd ps (spD K F) ∧ mg x = some (.ref f) ∧ PySem.W.keepIn K (.ref f) = true ∧ Binds K fd ps []
theorem ev_call {k : Nat} {F : List PyData → PyData → Prop} (D : DFn X.prog X.w X.K X.mg X.base k x F) (hr : Room k X.A) (hg : Gl X x) (ha : AV X G (e :: es) ds) (hF : F ds d) (hdb : (x == ("__debug__" : Str)) = false := by decide)
    (he : starEach (e :: es) X.env = (false, eval e X.env) :: starEach es X.env := by rfl) (hpl : (backTo pos (starEach es X.env)).any (·.1) = false := by rfl) : EV X G (.Call (.Name x p) (e :: es) [] pos) d := by
  obtain ⟨f, fd, ps, ok, hm, hk, hb⟩ := D
  refine (pe_call ok hr hg hm hk hb .nil pass0 ha hdb he hpl).imp fun σ H Q ⟨h, q⟩ => ⟨h, fun vs H1 s1 d1 => ?_⟩
  show spD X.K F (vs ++ []) H1 Q E0
  rw [List.append_nil]
  exact ⟨ds, d, d1, hF, fun v H2 s2 d2 => q v H2 (s1.trans s2) d2⟩
theorem ev_globI {i : Int} {t : Tok} (hg : Gl X x) (hm : X.mg x = some (.int i t)) (hd : (x == ("__debug__" : Str)) = false := by decide) : EV X G (.Name x pos) (.int i) :=
  (pe_glob (v := .int i) hg hm ⟨t, rfl⟩ hd).imp fun σ H Q ⟨h, q⟩ => q _ H (Same.refl H) (.int i)
theorem svs_nil : SVs X G [] (.next G) := pss_nil.imp fun D σ H ⟨h, q⟩ => q σ H (Same.refl H) h
theorem svs_cons {st : Stmt} {sts : List Stmt} {G1 : Gam} {o : Out} (h1 : SV X G st (.next G1)) (h2 : SVs X G1 sts o) : SVs X G (st :: sts) o :=
  (pss_cons h1 h2).imp fun D σ H ⟨h, q⟩ => ⟨h, fun σ' H' s' h' => ⟨h', by
    cases o with
    | next G2 => exact fun σ2 H2 s2 h2 => q σ2 H2 (s'.trans s2) h2
    | ret d => exact fun v H2 s2 h2 => q v H2 (s'.trans s2) h2⟩⟩
theorem svs_ret {st : Stmt} {sts : List Stmt} (h1 : SV X G st (.ret d)) : SVs X G (st :: sts) (.ret d) := by
  intro pins s σ H D I ⟨h, q⟩
  have z : PSs X (st :: sts) (fun D σ H => tDS X.K G (.ret d) D σ H) := by
    refine (pss_cons (t := fun D σ H => tDS X.K G (.ret d) D σ H) (u := tNever) h1 pss_never).imp fun D σ H ⟨h, q⟩ => ⟨h, q⟩
  exact z pins s σ H D I ⟨h, q⟩
theorem sv_ret (h : EV X G e d) : SV X G (.Return (some e) pos) (.ret d) := (ps_ret h).imp fun D σ H ⟨h, q⟩ => ⟨h, q⟩
theorem sv_set {i : Nat} (hN : X.N.Nodup) (hi : X.N[i]? = some x) (hx : Loc X.env.scope x) (h : EV X G e d) (hs : swapsWith e (some (.Name x p)) pos.line X.env = pure false := by rfl)
    (hf : X.fn x = true ∨ X.env.scope.names.lookup x = some .local := by first | exact .inl rfl | exact .inr rfl | assumption) : SV X G (.Assign [.Name x p] e pos) (.next (G.set i (some d))) :=
  (ps_set hN hi hx h hs hf).imp fun D σ H ⟨h, q⟩ => ⟨h, fun v H1 s1 d1 => q _ H1 s1 ((h.mono s1).set d1)⟩
theorem sv_if {k : Bool} {A B : List Stmt} {o : Out} (hc : TV X G c k) (h1 : k = true → SVs X G A o) (h2 : k = false → SVs X G B o) : SV X G (.If c A B pos) o := by
  have hA : PSs X A (fun D σ H => k = true ∧ tDS X.K G o D σ H) := fun pins s σ H D I ⟨e, q⟩ => h1 e pins s σ H D I q
  have hB : PSs X B (fun D σ H => k = false ∧ tDS X.K G o D σ H) := fun pins s σ H D I ⟨e, q⟩ => h2 e pins s σ H D I q
  refine (ps_if hc hA hB).imp fun D σ H ⟨h, q⟩ => ⟨h, fun H1 s1 => ?_⟩
  have fin : tDS X.K G o D σ H1 := ⟨h.mono s1, by
    cases o with
    | next G2 => exact fun σ2 H2 s2 h2 => q σ2 H2 (s1.trans s2) h2
    | ret d => exact fun v H2 s2 h2 => q v H2 (s1.trans s2) h2⟩
  cases k with
  | true => exact iteT ⟨rfl, fin⟩
  | false => exact iteF ⟨rfl, fin⟩
theorem svs_forget {sts : List Stmt} {G1 G2 : Gam} (h : SVs X G sts (.next G1)) (hl : G2.length = G1.length) (hw : ∀ (i : Nat) d, G2[i]? = some (some d) → G1[i]? = some (some d)) : SVs X G sts (.next G2) :=
  h.imp fun D σ H ⟨h, q⟩ => ⟨h, fun σ' H' s' h' => q σ' H' s' (h'.forget hl hw)⟩
structure ItD (K : PySem.W.Frag) (J : It) (ds : List PyData) (H0 : Hp) : Prop where
  go : ∀ i H, Same H0 H → i < ds.length → J.go i H
  yld : ∀ i H v H', Same H0 H → i < ds.length → J.yld i H v H' → Same H H' ∧ ∃ d, ds[i]? = some d ∧ DV K H' v d
  stop : ∀ i H, Same H0 H → ds.length ≤ i → J.stop i H
def tDI (K : PySem.W.Frag) (G : Gam) (ds : List PyData) : TI := fun σ H R => SD K H σ G ∧ ∀ J H', Same H H' → ItD K J ds H' → R J H'
abbrev IV (X : Cx) (G : Gam) (tg iter : Expr) (ds : List PyData) : Prop := PI X tg iter (tDI X.K G ds)
theorem PI.imp {tg : Expr} {t t' : TI} (h : PI X tg e t) (m : ∀ σ H R, t' σ H R → t σ H R) : PI X tg e t' := fun pins s σ H R I q => h pins s σ H R I (m σ H R q)
theorem iv_tup {tg : Expr} (h : EV X G e (.tuple ds)) : IV X G tg e ds := (pi_tup h).imp fun σ H R ⟨h, q⟩ => ⟨h, fun v H1 s1 d1 => by
  obtain ⟨l, us, rfl, hl, d2⟩ := d1.of_tup
  refine ⟨l, rfl, ⟨us, hl⟩, q _ H1 s1 ⟨fun i H2 s2 hi => ?_, fun i H2 v H3 s2 _ ⟨e, y⟩ => ?_, fun i H2 s2 hi => ⟨us, s2.seqT hl, by rw [d2.length]; exact hi⟩⟩⟩
  · obtain ⟨v, e, _⟩ := d2.get (i := i) (d := ds[i]) (by simp [hi])
    exact ⟨us, v, s2.seqT hl, e⟩
  · subst e
    obtain ⟨d, e1, e2⟩ := d2.get' (y us (s2.seqT hl))
    exact ⟨Same.refl _, d, e1, e2.mono s2⟩⟩
abbrev rangeD (lo : Int) (n : Nat) : List PyData := (List.range n).map fun (i : Nat) => PyData.int (lo + (i : Int))
theorem rangeD_len {lo : Int} {n : Nat} : (rangeD lo n).length = n := by simp [rangeD]
theorem rangeD_get {lo : Int} {n i : Nat} (h : i < n) : (rangeD lo n)[i]? = some (.int (lo + (i : Int))) := by simp [rangeD, h]
theorem itd_range {K : PySem.W.Frag} {lo : Int} {n : Nat} {H : Hp} : ItD K (Itr lo n) (rangeD lo n) H where
  go := fun i H s h => by rw [rangeD_len] at h; exact h
  yld := fun i H v H' s h ⟨e, y⟩ => by
    rw [rangeD_len] at h
    subst e y
    exact ⟨Same.refl _, _, rangeD_get h, .int _⟩
  stop := fun i H s h => by rw [rangeD_len] at h; exact h
theorem iv_range1 {tg : Expr} {n : Int} (ha : EV X G a (.int n)) (h1 : -(2 ^ 62) ≤ n) (h2 : n < 2 ^ 62) (hg : Gl X "range") (hm : X.mg "range" = none) (hs : starEach [a] X.env = [(false, eval a X.env)] := by rfl) :
    IV X G tg (.Call (.Name "range" p) [a] [] pos) (rangeD 0 n.toNat) :=
  (pi_range1 hg hm (av_cons ha av_nil hs) hs).imp fun σ H R ⟨h, q⟩ => ⟨h, fun vs H1 s1 d1 => by
    obtain ⟨v, rfl, dv⟩ := d1.one
    exact ⟨n, by rw [dv.of_int], h1, h2, q _ H1 s1 itd_range⟩⟩
theorem iv_range2 {tg : Expr} {m n : Int} (ha : EV X G a (.int m)) (hb : EV X G b (.int n)) (h0 : -(2 ^ 62) ≤ m ∧ m < 2 ^ 62 ∧ -(2 ^ 62) ≤ n ∧ n < 2 ^ 62) (hg : Gl X "range") (hm : X.mg "range" = none)
    (hs : starEach [a, b] X.env = [(false, eval a X.env), (false, eval b X.env)] := by rfl) (hs2 : starEach [b] X.env = [(false, eval b X.env)] := by rfl) :
    IV X G tg (.Call (.Name "range" p) [a, b] [] pos) (rangeD m (n - m).toNat) :=
  (pi_range2 hg hm (av_cons ha (av_cons hb av_nil hs2) (by rw [hs, hs2])) hs hs2).imp fun σ H R ⟨h, q⟩ => ⟨h, fun vs H1 s1 d1 => by
    obtain ⟨v, w, rfl, dv, dw⟩ := d1.two
    exact ⟨m, n, by rw [dv.of_int, dw.of_int], h0, q _ H1 s1 itd_range⟩⟩
end
end L2
set_option maxRecDepth 100000
set_option maxHeartbeats 4000000
namespace L2
open PySem PySem.Spec PyProof.Rows
def outG (ix : List Nat) (G : Gam) : Gam := ix.map fun i => (G[i]?).getD none
theorem SD.comp {K : PySem.W.Frag} {H : Hp} {σ : St} {G : Gam} (h : SD K H σ G) (k : Nat) (ix : List Nat) : SD K H (List.replicate k none ++ outS ix σ) (List.replicate k none ++ outG ix G) := by
  refine ⟨by simp [outS, outG], fun i d e => ?_⟩
  rcases Nat.lt_or_ge i k with hi | hi
  · rw [List.getElem?_append_left (by simpa using hi), List.getElem?_replicate, if_pos hi] at e
    cases e
  · rw [List.getElem?_append_right (by simpa using hi), List.length_replicate] at e ⊢
    unfold outG at e
    unfold outS
    rw [List.getElem?_map] at e ⊢
    cases q : ix[i - k]? with
    | none => rw [q] at e; cases e
    | some j =>
      rw [q] at e
      have e : (G[j]?).getD none = some d := Option.some.inj e
      have e' : G[j]? = some (some d) := by
        cases z : G[j]? with
        | none => rw [z] at e; cases e
        | some w => rw [z] at e; have e : w = some d := e; rw [e]
      obtain ⟨v, a, b⟩ := h.2 j d e'
      exact ⟨v, by rw [Option.map_some, a]; rfl, b⟩
section
variable {X : Cx} {G : Gam} {elt target iter : Expr} {ifs : List Expr} {scope : Scope} {pos : Pos} {N : List Str} {ix : List Nat} {ds : List PyData}
theorem PE.ex {ι : Type} {e : Expr} {t : ι → TE} {p : ι → Prop} (h : ∀ i, p i → PE X e (t i)) : PE X e (fun σ H Q => ∃ i, p i ∧ t i σ H Q) := fun pins s σ H Q I ⟨i, hi, q⟩ => h i hi pins s σ H Q I q
theorem PF.ex {ι : Type} {es : List Expr} {t : ι → TT} {p : ι → Prop} (h : ∀ i, p i → PF X es (t i)) : PF X es (fun σ H Q => ∃ i, p i ∧ t i σ H Q) := fun pins s σ H Q I ⟨i, hi, q⟩ => h i hi pins s σ H Q I q
theorem pf_D0 : PF X [] (tDT X.K G true) := fun pins s σ H Q I ⟨h, q⟩ => pf_nil pins s σ H Q I (q H (Same.refl H))
structure BindD (K : PySem.W.Frag) (k : Nat) (g : TG) (B : PyData → Gam → Gam) (d : PyData) : Prop where
  to : ∀ (v : V) σ H G (Q : St → Hp → Prop), SD K H σ G → DV K H v d → (∀ σ2, SD K H σ2 (B d G) → Q σ2 H) → g v σ H Q
def bind1 (d : PyData) (G : Gam) : Gam := G.set 0 (some d)
def bind2 (d : PyData) (G : Gam) : Gam := match d with
  | .tuple [a, b] => (G.set 0 (some a)).set 1 (some b)
  | _ => G
theorem bindD1 {K : PySem.W.Frag} (d : PyData) : BindD K 1 (gName 0) bind1 d := ⟨fun v σ H G Q h dv q => q _ (h.set dv)⟩
theorem bindD2 {K : PySem.W.Frag} (a b : PyData) : BindD K 2 (gTup K 2 (gCons (gName 0) (gCons (gName 1) gNil))) bind2 (.tuple [a, b]) := ⟨fun v σ H G Q h dv q => by
  obtain ⟨l, us, rfl, hl, d1⟩ := dv.of_tup
  obtain ⟨x, y, rfl, dx, dy⟩ := d1.two
  exact ⟨l, [x, y], rfl, hl, rfl, x, [y], rfl, y, [], rfl, rfl, q _ ((h.set dx).set dy)⟩⟩
theorem compW_D {α : Type} {as : List α} {D : α → PyData} {k : Nat} {g : TG} {B : PyData → Gam → Gam} {σ : St} {J : It} {H1 : Hp} {Q : List V → Hp → Prop} (K : PySem.W.Frag) (Pd : α → Bool) (F : α → PyData) (hz : as.length ≤ sizeLine) (og : OwnG k g)
    (hb : ∀ a ∈ as, BindD K k g B (D a)) (hσ : SD K H1 σ G) (hJ : ItD K J (as.map D) H1) (q : ∀ ys H', Same H1 H' → DVs K H' ys ((as.filter Pd).map F) → Q ys H') :
    CompW k ix g (fun σ H Q => ∃ a, a ∈ as ∧ tDT K (B (D a) (List.replicate k none ++ outG ix G)) (Pd a) σ H Q) (fun σ H Q => ∃ a, (a ∈ as ∧ Pd a = true) ∧ tD K (B (D a) (List.replicate k none ++ outG ix G)) (F a) σ H Q) σ J H1 Q := by
  refine ⟨fun i m ys H => i ≤ as.length ∧ m = as.length - i ∧ Same H1 H ∧ DVs K H ys (((as.take i).filter Pd).map F), ⟨_, Nat.zero_le _, rfl, Same.refl _, .nil⟩, ?_⟩
  rintro i m ys H ⟨hi, rfl, sm, dy⟩
  have hyl : ys.length ≤ as.length := by
    rw [dy.length, List.length_map]
    refine Nat.le_trans (List.length_filter_le _ _) ?_
    rw [List.length_take]
    omega
  refine ⟨Nat.le_trans hyl hz, ?_⟩
  by_cases hlt : i < as.length
  · refine .inr ⟨hJ.go i H sm (by rw [List.length_map]; exact hlt), fun v H' y => ?_⟩
    obtain ⟨s2, d, ed, dv⟩ := hJ.yld i H v H' sm (by rw [List.length_map]; exact hlt) y
    have ea : as[i]? = some as[i] := List.getElem?_eq_getElem hlt
    have ed' : d = D as[i] := by
      rw [List.getElem?_map, ea] at ed
      exact (Option.some.inj ed).symm
    subst ed'
    have hd : as[i] ∈ as := List.getElem_mem hlt
    have tk : (as.take (i + 1)).filter Pd = (as.take i).filter Pd ++ (if Pd as[i] then [as[i]] else []) := take_succ_filter Pd as i as[i] ea
    refine (hb _ hd).to v _ H' _ _ (((hσ.mono sm).mono s2).comp k ix) dv fun σ2 h2 => ⟨as[i], hd, h2, fun H3 s3 => ?_⟩
    cases hp : Pd as[i] with
    | true =>
      refine iteT ⟨as[i], ⟨hd, hp⟩, h2.mono s3, fun w H4 s4 dw => ⟨as.length - (i + 1), by omega, hlt, rfl, ((sm.trans s2).trans s3).trans s4, ?_⟩⟩
      rw [tk, hp, if_pos rfl, List.map_append]
      exact (((dy.mono s2).mono s3).mono s4).append (.cons dw .nil)
    | false =>
      refine iteF ⟨as.length - (i + 1), by omega, hlt, rfl, (sm.trans s2).trans s3, ?_⟩
      rw [tk, hp, if_neg Bool.false_ne_true, List.append_nil]
      exact (dy.mono s2).mono s3
  · have e : i = as.length := by omega
    subst e
    rw [List.take_length] at dy
    exact .inl ⟨hJ.stop _ H sm (by rw [List.length_map]; exact Nat.le_refl _), q ys H sm dy⟩
theorem ev_comp {α : Type} {as : List α} {D : α → PyData} {k : Nat} {g : TG} {B : PyData → Gam → Gam} (Pd : α → Bool) (F : α → PyData) (hcalm : X.calm = true) (hc : CompOk X.env.scope X.N k ix N scope) (og : OwnG k g) (hi : IV X G target iter (as.map D)) (hz : as.length ≤ sizeLine)
    (hb : ∀ a ∈ as, BindD X.K k g B (D a)) (hg : ∀ cl C s H fp, PG (cxComp X scope cl C N s H fp) target g)
    (ht : ∀ a ∈ as, ∀ cl C s H fp, PF (cxComp X scope cl C N s H fp) ifs (tDT X.K (B (D a) (List.replicate k none ++ outG ix G)) (Pd a)))
    (he : ∀ a ∈ as, Pd a = true → ∀ cl C s H fp, EV (cxComp X scope cl C N s H fp) (B (D a) (List.replicate k none ++ outG ix G)) elt (F a))
    (hs : ∀ x, foldedSetIterable iter X.env x = pure x := by intro _; rfl) : EV X G (.ListComp elt [⟨target, iter, ifs, 0⟩] scope pos) (.list ((as.filter Pd).map F)) := by
  refine (pe_comp hcalm hc og hi (fun cl C s H fp => ⟨hg cl C s H fp, PF.ex (t := fun a => tDT X.K (B (D a) (List.replicate k none ++ outG ix G)) (Pd a)) (p := fun a => a ∈ as) fun d hd => ht d hd cl C s H fp, PE.ex (t := fun a => tD X.K (B (D a) (List.replicate k none ++ outG ix G)) (F a)) (p := fun a => a ∈ as ∧ Pd a = true) fun d hd => he d hd.1 hd.2 cl C s H fp⟩) hs).imp fun σ H Q ⟨h, q⟩ => ⟨h, fun J H1 s1 hJ => ?_⟩
  refine compW_D X.K Pd F hz og hb (h.mono s1) hJ fun ys H2 s2 dy D hD => ?_
  exact q _ _ ((s1.trans s2).trans (Same.new hD)) (.lst (SqL.of upd_same) (dy.mono (Same.new hD)))
theorem sv_setComp {α : Type} {as : List α} {D : α → PyData} {k i : Nat} {x : Str} {pos' spos : Pos} {g : TG} {B : PyData → Gam → Gam} (Pd : α → Bool) (F : α → PyData) (hcalm : X.calm = true) (hN : X.N.Nodup) (hx0 : X.N[i]? = some x) (hx : X.env.scope.names.lookup x = some .local)
    (hc : CompOk X.env.scope X.N k ix N scope) (og : OwnG k g) (hi : IV X G target iter (as.map D)) (hz : as.length ≤ sizeLine)
    (hb : ∀ a ∈ as, BindD X.K k g B (D a)) (hg : ∀ cl C s H fp, PG (cxComp X scope cl C N s H fp) target g)
    (ht : ∀ a ∈ as, ∀ cl C s H fp, PF (cxComp X scope cl C N s H fp) ifs (tDT X.K (B (D a) (List.replicate k none ++ outG ix G)) (Pd a)))
    (he : ∀ a ∈ as, Pd a = true → ∀ cl C s H fp, EV (cxComp X scope cl C N s H fp) (B (D a) (List.replicate k none ++ outG ix G)) elt (F a))
    (hsw : swapsWith (.ListComp elt [⟨target, iter, ifs, 0⟩] scope pos) (some (.Name x pos')) spos.line X.env = pure true := by rfl)
    (hs : ∀ x, foldedSetIterable iter X.env x = pure x := by intro _; rfl) : SV X G (.Assign [.Name x pos'] (.ListComp elt [⟨target, iter, ifs, 0⟩] scope pos) spos) (.next (G.set i (some (.list ((as.filter Pd).map F))))) := by
  refine (ps_setComp hcalm hN hx0 hx hc og hi (fun cl C s H fp => ⟨hg cl C s H fp, PF.ex (t := fun a => tDT X.K (B (D a) (List.replicate k none ++ outG ix G)) (Pd a)) (p := fun a => a ∈ as) fun d hd => ht d hd cl C s H fp, PE.ex (t := fun a => tD X.K (B (D a) (List.replicate k none ++ outG ix G)) (F a)) (p := fun a => a ∈ as ∧ Pd a = true) fun d hd => he d hd.1 hd.2 cl C s H fp⟩) hsw hs).imp fun Dn σ H ⟨h, q⟩ => ⟨h, fun J H1 s1 hJ => ?_⟩
  refine compW_D X.K Pd F hz og hb (h.mono s1) hJ fun ys H2 s2 dy D hD => ?_
  have s3 := (s1.trans s2).trans (Same.new (o := .lst ys) hD)
  exact q _ _ s3 ((h.mono s3).set (.lst (SqL.of upd_same) (dy.mono (Same.new hD))))
theorem sv_for {α : Type} {as : List α} {D : α → PyData} {tg : Expr} {body : List Stmt} {k : Nat} {g : TG} {B : PyData → Gam → Gam} (J : Nat → Gam) (hp : PassesOwn (model X.prog X.w) X.A X.env X.xe) (hcalm : X.calm = true) (hi : IV X (J 0) tg iter (as.map D)) (hg : PG X tg g) (hb : ∀ a ∈ as, BindD X.K k g B (D a))
    (hs : ∀ (i : Nat) a, as[i]? = some a → SVs X (B (D a) (J i)) body (.next (J (i + 1)))) (hfs : ∀ x, foldedSetIterable iter X.env x = pure x := by intro _; rfl) : SV X (J 0) (.For tg iter body [] pos) (.next (J as.length)) := by
  have hbody : PSs X body (fun Dn σ H => ∃ p : Nat × α, as[p.1]? = some p.2 ∧ tDS X.K (B (D p.2) (J p.1)) (.next (J (p.1 + 1))) Dn σ H) := fun pins s σ H Dn I ⟨p, hp, q⟩ => hs p.1 p.2 hp pins s σ H Dn I q
  refine (ps_for hp hcalm hi hg hbody hfs).imp fun Dn σ H ⟨h, q⟩ => ⟨h, fun It0 H1 s1 hJ => ?_⟩
  refine ⟨fun i m σ H => i ≤ as.length ∧ m = as.length - i ∧ Same H1 H ∧ SD X.K H σ (J i), ⟨_, Nat.zero_le _, rfl, Same.refl _, h.mono s1⟩, ?_⟩
  rintro i m σ H ⟨hi, rfl, sm, hσ⟩
  by_cases hlt : i < as.length
  · refine .inr ⟨hJ.go i H sm (by rw [List.length_map]; exact hlt), fun σ' H' => Same H1 H' ∧ SD X.K H' σ' (J (i + 1)), fun σ' H' ⟨a, b⟩ => ⟨as.length - (i + 1), by omega, hlt, rfl, a, b⟩, fun v H' y => ?_⟩
    obtain ⟨s2, d, ed, dv⟩ := hJ.yld i H v H' sm (by rw [List.length_map]; exact hlt) y
    have ea : as[i]? = some as[i] := List.getElem?_eq_getElem hlt
    have ed' : d = D as[i] := by
      rw [List.getElem?_map, ea] at ed
      exact (Option.some.inj ed).symm
    subst ed'
    refine (hb _ (List.getElem_mem hlt)).to v _ H' _ _ (hσ.mono s2) dv fun σ2 h2 => ⟨(i, as[i]), ea, h2, fun σ3 H3 s3 h3 => ⟨(sm.trans s2).trans s3, h3⟩⟩
  · have e : i = as.length := by omega
    subst e
    exact .inl ⟨hJ.stop _ H sm (by rw [List.length_map]; exact Nat.le_refl _), q σ H (s1.trans sm) hσ⟩
def bindAt (i : Nat) (d : PyData) (G : Gam) : Gam := G.set i (some d)
theorem bindDAt {K : PySem.W.Frag} {k : Nat} (i : Nat) (d : PyData) : BindD K k (gName i) (bindAt i) d := ⟨fun v σ H G Q h dv q => q _ (h.set dv)⟩
end
def startG (N : List Str) (ds : List PyData) : Gam := ds.map some ++ List.replicate (N.length - ds.length) none
theorem SD.start {K : PySem.W.Frag} {H : Hp} {N : List Str} {vs : List V} {ds : List PyData} (h : DVs K H vs ds) : SD K H (start N vs) (startG N ds) := by
  refine ⟨by simp [L2.start, startG, h.length], fun i d e => ?_⟩
  unfold startG at e
  unfold L2.start
  rcases Nat.lt_or_ge i ds.length with hi | hi
  · rw [List.getElem?_append_left (by simpa using hi), List.getElem?_map] at e
    rw [List.getElem?_append_left (by simpa [h.length] using hi), List.getElem?_map]
    cases q : ds[i]? with
    | none => rw [q] at e; cases e
    | some d' =>
      rw [q] at e
      have e : d' = d := by
        have := Option.some.inj e
        exact Option.some.inj this
      subst e
      obtain ⟨v, a, b⟩ := h.get q
      exact ⟨v, by rw [a]; rfl, b⟩
  · rw [List.getElem?_append_right (by simpa using hi), List.getElem?_replicate] at e
    split at e <;> cases e
section
variable {P : Program} {w : World} {K : PySem.W.Frag} {mg : Str → Option Value} {base : Heap}
theorem Fun.data {x qual : Str} {st : Stmt} {f : Addr} {fd : FuncData} {N ps : List Str} {k : Nat} {F : List PyData → PyData → Prop} (F0 : Fun K x qual st f fd) (hm : mg x = some (.ref f)) (hb : Binds K fd ps []) (S : FnScope N ps (defScope st)) (len : ∀ ds d, F ds d → ds.length = ps.length)
    (hbody : ∀ (cdv : Value) (A : Around) (outer : List Env) (s : Shared) (H : Hp) (E : XK) (ds : List PyData) (d : PyData), Room k (A.deeper (envOfC qual (defScope st) s.heap.objs.size f cdv)) → F ds d →
      SVs (cxOf CX0 P w K mg base N qual (defScope st) f cdv A outer s H E).nox (startG N ds) (defBody st) (.ret d)) : DFn P w K mg base (k + 1) x F := by
  refine ⟨f, fd, ps, F0.ok S (fun vs H Q E ⟨ds, d, h1, h2, _⟩ => h1.length.trans (len ds d h2)) (fun cdv A outer s H vs Q E hr ⟨ds, d, h1, h2, q⟩ => ⟨_, hbody cdv A outer s H E ds d hr h2, SD.start h1, q⟩), hm, F0.kp, hb⟩
end
theorem DFn.mono {P : Program} {w : World} {K : PySem.W.Frag} {mg : Str → Option Value} {base : Heap} {j k : Nat} {x : Str} {F : List PyData → PyData → Prop} (D : DFn P w K mg base j x F) (h : j ≤ k) : DFn P w K mg base k x F := by
  obtain ⟨f, fd, ps, ok, r⟩ := D
  exact ⟨f, fd, ps, ok.mono h, r⟩
end L2
set_option maxRecDepth 100000
set_option maxHeartbeats 4000000
namespace L2
open PySem PySem.Spec PyProof.Rows
mutual
def noL : PyData → Bool
  | .none => true
  | .bool _ => true
  | .int _ => true
  | .str _ => true
  | .tuple xs => noLs xs
  | .list _ => false
  | .dict _ => false
def noLs : List PyData → Bool
  | [] => true
  | x :: r => noL x && noLs r
end
def dele (H : Hp) (p : Addr) : Hp := fun b => if b = p then none else H b
theorem dele_same {H : Hp} {p : Addr} : dele H p p = none := by unfold dele; rw [if_pos rfl]
theorem dele_ne {H : Hp} {p b : Addr} (h : b ≠ p) : dele H p b = H b := by unfold dele; rw [if_neg h]
theorem upd_dele {H : Hp} {p : Addr} {o : HO} (h : H p = some o) : upd (dele H p) p o = H := by
  funext b
  by_cases hb : b = p
  · subst hb; rw [upd_same, h]
  · rw [upd_ne hb, dele_ne hb]
mutual
theorem DV.dele {K : PySem.W.Frag} {H : Hp} {p : Addr} {ws : List V} (hp : H p = some (.lst ws)) : ∀ {v : V} {d : PyData}, DV K H v d → noL d = true → DV K (L2.dele H p) v d
  | _, _, .non, _ => .non
  | _, _, .bl b, _ => .bl b
  | _, _, .int i, _ => .int i
  | _, _, .str x, _ => .str x
  | _, _, .tup (a := a) h t, f => by
    refine .tup ?_ (DVs.dele hp t (by unfold noL at f; exact f))
    rcases h with (h | ⟨o, h⟩) | h
    · have : a ≠ p := fun z => by subst z; rw [hp] at h; cases h
      exact .inl (.inl (by rw [dele_ne this]; exact h))
    · have : a ≠ p := fun z => by subst z; rw [hp] at h; cases h
      exact .inl (.inr ⟨o, by rw [dele_ne this]; exact h⟩)
    · exact .inr h
  | _, _, .lst h t, f => by unfold noL at f; cases f
  | _, _, .dct h t, f => by unfold noL at f; cases f
  | _, _, .exc h, f => by unfold noL at f; cases f
  | _, _, .exr h h', f => by unfold noL at f; cases f
theorem DVs.dele {K : PySem.W.Frag} {H : Hp} {p : Addr} {ws : List V} (hp : H p = some (.lst ws)) : ∀ {vs : List V} {ds : List PyData}, DVs K H vs ds → noLs ds = true → DVs K (L2.dele H p) vs ds
  | _, _, .nil, _ => .nil
  | _, _, .cons h t, f => by
    unfold noLs at f
    rw [Bool.and_eq_true] at f
    exact .cons (DV.dele hp h f.1) (DVs.dele hp t f.2)
end
def OSt (K : PySem.W.Frag) (H0 : Hp) (p : Addr) (i : Nat) (G : Gam) (ds : List PyData) (σ : St) (H : Hp) : Prop :=
  ∃ Hb vs, H = upd Hb p (.lst vs) ∧ Hb p = none ∧ Same H0 Hb ∧ SD K Hb σ G ∧ σ[i]? = some (some (.ref p)) ∧ DVs K Hb vs ds
abbrev plusL (G : Gam) (i : Nat) (ds : List PyData) : Gam := G.set i (some (.list ds))
theorem OSt.sd {K : PySem.W.Frag} {H0 : Hp} {p : Addr} {i : Nat} {G : Gam} {ds : List PyData} {σ : St} {H : Hp} (h : OSt K H0 p i G ds σ H) : SD K H σ (plusL G i ds) := by
  obtain ⟨Hb, vs, rfl, hn, _, hσ, hi, dv⟩ := h
  have h1 := hσ.mono (Same.new (o := .lst vs) hn)
  have h2 := h1.set (i := i) (v := .ref p) (d := .list ds) (.lst (SqL.of upd_same) (dv.mono (Same.new hn)))
  have e : σ.set i (some (V.ref p)) = σ := by
    refine List.ext_getElem? fun j => ?_
    by_cases hj : i = j
    · subst hj
      rw [List.getElem?_set_self (List.getElem?_eq_some_iff.mp hi).1, hi]
    · rw [List.getElem?_set_ne hj]
  rw [e] at h2
  exact h2
theorem OSt.step {K : PySem.W.Frag} {H0 : Hp} {p : Addr} {i : Nat} {G : Gam} {ds : List PyData} {σ : St} {H H' : Hp} (h : OSt K H0 p i G ds σ H) (s : Same H H') :
    OSt K H0 p i G ds σ H' ∧ ∀ v d, DV K H' v d → noL d = true → ∃ Hb vs, H' = upd Hb p (.lst vs) ∧ Hb p = none ∧ Same H0 Hb ∧ SD K Hb σ G ∧ σ[i]? = some (some (.ref p)) ∧ DVs K Hb vs ds ∧ DV K Hb v d := by
  obtain ⟨Hb, vs, rfl, hn, s0, hσ, hi, dv⟩ := h
  have hp : H' p = some (.lst vs) := s p _ upd_same
  have sb : Same Hb (dele H' p) := fun b o e => by
    have hb : b ≠ p := ne_of_none e hn
    rw [dele_ne hb]
    exact s b o (by rw [upd_ne hb]; exact e)
  refine ⟨⟨dele H' p, vs, (upd_dele hp).symm, dele_same, s0.trans sb, hσ.mono sb, hi, dv.mono sb⟩, fun v d q f => ⟨dele H' p, vs, (upd_dele hp).symm, dele_same, s0.trans sb, hσ.mono sb, hi, dv.mono sb, DV.dele hp q f⟩⟩
def tH (K : PySem.W.Frag) (H0 : Hp) (p : Addr) (i : Nat) (Pre Post : Gam → List PyData → Prop) : TS := fun D σ H => (∃ G ds, Pre G ds ∧ OSt K H0 p i G ds σ H) ∧ ∀ σ' H' G ds, Post G ds → OSt K H0 p i G ds σ' H' → D.nx σ' H'
abbrev HT1 (X : Cx) (H0 : Hp) (p : Addr) (i : Nat) (Pre : Gam → List PyData → Prop) (st : Stmt) (Post : Gam → List PyData → Prop) : Prop := PS X st (tH X.K H0 p i Pre Post)
abbrev HTs (X : Cx) (H0 : Hp) (p : Addr) (i : Nat) (Pre : Gam → List PyData → Prop) (sts : List Stmt) (Post : Gam → List PyData → Prop) : Prop := PSs X sts (tH X.K H0 p i Pre Post)
section
variable {X : Cx} {H0 : Hp} {p : Addr} {i j : Nat} {Pre Mid Post PreA PreB : Gam → List PyData → Prop} {e c : Expr} {pos pos' pos2 : Pos} {x : Str}
theorem hts_nil (h : ∀ G ds, Pre G ds → Post G ds) : HTs X H0 p i Pre [] Post := pss_nil.imp fun D σ H ⟨⟨G, ds, a, b⟩, q⟩ => q σ H G ds (h G ds a) b
theorem hts_cons {st : Stmt} {sts : List Stmt} (h1 : HT1 X H0 p i Pre st Mid) (h2 : HTs X H0 p i Mid sts Post) : HTs X H0 p i Pre (st :: sts) Post :=
  (pss_cons h1 h2).imp fun D σ H ⟨a, q⟩ => ⟨a, fun σ' H' G ds m o => ⟨⟨G, ds, m, o⟩, q⟩⟩
theorem ht_set (hN : X.N.Nodup) (hi : X.N[j]? = some x) (hij : j ≠ i) (hx : Loc X.env.scope x) (h : ∀ G ds, Pre G ds → ∃ d, EV X (plusL G i ds) e d ∧ noL d = true ∧ Post (G.set j (some d)) ds) (hs : swapsWith e (some (.Name x pos')) pos.line X.env = pure false := by rfl)
    (hf : X.fn x = true ∨ X.env.scope.names.lookup x = some .local := by first | exact .inl rfl | exact .inr rfl | assumption) : HT1 X H0 p i Pre (.Assign [.Name x pos'] e pos) Post := by
  intro pins s σ H D I ⟨⟨G, ds, a, o⟩, q⟩
  obtain ⟨d, ev, nl, po⟩ := h G ds a
  refine ps_set hN hi hx ev hs hf pins s σ H D I ⟨o.sd, fun v H1 s1 d1 => ?_⟩
  obtain ⟨_, k⟩ := o.step s1
  obtain ⟨Hb, vs, e1, e2, e3, e4, e5, e6, e7⟩ := k v d d1 nl
  exact q _ _ _ ds po ⟨Hb, vs, e1, e2, e3, e4.set e7, by rw [List.getElem?_set_ne hij]; exact e5, e6⟩
theorem ht_append (h : ∀ G ds, Pre G ds → ∃ d, EV X (plusL G i ds) e d ∧ noL d = true ∧ ds.length < sizeLine ∧ Post G (ds ++ [d])) (hv : PE X (.Name x pos2) (tVar i))
    (hs0 : starEach [e] X.env = (false, eval e X.env) :: starEach [] X.env := by rfl)
    (hb : attributeBase (.Name x pos2) "append" X.env (eval (.Name x pos2) X.env) = eval (.Name x pos2) X.env := by rfl)
    (hfew : ((backTo pos' (starEach [e] X.env)).all (fun x => !x.1) && (backToKw pos' (keywordEach [] X.env)).all (fun x => x.1.isSome)
      && decide ([e].length + ([] : List Keyword).length + (if ([] : List Keyword).isEmpty then 0 else 1) < 30)) = true := by rfl)
    {apos : Pos} (hline : (apos.endLine == pos'.line) = true := by rfl) (hpl : (backTo pos' (starEach [] X.env)).any (·.1) = false := by rfl)
    (hsw : swapsWith (.Call (.Attribute (.Name x pos2) "append" apos) [e] [] pos') none pos.line X.env = pure false := by rfl) :
    HT1 X H0 p i Pre (.Expr (.Call (.Attribute (.Name x pos2) "append" apos) [e] [] pos') pos) Post := by
  intro pins s σ H D I ⟨⟨G, ds, a, o⟩, q⟩
  obtain ⟨d, ev, nl, hz, po⟩ := h G ds a
  refine ps_expr (pe_bm PySem.F.plainAttrs_list PySem.F.slot_list_append PySem.F.type_list_append mt_append hv (av_cons ev av_nil hs0) hb hfew hline hs0 hpl) hsw pins s σ H D I ?_
  obtain ⟨Hb, vs, rfl, hn, s0, hσ, hi, dv⟩ := id o
  refine ⟨_, hi, .inl ⟨rfl, vs, SqL.of upd_same⟩, o.sd, fun ws H1 s1 d1 => ?_⟩
  obtain ⟨v, rfl, d2⟩ := d1.one
  obtain ⟨_, k⟩ := o.step s1
  obtain ⟨Hb', vs', e1, e2, e3, e4, e5, e6, e7⟩ := k v d d2 nl
  subst e1
  have hup : upd (upd Hb' p (.lst vs')) p (.lst (vs' ++ [v])) = upd Hb' p (.lst (vs' ++ [v])) := upd_upd
  refine ⟨p, vs', v, rfl, rfl, upd_same, by rw [e6.length]; exact hz, ?_⟩
  rw [hup]
  exact q _ _ G _ po ⟨Hb', vs' ++ [v], rfl, e2, e3, e4, e5, e6.append (.cons e7 .nil)⟩
theorem pi_r1 {a : Expr} {G : Gam} {tg : Expr} {n : Int} (ha : EV X G a (.int n)) (h1 : -(2 ^ 62) ≤ n) (h2 : n < 2 ^ 62) (hg : Gl X "range") (hm : X.mg "range" = none) (hs : starEach [a] X.env = [(false, eval a X.env)] := by rfl) :
    PI X tg (.Call (.Name "range" pos') [a] [] pos) (fun σ H R => SD X.K H σ G ∧ ∀ H', Same H H' → R (Itr 0 n.toNat) H') :=
  (pi_range1 hg hm (av_cons ha av_nil hs) hs).imp fun σ H R ⟨h, q⟩ => ⟨h, fun vs H1 s1 d1 => by
    obtain ⟨v, rfl, dv⟩ := d1.one
    exact ⟨n, by rw [dv.of_int], h1, h2, q H1 s1⟩⟩
theorem ht_if {A B : List Stmt} (h : ∀ G ds, Pre G ds → (TV X (plusL G i ds) c true ∧ PreA G ds) ∨ (TV X (plusL G i ds) c false ∧ PreB G ds)) (h1 : HTs X H0 p i PreA A Post) (h2 : HTs X H0 p i PreB B Post) : HT1 X H0 p i Pre (.If c A B pos) Post := by
  intro pins s σ H D I ⟨⟨G, ds, a, o⟩, q⟩
  rcases h G ds a with ⟨tv, pa⟩ | ⟨tv, pb⟩
  · exact ps_if tv h1 h2 pins s σ H D I ⟨o.sd, fun H1 s1 => iteT ⟨⟨G, ds, pa, (o.step s1).1⟩, q⟩⟩
  · exact ps_if tv h1 h2 pins s σ H D I ⟨o.sd, fun H1 s1 => iteF ⟨⟨G, ds, pb, (o.step s1).1⟩, q⟩⟩
theorem ht_forR {tg iter : Expr} {body : List Stmt} {lo : Int} {n : Nat} (W : Nat → Gam → List PyData → Prop) (hp : PassesOwn (model X.prog X.w) X.A X.env X.xe) (hcalm : X.calm = true) (hij : j ≠ i) (hg : PG X tg (gName j))
    (hpre : ∀ G ds, Pre G ds → W 0 G ds ∧ PI X tg iter (fun σ H R => SD X.K H σ (plusL G i ds) ∧ ∀ H', Same H H' → R (Itr lo n) H'))
    (hs : ∀ k, k < n → HTs X H0 p i (fun G ds => ∃ G', W k G' ds ∧ G = G'.set j (some (.int (lo + (k : Nat))))) body (W (k + 1))) (hpost : ∀ G ds, W n G ds → Post G ds)
    (hfs : ∀ x, foldedSetIterable iter X.env x = pure x := by intro _; rfl) : HT1 X H0 p i Pre (.For tg iter body [] pos) Post := by
  intro pins s σ H D I ⟨⟨G, ds, a, o⟩, q⟩
  obtain ⟨w0, hi⟩ := hpre G ds a
  have hbody : PSs X body (fun D σ H => ∃ k : Nat, k < n ∧ tH X.K H0 p i (fun G ds => ∃ G', W k G' ds ∧ G = G'.set j (some (.int (lo + (k : Nat))))) (W (k + 1)) D σ H) := fun pins s σ H D I ⟨k, hk, q⟩ => hs k hk pins s σ H D I q
  refine ps_for hp hcalm hi hg hbody hfs pins s σ H D I ⟨o.sd, fun H1 s1 => ?_⟩
  refine for_range (lo := lo) (n := n) (g := gName j) (tb := fun D σ H => ∃ k : Nat, k < n ∧ tH X.K H0 p i (fun G ds => ∃ G', W k G' ds ∧ G = G'.set j (some (.int (lo + (k : Nat))))) (W (k + 1)) D σ H) (fun k σ H => k ≤ n ∧ ∃ G ds, W k G ds ∧ OSt X.K H0 p i G ds σ H) ⟨Nat.zero_le _, G, ds, w0, (o.step s1).1⟩ (fun k σ2 H2 hk ⟨_, G2, ds2, w2, o2⟩ => ?_) (fun σ2 H2 ⟨_, G2, ds2, w2, o2⟩ => q σ2 H2 G2 ds2 (hpost _ _ w2) o2)
  obtain ⟨Hb, vs, rfl, hn, s0, hσ, hi2, dv⟩ := id o2
  refine ⟨k, hk, ⟨_, ds2, ⟨G2, w2, rfl⟩, Hb, vs, rfl, hn, s0, hσ.set (.int _), by rw [List.getElem?_set_ne hij]; exact hi2, dv⟩, fun σ3 H3 G3 ds3 w3 o3 => ⟨hk, G3, ds3, w3, o3⟩⟩
def tR (K : PySem.W.Frag) (G : Gam) (R : PyData → Prop) : TS := fun D σ H => SD K H σ G ∧ ∀ d v H', R d → Same H H' → DV K H' v d → D.rt v H'
abbrev RVs (X : Cx) (G : Gam) (sts : List Stmt) (R : PyData → Prop) : Prop := PSs X sts (tR X.K G R)
def tHR (K : PySem.W.Frag) (H0 : Hp) (p : Addr) (i : Nat) (Pre : Gam → List PyData → Prop) (R : PyData → Prop) : TS := fun D σ H => (∃ G ds, Pre G ds ∧ OSt K H0 p i G ds σ H) ∧ ∀ d v H', R d → Same H0 H' → DV K H' v d → D.rt v H'
abbrev HRs (X : Cx) (H0 : Hp) (p : Addr) (i : Nat) (Pre : Gam → List PyData → Prop) (sts : List Stmt) (R : PyData → Prop) : Prop := PSs X sts (tHR X.K H0 p i Pre R)
variable {R : PyData → Prop} {G : Gam} {d : PyData}
theorem hrs_cons {st : Stmt} {sts : List Stmt} (h1 : HT1 X H0 p i Pre st Mid) (h2 : HRs X H0 p i Mid sts R) : HRs X H0 p i Pre (st :: sts) R :=
  (pss_cons h1 h2).imp fun D σ H ⟨a, q⟩ => ⟨a, fun σ' H' G ds m o => ⟨⟨G, ds, m, o⟩, q⟩⟩
theorem rvs_own {sts : List Stmt} (hN : X.N.Nodup) (hi : X.N[i]? = some x) (hx : Loc X.env.scope x) (hG : i < G.length) (h : ∀ H0 p, HRs X H0 p i (fun G' ds => G' = G.set i none ∧ ds = []) sts R)
    (hs : swapsWith (.List [] pos2) (some (.Name x pos')) pos.line X.env = pure false := by rfl) (hf : X.fn x = true ∨ X.env.scope.names.lookup x = some .local := by first | exact .inl rfl | exact .inr rfl | assumption) :
    RVs X G (.Assign [.Name x pos'] (.List [] pos2) pos :: sts) R := by
  intro pins s σ H D I ⟨hσ, q⟩
  have h2 : PSs X sts (fun D σ H => ∃ hp : Hp × Addr, tHR X.K hp.1 hp.2 i (fun G' ds => G' = G.set i none ∧ ds = []) R D σ H) := fun pins s σ H D I ⟨hp, q⟩ => h hp.1 hp.2 pins s σ H D I q
  refine pss_cons (ps_set hN hi hx (pe_lst pa_nil) hs hf) h2 pins s σ H D I ⟨Nat.zero_le _, fun p hp => ⟨(H, p), ⟨_, [], ⟨rfl, rfl⟩, H, [], rfl, hp, Same.refl _, ⟨by rw [List.length_set, List.length_set, hσ.1], fun j d e => ?_⟩, List.getElem?_set_self (by rw [hσ.1]; exact hG), .nil⟩, fun d v H' r s' dv => q d v H' r s' dv⟩⟩
  by_cases hj : i = j
  · subst hj
    rw [List.getElem?_set_self hG] at e
    cases e
  · rw [List.getElem?_set_ne hj] at e ⊢
    exact hσ.2 j d e
theorem rvs_cons {st : Stmt} {sts : List Stmt} {G1 : Gam} (h1 : SV X G st (.next G1)) (h2 : RVs X G1 sts R) : RVs X G (st :: sts) R :=
  (pss_cons h1 h2).imp fun D σ H ⟨h, q⟩ => ⟨h, fun σ' H' s' h' => ⟨h', fun d v H2 r s2 dv => q d v H2 r (s'.trans s2) dv⟩⟩
def spR (K : PySem.W.Frag) (F : List PyData → PyData → Prop) (pre : List PyData → Prop) : Sp := fun vs H Q _ => ∃ ds, DVs K H vs ds ∧ pre ds ∧ ∀ d v H', F ds d → Same H H' → DV K H' v d → Q v H'
def RFn (P : Program) (w : World) (K : PySem.W.Frag) (mg : Str → Option Value) (base : Heap) (k : Nat) (x : Str) (F : List PyData → PyData → Prop) (pre : List PyData → Prop) : Prop :=
  ∃ f fd ps, FnOk P w K mg base CX0 k f fd ps (spR K F pre) ∧ mg x = some (.ref f) ∧ PySem.W.keepIn K (.ref f) = true ∧ Binds K fd ps []
def tDR (K : PySem.W.Frag) (G : Gam) (R : PyData → Prop) : TE := fun σ H Q => SD K H σ G ∧ ∀ d v H', R d → Same H H' → DV K H' v d → Q v H'
abbrev EVR (X : Cx) (G : Gam) (e : Expr) (R : PyData → Prop) : Prop := PE X e (tDR X.K G R)
theorem evr_call {k : Nat} {F : List PyData → PyData → Prop} {pre : List PyData → Prop} {es : List Expr} {ds : List PyData} (D : RFn X.prog X.w X.K X.mg X.base k x F pre) (hr : Room k X.A) (hg : Gl X x) (ha : AV X G (e :: es) ds) (hF : pre ds) (hdb : (x == ("__debug__" : Str)) = false := by decide)
    (he : starEach (e :: es) X.env = (false, eval e X.env) :: starEach es X.env := by rfl) (hpl : (backTo pos (starEach es X.env)).any (·.1) = false := by rfl) : EVR X G (.Call (.Name x pos2) (e :: es) [] pos) (F ds) := by
  obtain ⟨f, fd, ps, ok, hm, hk, hb⟩ := D
  refine (pe_call ok hr hg hm hk hb .nil pass0 ha hdb he hpl).imp fun σ H Q ⟨h, q⟩ => ⟨h, fun vs H1 s1 d1 => ?_⟩
  show spR X.K F pre (vs ++ []) H1 Q E0
  rw [List.append_nil]
  exact ⟨ds, d1, hF, fun d v H2 r s2 d2 => q d v H2 r (s1.trans s2) d2⟩
theorem evr_of (h : EV X G e d) (hr : R d) : EVR X G e R := h.imp fun σ H Q ⟨h, q⟩ => ⟨h, fun v H' s' dv => q d v H' hr s' dv⟩
theorem svs_setR {sts : List Stmt} {o : Out} (hN : X.N.Nodup) (hi : X.N[i]? = some x) (hx : Loc X.env.scope x) (h : EVR X G e R) (h2 : ∀ d, R d → SVs X (G.set i (some d)) sts o) (hs : swapsWith e (some (.Name x pos')) pos.line X.env = pure false := by rfl)
    (hf : X.fn x = true ∨ X.env.scope.names.lookup x = some .local := by first | exact .inl rfl | exact .inr rfl | assumption) : SVs X G (.Assign [.Name x pos'] e pos :: sts) o := by
  have hr : PSs X sts (fun D σ H => ∃ d, R d ∧ tDS X.K (G.set i (some d)) o D σ H) := fun pins s σ H D I ⟨d, r, q⟩ => h2 d r pins s σ H D I q
  refine (pss_cons (ps_set hN hi hx h hs hf) hr).imp fun D σ H ⟨h, q⟩ => ⟨h, fun d v H1 r s1 d1 => ⟨d, r, (h.mono s1).set d1, ?_⟩⟩
  cases o with
  | next G2 => exact fun σ2 H2 s2 h2 => q σ2 H2 (s1.trans s2) h2
  | ret d => exact fun v H2 s2 h2 => q v H2 (s1.trans s2) h2
end
section
variable {P : Program} {w : World} {K : PySem.W.Frag} {mg : Str → Option Value} {base : Heap}
theorem Fun.dataR {x qual : Str} {st : Stmt} {f : Addr} {fd : FuncData} {N ps : List Str} {k : Nat} {F : List PyData → PyData → Prop} {pre : List PyData → Prop} (F0 : Fun K x qual st f fd) (hm : mg x = some (.ref f)) (hb : Binds K fd ps []) (S : FnScope N ps (defScope st)) (len : ∀ ds, pre ds → ds.length = ps.length)
    (hbody : ∀ (cdv : Value) (A : Around) (outer : List Env) (s : Shared) (H : Hp) (E : XK) (ds : List PyData), Room k (A.deeper (envOfC qual (defScope st) s.heap.objs.size f cdv)) → pre ds →
      RVs (cxOf CX0 P w K mg base N qual (defScope st) f cdv A outer s H E).nox (startG N ds) (defBody st) (F ds)) : RFn P w K mg base (k + 1) x F pre := by
  refine ⟨f, fd, ps, F0.ok S (fun vs H Q E ⟨ds, h1, h2, _⟩ => h1.length.trans (len ds h2)) (fun cdv A outer s H vs Q E hr ⟨ds, h1, h2, q⟩ => ⟨_, hbody cdv A outer s H E ds hr h2, SD.start h1, q⟩), hm, F0.kp, hb⟩
end
end L2
set_option maxRecDepth 100000
set_option maxHeartbeats 4000000
namespace L2
open PySem PySem.Spec PyProof.Rows
section
variable {X : Cx} {G : Gam} {a b c e : Expr} {es rest : List Expr} {pos p p2 p3 : Pos} {d d' da db dc : PyData} {ds : List PyData} {x : Str}
theorem ev_eq (h : EV X G e d) (q : d = d') : EV X G e d' := q ▸ h
theorem tv_eq {k k' : Bool} (h : TV X G e k) (q : k = k') : TV X G e k' := q ▸ h
end
mutual
theorem eqv_self : ∀ (d : PyData), d.canLay0 = true → PyData.eqv d d = true
  | .none, _ => rfl
  | .bool b, _ => by simp [PyData.eqv]
  | .int i, _ => by simp [PyData.eqv]
  | .str x, _ => by simp [PyData.eqv]
  | .list xs, h => by unfold PyData.eqv; exact eqvAll_self xs (by simpa [PyData.canLay0] using h)
  | .tuple xs, h => by unfold PyData.eqv; exact eqvAll_self xs (by simpa [PyData.canLay0] using h)
  | .dict _, h => by simp [PyData.canLay0] at h
theorem eqvAll_self : ∀ (ds : List PyData), PyData.canLayAll0 ds = true → PyData.eqvAll ds ds = true
  | [], _ => rfl
  | d :: r, h => by
    have h' : d.canLay0 = true ∧ PyData.canLayAll0 r = true := by simpa [PyData.canLayAll0] using h
    unfold PyData.eqvAll
    rw [eqv_self d h'.1, eqvAll_self r h'.2]
    rfl
end
theorem canLayAll_map {α : Type} {f : α → PyData} : ∀ (l : List α), (∀ a ∈ l, (f a).canLay0 = true) → PyData.canLayAll0 (l.map f) = true
  | [], _ => rfl
  | a :: r, h => by
    rw [List.map_cons]
    unfold PyData.canLayAll0
    rw [h a List.mem_cons_self, canLayAll_map r fun b hb => h b (List.mem_cons_of_mem _ hb)]
    rfl
theorem depthAll_map {α : Type} {f : α → PyData} {n : Nat} : ∀ (l : List α), (∀ a ∈ l, (f a).depth ≤ n) → PyData.depthAll (l.map f) ≤ n
  | [], _ => Nat.zero_le _
  | a :: r, h => by
    rw [List.map_cons]
    unfold PyData.depthAll
    exact Nat.max_le.mpr ⟨h a List.mem_cons_self, depthAll_map r fun b hb => h b (List.mem_cons_of_mem _ hb)⟩
theorem filter_true {α : Type} (l : List α) : l.filter (fun _ => true) = l := List.filter_eq_self.mpr fun _ _ => rfl
theorem atI_of {xs : List PyData} {i : Int} {d : PyData} (h0 : 0 ≤ i) (h : xs[i.toNat]? = some d) : atI xs i = some d := by
  have := atI_nat h
  rwa [Int.toNat_of_nonneg h0] at this
section
variable {X : Cx} {G : Gam} {a b c e : Expr} {es : List Expr} {pos p : Pos} {d da db dc : PyData} {ds : List PyData} {x : Str}
theorem ev_callB2 (id : String) (ha : AV X G (e :: es) ds) (hc : CD X (.builtin id) ds d) (hg : Gl X x) (hm : X.mg x = none) (hv : bootBuiltins x = some (.builtin id)) (hn : x ≠ "__name__" := by decide) (hdb : (x == ("__debug__" : Str)) = false := by decide)
    (he : starEach (e :: es) X.env = (false, eval e X.env) :: starEach es X.env := by rfl) (hpl : (backTo pos (starEach es X.env)).any (·.1) = false := by rfl) : EV X G (.Call (.Name x p) (e :: es) [] pos) d := ev_callB hc hg hm hv ha hn hdb he hpl
theorem ev_callTy2 (T : String) (ha : AV X G (e :: es) ds) (hc : CD X (.type T) ds d) (hg : Gl X x) (hm : X.mg x = none) (hv : bootBuiltins x = some (.type T)) (hn : x ≠ "__name__" := by decide) (hdb : (x == ("__debug__" : Str)) = false := by decide)
    (he : starEach (e :: es) X.env = (false, eval e X.env) :: starEach es X.env := by rfl) (hpl : (backTo pos (starEach es X.env)).any (·.1) = false := by rfl) : EV X G (.Call (.Name x p) (e :: es) [] pos) d := ev_callTy hc hg hm hv ha hn hdb he hpl
theorem ev_chain2 {op op' : CmpOp} {k k' : Bool} (ha : EV X G a da) (hb : EV X G b db) (ho : OD X (compareOp op) da db (.bool k)) (hc : EV X G c dc) (ho' : OD X (compareOp op') db dc (.bool k'))
    (hm : lastMarks [op, op'] [b, c] = false := by with_unfolding_all rfl) : EV X G (.Compare a [op, op'] [b, c] pos) (.bool (k && k')) := ev_chain ho (fun _ => ho') ha hb (fun _ => hc) hm
end
theorem at_ints {zs : List Int} {i : Int} (h0 : 0 ≤ i) (h : i < zs.length) : atI (zs.map PyData.int) i = some (.int (zs.getD i.toNat 0)) := by
  have hi : i.toNat < zs.length := by omega
  exact atI_of h0 (by simp [hi])
structure FnIn (K : PySem.W.Frag) (x : Str) (st : Stmt) (f : Addr) (fd : FuncData) : Prop where
  ns : PySem.W.nsIn K mainGlobals x = some (some (.ref f))
  fn : Fun K x x st f fd
theorem fnIn_mk {K : PySem.W.Frag} {x : Str} {st : Stmt} {f : Addr} {oc : Value} {od an : Option Addr} {osl : Array (Option Value)} {kV doc pm cdv ct : Value} (a : PySem.W.nsIn K mainGlobals x = some (some (.ref f)))
    (l : K.lookup f = some ⟨oc, od, .func (PySem.W.fnOf x x (defArgs st) (defBody st) (defScope st) .none kV doc pm an cdv ct), osl⟩) (c : PySem.W.codeIn K cdv x = true) (k : PySem.W.keepIn K (.ref f) = true) : ∃ f fd, FnIn K x st f fd :=
  ⟨f, _, a, fun_mk l c k⟩
section
variable {P : Program} {w : World} {K : PySem.W.Frag} {mg : Str → Option Value} {base : Heap}
theorem Fun.dataOk {x qual : Str} {st : Stmt} {f : Addr} {fd : FuncData} {N ps : List Str} {k : Nat} {F : List PyData → PyData → Prop} (F0 : Fun K x qual st f fd) (S : FnScope N ps (defScope st)) (len : ∀ ds d, F ds d → ds.length = ps.length)
    (hbody : ∀ (cdv : Value) (A : Around) (outer : List Env) (s : Shared) (H : Hp) (E : XK) (ds : List PyData) (d : PyData), Room k (A.deeper (envOfC qual (defScope st) s.heap.objs.size f cdv)) → F ds d →
      SVs (cxOf CX0 P w K mg base N qual (defScope st) f cdv A outer s H E).nox (startG N ds) (defBody st) (.ret d)) : FnOk P w K mg base CX0 (k + 1) f fd ps (spD K F) :=
  F0.ok S (fun vs H Q E ⟨ds, d, h1, h2, _⟩ => h1.length.trans (len ds d h2)) (fun cdv A outer s H vs Q E hr ⟨ds, d, h1, h2, q⟩ => ⟨_, hbody cdv A outer s H E ds d hr h2, SD.start h1, q⟩)
end
def F_law (ds : List PyData) (d : PyData) : Prop := ∃ ns : List Int, ds = [.list (ns.map PyData.int)] ∧ ns.length ≤ 63 ∧ d = .bool true
theorem walk_D {l : PySem.W.OpenLaw} {q : Program} {loose : List Str} {XP : (Str → Option Value) → Heap → Prop} {YP : World → Heap → Prop} {d : DefRec} {K : Params → PySem.W.Frag} (hn : l.most = some 63) (hdf : d.params.defaults = [])
    (hY : ∀ (w : World) (h : Heap), YP w h → (K w.params).In h)
    (F : ∀ (w : World) (mg : Str → Option Value) (fa : Addr) (h : Heap), (K w.params).In h → h.Ns mainGlobals mg → mg d.name = some (.ref fa) →
      ∃ fd : FuncData, (∀ (s : Shared) (u : Value), BindsTo s fd ⟨[u], []⟩ [("script", u)]) ∧ ∀ base : Heap, (K w.params).In base → base.Ns mainGlobals mg → FnOk l.prog w (K w.params) mg base CX0 20 fa fd ["script"] (spD (K w.params) F_law)) :
    PySem.W.WalkO q loose XP YP l.row.toRowW d [] (fun f vs => PySem.call f vs) :=
  L2.walk_of (n := 63) (k := 20) (x := "script") (CX := fun _ => CX0) (sp := fun w => spD (K w.params) F_law) hn (by decide) hdf ⟨rfl, by decide, by decide⟩ hY F
    (fun _ _ a ns hl _ hS => ⟨_, _, .cons (.lst hS (DVs.ints ns)) .nil, ⟨ns, rfl, hl, rfl⟩, fun v H' _ dv => dv.of_bl⟩) fun _ _ _ _ _ z => z
end L2
set_option maxRecDepth 100000
set_option maxHeartbeats 4000000
namespace L2
open PySem PySem.Spec PyProof.Rows
open Builtin.SmallTypes (nextOf)
section
variable {prog : Program} {w : World} {A : Around} {E : Value → Shared → Prop} {s : Shared}
theorem next_tup {it t : Addr} {i : Nat} {its : Array Value} {x : Value} {Q : Value → Shared → Prop} (hi : s.heap.IsTupleIter it t i) (ht : s.heap.IsTuple t its) (hx : its[i]? = some x)
    (q : ∀ g, g.IsTupleIter it t (i + 1) → Heap.SameBut it s.heap g → Q x { s with heap := g }) : wpAny (model prog w) A (nextOf (.ref it)) Q E s := by
  obtain ⟨o, ho, hc, hd⟩ := id hi; obtain ⟨ol, hol, _, nl, hdl⟩ := ht
  unfold nextOf
  refine wpAny_bind (wpAny_callSpecial?_slot (name := Str.ofString "__next__") hi.typeIs PySem.F.slot_tuple_iterator_next (wpAny_call_entry PySem.F.slot_tuple_iterator_next hi.typeIs PySem.F.entry_tuple_iterator_next ?_ (PySem.F.args_tuple_iterator_next_1 _)))
  show wpAny _ A.in1 (field (.ref it) 0 >>= _) _ _ s
  refine wpAny_bind (wpAny_field ho hd (x := .ref t) rfl ?_)
  show wpAny _ A.in1 (if (Value.ref t == Value.none) = true then _ else _) _ _ s
  rw [if_neg (show ¬ ((Value.ref t == Value.none) = true) by exact Bool.false_ne_true)]
  show wpAny _ A.in1 (field (.ref it) 1 >>= _) _ _ s
  refine wpAny_bind (wpAny_field ho hd (x := .int i 0) rfl ?_)
  show wpAny _ A.in1 (seqItems? (.ref t) >>= _) _ _ s
  refine wpAny_bind (wpAny_seqItems hol hdl ?_)
  simp only [Int.toNat_natCast, hx]
  refine wpAny_bind (wpAny_setField ho hd (by simp) (wpAny_pure ⟨x, rfl, wpAny_pure (q _ ⟨_, Heap.get?_update_self _ ho (Obj.isFreed_of_fields (Obj.data_mapFields hd _)), (Obj.cls_mapFields ..).trans hc, ?_⟩ (Heap.SameBut.update ..))⟩))
  rw [Obj.data_mapFields hd]; simp [rawInt]
theorem next_tup_end {it t : Addr} {i : Nat} {its : Array Value} {Q : Value → Shared → Prop} (hh : A.handled = none) (hi : s.heap.IsTupleIter it t i) (ht : s.heap.IsTuple t its) (hx : its[i]? = none)
    (q : ∀ g e, Heap.ExtBut it s.heap g → (∃ o, g.get? e = some o ∧ o.cls = .type "StopIteration") → E (.ref e) { s with heap := g }) : wpAny (model prog w) A (nextOf (.ref it)) Q E s := by
  obtain ⟨o, ho, hc, hd⟩ := id hi; obtain ⟨ol, hol, _, nl, hdl⟩ := ht
  unfold nextOf
  refine wpAny_bind (wpAny_callSpecial?_slot (name := Str.ofString "__next__") hi.typeIs PySem.F.slot_tuple_iterator_next (wpAny_call_entry PySem.F.slot_tuple_iterator_next hi.typeIs PySem.F.entry_tuple_iterator_next ?_ (PySem.F.args_tuple_iterator_next_1 _)))
  show wpAny _ A.in1 (field (.ref it) 0 >>= _) _ _ s
  refine wpAny_bind (wpAny_field ho hd (x := .ref t) rfl ?_)
  show wpAny _ A.in1 (if (Value.ref t == Value.none) = true then _ else _) _ _ s
  rw [if_neg (show ¬ ((Value.ref t == Value.none) = true) by exact Bool.false_ne_true)]
  show wpAny _ A.in1 (field (.ref it) 1 >>= _) _ _ s
  refine wpAny_bind (wpAny_field ho hd (x := .int i 0) rfl ?_)
  show wpAny _ A.in1 (seqItems? (.ref t) >>= _) _ _ s
  refine wpAny_bind (wpAny_seqItems hol hdl ?_)
  simp only [Int.toNat_natCast, hx]
  refine wpAny_bind (wpAny_rule (wpAny_bind (wpAny_setField ho hd (by simp) ?_)))
  show wpAny _ A.in1 (newExc (.type "StopIteration") [] >>= _) _ _ _
  refine wpAny_bind ?_
  simp only [newExc, newTuple]
  refine wpAny_bind (wpAny_newObj_type ?_ (by size_fits))
  refine wpAny_bind (m := firstArgMember _ _) (wpAny_of_eq (a := Value.none) (by first | rfl | (simp only [firstArgMember]; rfl)) ?_)
  refine wpAny_newObj_type ?_ (by size_fits)
  simp only [raiseNew]
  refine wpAny_bind (wpAny_handled ?_)
  rw [show A.in1.handled = none from hh]
  exact wpAny_bind (wpAny_pure (wpAny_throw (q _ _ (((Heap.SameBut.update ..).extBut.push _).push _) ⟨_, Heap.get?_push_size _ rfl, rfl⟩)))
structure ZAp (z a b i j t : Addr) : Prop where
  az : a ≠ z
  bz : b ≠ z
  iz : i ≠ z
  jz : j ≠ z
  ab : a ≠ b
  ai : a ≠ i
  aj : a ≠ j
  bi : b ≠ i
  bj : b ≠ j
  ij : i ≠ j
  tz : t ≠ z
  tb : t ≠ b
  ti : t ≠ i
  tj : t ≠ j
abbrev asciiI : String := "str_ascii_iterator"
theorem zip_item {z a b i j t : Addr} {k c : Nat} {x : Str} {tk : Tok} {ys : Array Value} {y p q : Value} {Q : Value → Shared → Prop} (D : ZAp z a b i j t)
    (hz : IsZip s.heap z a b .none) (ha : IsPair s.heap a (.ref i) (.ref j)) (hb : IsPair s.heap b p q) (h1 : s.heap.IsStrIter i asciiI x tk k) (h2 : s.heap.IsTupleIter j t k) (ht : s.heap.IsTuple t ys) (hx : x.cps[k]? = some c) (hy : ys[k]? = some y)
    (fin : ∀ g n, IsZip g z a b (rawInt s.heap.objs.size) → IsPair g b (.str ⟨#[c]⟩ s.toks) y → g.IsStrIter i asciiI x tk (k + 1) → g.IsTupleIter j t (k + 1) → IsPair g s.heap.objs.size (.str ⟨#[c]⟩ s.toks) y → g.objs.size = s.heap.objs.size + 1 →
      (∀ d o, d ≠ z → d ≠ b → d ≠ i → d ≠ j → s.heap.get? d = some o → g.get? d = some o) → Q (.ref s.heap.objs.size) { s with heap := g, toks := n }) :
    wpAny (model prog w) A (Builtin.«zip.__next__» ⟨[.ref z], []⟩) (fun r s' => ∃ v, r = .done (.ret v) ∧ Q v s') E s := by
  show wpAny (model prog w) A (field (.ref z) 2 >>= _) _ _ _
  refine wpAny_bind (wpAny_field hz rfl (x := .bool false) rfl ?_)
  show wpAny (model prog w) A (field (.ref z) 3 >>= _) _ _ _
  refine wpAny_bind (wpAny_field hz rfl (x := .ref a) rfl (wpAny_bind (wpAny_seqItems ha rfl ?_)))
  show wpAny (model prog w) A (Builtin.SmallTypes.ownedTupleIsFree (.ref z) >>= _) _ _ _
  refine wpAny_bind ?_
  unfold Builtin.SmallTypes.ownedTupleIsFree
  refine wpAny_bind (wpAny_field hz rfl (x := .none) rfl (wpAny_pure ?_))
  simp only [if_true]
  refine wpAny_bind (wpAny_rule (wpAny_bind (wpAny_field hz rfl (x := .ref b) rfl (wpAny_bind (wpAny_setField_rec hz (by simp) fun g1 z1 s1 => ?_)))))
  replace z1 : IsZip g1 z a b .ellipsis := z1
  refine wpAny_bind ?_
  simp only [List.zipIdx_cons, List.zipIdx_nil, List.forIn_cons, List.forIn_nil]
  refine wpAny_bind (wpAny_bind (wpAny_onRaise ?_))
  show wpAny (model prog w) A (nextOf (.ref i) >>= _) _ _ _
  refine wpAny_bind (wpAny_nextOf_ascii_item (h1.extBut s1.extBut D.iz) hx fun g2 i2 s2 => wpAny_pure ?_)
  have b2 : IsPair g2 b p q := s2.extBut _ _ D.bi (s1.extBut _ _ D.bz hb)
  refine wpAny_bind (wpAny_seqItems b2 rfl (wpAny_bind (wpAny_updateSeq_pair b2 fun g3 b3 s3 => ?_)))
  replace b3 : IsPair g3 b (.str ⟨#[c]⟩ s.toks) q := b3
  refine wpAny_bind (wpAny_letGo (wpAny_pure ?_))
  refine wpAny_bind (wpAny_bind (wpAny_onRaise ?_))
  show wpAny (model prog w) A (nextOf (.ref j) >>= _) _ _ _
  have j3 : g3.IsTupleIter j t k := by
    obtain ⟨o, e, r⟩ := h2
    exact ⟨o, s3.extBut _ _ D.bj.symm (s2.extBut _ _ D.ij.symm (s1.extBut _ _ D.jz e)), r⟩
  have t3 : g3.IsTuple t ys := by
    obtain ⟨o, e, r⟩ := ht
    exact ⟨o, s3.extBut _ _ D.tb (s2.extBut _ _ D.ti (s1.extBut _ _ D.tz e)), r⟩
  refine wpAny_bind (next_tup j3 t3 hy fun g4 j4 s4 => wpAny_pure ?_)
  have b4 : IsPair g4 b (.str ⟨#[c]⟩ s.toks) q := s4.extBut _ _ D.bj b3
  refine wpAny_bind (wpAny_seqItems b4 rfl (wpAny_bind (wpAny_updateSeq_pair b4 fun g5 b5 s5 => ?_)))
  replace b5 : IsPair g5 b (.str ⟨#[c]⟩ s.toks) y := b5
  refine wpAny_bind (wpAny_letGo (wpAny_pure (wpAny_pure (wpAny_bind (wpAny_seqItems b5 rfl (wpAny_bind (wpAny_newTuple ?_)))))))
  have sz : g5.objs.size = s.heap.objs.size := by rw [s5.1, s4.1, s3.1, s2.1, s1.1]
  have z5 : IsZip g5 z a b .ellipsis := s5.extBut _ _ D.bz.symm (s4.extBut _ _ D.jz.symm (s3.extBut _ _ D.bz.symm (s2.extBut _ _ D.iz.symm z1)))
  have k5 : ∀ d o, d ≠ z → d ≠ b → d ≠ i → d ≠ j → s.heap.get? d = some o → g5.get? d = some o := fun d o d1 d2 d3 d4 e => s5.extBut _ _ d2 (s4.extBut _ _ d4 (s3.extBut _ _ d2 (s2.extBut _ _ d3 (s1.extBut _ _ d1 e))))
  have i5 : g5.IsStrIter i asciiI x tk (k + 1) := ((i2.extBut s3.extBut D.bi.symm).extBut s4.extBut D.ij).extBut s5.extBut D.bi.symm
  have j5 : g5.IsTupleIter j t (k + 1) := by
    obtain ⟨o, e, r⟩ := j4
    exact ⟨o, s5.extBut _ _ D.bj.symm e, r⟩
  have zlt : z < g5.objs.size := Heap.lt_size z5
  show wpAny (model prog w) A (Builtin.SmallTypes.ownedTupleHandOut (.ref z) (.ref g5.objs.size) >>= _) _ _ _
  refine wpAny_bind ?_
  unfold Builtin.SmallTypes.ownedTupleHandOut
  have z6 : IsZip (g5.push { cls := .type "tuple", data := .seq #[.str ⟨#[c]⟩ s.toks, y] }) z a b .ellipsis := Heap.get?_push_of_some _ z5
  refine wpAny_bind (wpAny_setField_rec z6 (by simp) fun g7 z7 s7 => ?_)
  replace z7 : IsZip g7 z a b (rawInt g5.objs.size) := z7
  refine wpAny_setField_rec z7 (by simp) fun g8 z8 s8 => ?_
  replace z8 : IsZip g8 z a b (rawInt g5.objs.size) := z8
  have up : ∀ d o, d ≠ z → g5.get? d = some o → g8.get? d = some o := fun d o d1 e => s8.extBut _ _ d1 (s7.extBut _ _ d1 (Heap.get?_push_of_some _ e))
  have p8 : IsPair g8 g5.objs.size (.str ⟨#[c]⟩ s.toks) y := s8.extBut _ _ (Nat.ne_of_gt zlt) (s7.extBut _ _ (Nat.ne_of_gt zlt) (Heap.get?_push_size _ rfl))
  have n8 : g8.objs.size = g5.objs.size + 1 := by rw [s8.1, s7.1, Heap.size_push]
  rw [sz] at z8 p8 n8
  refine wpAny_pure ⟨_, rfl, ?_⟩
  show Q (.ref g5.objs.size) _
  rw [sz]
  refine fin g8 _ z8 (up _ _ D.bz b5) ?_ ?_ p8 n8 fun d o d1 d2 d3 d4 e => up d o d1 (k5 d o d1 d2 d3 d4 e)
  · obtain ⟨o, e, r⟩ := i5
    exact ⟨o, up _ _ D.iz e, r⟩
  · obtain ⟨o, e, r⟩ := j5
    exact ⟨o, up _ _ D.jz e, r⟩
theorem zip_over {z a b i j : Addr} {k : Nat} {x : Str} {tk : Tok} {Q : Fin → Shared → Prop} (hh : A.handled = none) (iz : i ≠ z)
    (hz : IsZip s.heap z a b .none) (ha : IsPair s.heap a (.ref i) (.ref j)) (h1 : s.heap.IsStrIter i asciiI x tk k) (hx : x.cps[k]? = none)
    (fin : ∀ g e, (∀ d o, d ≠ z → d ≠ b → d ≠ i → d ≠ j → s.heap.get? d = some o → g.get? d = some o) → (∃ o, g.get? e = some o ∧ o.cls = .type "StopIteration") → E (.ref e) { s with heap := g }) :
    wpAny (model prog w) A (Builtin.«zip.__next__» ⟨[.ref z], []⟩) Q E s := by
  show wpAny (model prog w) A (field (.ref z) 2 >>= _) _ _ _
  refine wpAny_bind (wpAny_field hz rfl (x := .bool false) rfl ?_)
  show wpAny (model prog w) A (field (.ref z) 3 >>= _) _ _ _
  refine wpAny_bind (wpAny_field hz rfl (x := .ref a) rfl (wpAny_bind (wpAny_seqItems ha rfl ?_)))
  show wpAny (model prog w) A (Builtin.SmallTypes.ownedTupleIsFree (.ref z) >>= _) _ _ _
  refine wpAny_bind ?_
  unfold Builtin.SmallTypes.ownedTupleIsFree
  refine wpAny_bind (wpAny_field hz rfl (x := .none) rfl (wpAny_pure ?_))
  simp only [if_true]
  refine wpAny_bind (wpAny_rule (wpAny_bind (wpAny_field hz rfl (x := .ref b) rfl (wpAny_bind (wpAny_setField_rec hz (by simp) fun g1 z1 s1 => ?_)))))
  replace z1 : IsZip g1 z a b .ellipsis := z1
  refine wpAny_bind ?_
  simp only [List.zipIdx_cons, List.zipIdx_nil, List.forIn_cons, List.forIn_nil]
  refine wpAny_bind (wpAny_bind (wpAny_onRaise ?_))
  show wpAny (model prog w) A (nextOf (.ref i) >>= _) _ _ _
  refine wpAny_bind (wpAny_nextOf_ascii_end hh (h1.extBut s1.extBut iz) hx fun g2 e s2 he => ?_)
  obtain ⟨oe, hoe, hce⟩ := he
  have z2 : IsZip g2 z a b .ellipsis := s2 _ _ iz.symm z1
  have ez : e ≠ z := fun y => by subst y; rw [z2] at hoe; cases hoe; simp at hce
  exact wpAny_setField_rec z2 (by simp) fun g3 _ s3 => fin g3 e (fun d o d1 _ d3 _ y => s3.extBut _ _ d1 (s2 _ _ d3 (s1.extBut _ _ d1 y))) ⟨oe, s3.extBut _ _ ez hoe, hce⟩
end
end L2
set_option maxRecDepth 100000
set_option maxHeartbeats 4000000
namespace L2
open PySem PySem.Spec PyProof.Rows
def zipIt (K : PySem.W.Frag) (x : Str) (t : Addr) : It :=
  ⟨fun k H => ∃ ys, SqT K H t ys ∧ k < ys.length ∧ k < x.cps.size, fun k H v H' => ∃ p c y, H p = none ∧ v = .ref p ∧ H' = upd H p (.tup [.str ⟨#[c]⟩, y]) ∧ x.cps[k]? = some c ∧ ∀ ys, SqT K H t ys → ys[k]? = some y, fun k _ => x.cps.size ≤ k⟩
def ZTn (z a b i j t : Addr) (x : Str) (tk : Tok) (k : Nat) (h : Heap) : Prop := IsZip h z a b .none ∧ IsPair h a (.ref i) (.ref j) ∧ (∃ p q, IsPair h b p q) ∧ h.IsStrIter i asciiI x tk k ∧ h.IsTupleIter j t k
structure ZAp0 (z a b i j : Addr) : Prop where
  az : a ≠ z
  bz : b ≠ z
  iz : i ≠ z
  jz : j ≠ z
  ab : a ≠ b
  ai : a ≠ i
  aj : a ≠ j
  bi : b ≠ i
  bj : b ≠ j
  ij : i ≠ j
theorem tup_apart {X : Cx} {pins : List (Addr × Obj)} {σ : St} {H : Hp} {s : Shared} {t b : Addr} {ys : List V} (I : Inv X pins σ H s) (h : SqT X.K H t ys) (f : FpOk X pins H b) : t ≠ b := by
  intro e
  subst e
  obtain ⟨hn, _, _, hx, _⟩ := f
  rcases h with (h | ⟨o, h⟩) | ⟨o, its, n, hk, _⟩
  · rw [hn] at h; cases h
  · rw [hn] at h; cases h
  · have hb := I.mod.kin t o hk
    rcases hx with hx | hx
    · exact I.ok.noex t o hb hx
    · exact absurd (Nat.lt_of_lt_of_le (Heap.lt_size (I.ok.bs t o hb).1) hx) (Nat.lt_irrefl _)
theorem Inv.turnedNew {X : Cx} {pins : List (Addr × Obj)} {σ : St} {H : Hp} {s : Shared} {h' : Heap} {t' : Nat} {ch : List Addr} {p : Addr} {vs : List V} {us : List Value} (I : Inv X pins σ H s) (hf : ∀ b ∈ ch, FpOk X pins H b)
    (k : ∀ b o, b ∉ ch → s.heap.get? b = some o → h'.get? b = some o) (hc : ∀ b ∈ ch, ∃ o, h'.get? b = some o) (hp : s.heap.objs.size ≤ p) (r : Vals vs us) (hz : vs.length ≤ sizeLine) (ht : IsTup h' p us.toArray) : Inv X pins σ (upd H p (.tup vs)) { s with heap := h', toks := t' } := by
  have nc : ∀ b u, H b = some u → b ∉ ch := fun b u e z => by rw [(hf b z).1] at e; cases e
  have hn : H p = none := I.hok.fresh hp
  refine I.step (g' := s.gens) (d' := s.drawn) (ch := ch) (fun b hb => ?_) (fun b o _ _ hc e _ => k b o hc e) (fun b o _ _ hc e _ => ⟨o.slots, k b o hc e⟩) (fun b o _ e n => ?_) (fun b o hc e => ⟨o, k b o hc e⟩)
    (fun b xs e => ?_) (fun b o u e => ?_) (fun b ps e => ⟨#[], ?_⟩) (fun m hm => ?_) (fun b u e => ?_) I.bare
  · obtain ⟨_, h1, h2, h3, h4, h5⟩ := hf b hb
    exact ⟨h3, h1, h4, h5⟩
  · rw [upd_ne (Nat.ne_of_lt (Nat.lt_of_lt_of_le (Heap.lt_size e) hp))]; exact n
  · rw [upd_ne (ne_of_none e hn)]; exact e
  · rw [upd_ne (ne_of_none e hn)]; exact e
  · rw [upd_ne (ne_of_none e hn), e]; simp
  · obtain ⟨o, es, ep, ho, rr⟩ := hm
    exact ⟨o, es, ep, k _ o (fun z => (hf _ z).2.1 rfl) ho, rr⟩
  · by_cases hb : b = p
    · subst hb
      rw [upd_same] at e
      cases e
      exact ⟨hz, us, r, ht⟩
    · rw [upd_ne hb] at e
      refine (I.hok b u e).stay (fun c v hc q => k c v ?_ q) (fun c q => ?_) fun c xs q => ?_
      · rcases hc with z | z
        · rw [z]; exact nc b u e
        · exact nc c _ z
      · rw [upd_ne (ne_of_none q hn)]; exact q
      · rw [upd_ne (ne_of_none q hn)]; exact q
theorem Inv.turnedMany {X : Cx} {pins : List (Addr × Obj)} {σ : St} {H : Hp} {s : Shared} {h' : Heap} {t' : Nat} {ch : List Addr} (I : Inv X pins σ H s) (hf : ∀ b ∈ ch, FpOk X pins H b)
    (k : ∀ b o, b ∉ ch → s.heap.get? b = some o → h'.get? b = some o) : Inv X pins σ H { s with heap := h', toks := t' } := by
  have nc : ∀ b u, H b = some u → b ∉ ch := fun b u e z => by rw [(hf b z).1] at e; cases e
  refine I.step (g' := s.gens) (d' := s.drawn) (ch := ch) (fun b hb => ?_) (fun b o _ _ hc e _ => k b o hc e) (fun b o _ _ hc e _ => ⟨o.slots, k b o hc e⟩) (fun b o _ e n => n) (fun b o hc e => ⟨o, k b o hc e⟩)
    (fun b xs e => e) (fun b o u e => e) (fun b ps e => ⟨#[], by rw [e]; simp⟩) (fun m hm => ?_) (fun b u e => ?_) I.bare
  · obtain ⟨_, h1, h2, h3, h4, h5⟩ := hf b hb
    exact ⟨h3, h1, h4, h5⟩
  · obtain ⟨o, es, ep, ho, rr⟩ := hm
    exact ⟨o, es, ep, k _ o (fun z => (hf _ z).2.1 rfl) ho, rr⟩
  · refine (I.hok b u e).stay (fun c v hc q => k c v ?_ q) (fun c q => q) fun c xs q => q
    rcases hc with z | z
    · rw [z]; exact nc b u e
    · exact nc c _ z
theorem turn_zip {P : Program} {w : World} {K : PySem.W.Frag} {elts : List Expr} {x1} {tpos : Pos} {z a b i j t : Addr} {x : Str} {tk : Tok} (D0 : ZAp0 z a b i j) :
    Turn P w K (.Tuple elts x1 tpos) (zipIt K x t) [z, a, b, i, j] z (ZTn z a b i j t x tk) where
  mem := by simp
  obj := fun k h st c hc => by
    obtain ⟨hz, ha, ⟨p, q, hb⟩, ⟨o1, e1, _, d1⟩, ⟨o2, e2, _, d2⟩⟩ := st
    simp only [List.mem_cons, List.not_mem_nil, or_false] at hc
    rcases hc with rfl | rfl | rfl | rfl | rfl
    · exact ⟨_, hz, fun v z => (by cases z)⟩
    · exact ⟨_, ha, fun v z => (by cases z)⟩
    · exact ⟨_, hb, fun v z => (by cases z)⟩
    · exact ⟨_, e1, fun v z => by rw [d1] at z; cases z⟩
    · exact ⟨_, e2, fun v z => by rw [d2] at z; cases z⟩
  keep := fun k h h' st kk => by
    obtain ⟨hz, ha, ⟨p, q, hb⟩, ⟨o1, e1, r1⟩, ⟨o2, e2, r2⟩⟩ := st
    exact ⟨kk z (by simp) _ hz, kk a (by simp) _ ha, ⟨p, q, kk b (by simp) _ hb⟩, ⟨o1, kk i (by simp) _ e1, r1⟩, ⟨o2, kk j (by simp) _ e2, r2⟩⟩
  item := fun X eP eW eK hcalm k pins s σ H E I hf st go => by
    subst eP eW eK
    obtain ⟨ys, hq, hk, hkx⟩ := go
    obtain ⟨hz, ha, ⟨p, q, hb⟩, h1, h2⟩ := st
    obtain ⟨its, rv, ht, hzz⟩ := I.tuple hq
    have tap := fun c (hc : c ∈ [z, a, b, i, j]) => tup_apart I hq (hf c hc)
    have D : ZAp z a b i j t := ⟨D0.az, D0.bz, D0.iz, D0.jz, D0.ab, D0.ai, D0.aj, D0.bi, D0.bj, D0.ij, tap z (by simp), tap b (by simp), tap i (by simp), tap j (by simp)⟩
    have hy : ys[k]? = some ys[k] := List.getElem?_eq_getElem hk
    obtain ⟨u, eu, ru⟩ := rv.get hy
    have hc0 : x.cps[k]? = some x.cps[k] := Array.getElem?_eq_getElem hkx
    have hT : s.TypeIs (.ref z) "zip" := ⟨_, hz, rfl⟩
    unfold pyNext
    refine wpAny_bind (wpAny_attempt (wpAny_callSpecial?_slot (name := Str.ofString "__next__") hT PySem.F.slot_zip_next (wpAny_call_entry PySem.F.slot_zip_next hT PySem.F.entry_zip_next
      (zip_item D hz ha hb h1 h2 (show s.heap.IsTuple t its.toArray from ht) hc0 (by simpa using eu) fun g n a1 a2 a3 a4 a5 a6 a7 => wpAny_pure ⟨_, rfl, ?_⟩) (PySem.F.args_zip_next_1 _))))
    refine wpAny_letOwnedTupleGo_zip a1 fun g' z' s' => ?_
    have hp : H s.heap.objs.size = none := I.hok.fresh (Nat.le_refl _)
    have zlt : z < s.heap.objs.size := Heap.lt_size hz
    have k' : ∀ c o, c ∉ [z, b, i, j] → s.heap.get? c = some o → g'.get? c = some o := fun c o hc e => by
      simp only [List.mem_cons, List.not_mem_nil, or_false, not_or] at hc
      exact s'.extBut _ _ hc.1 (a7 c o hc.1 hc.2.1 hc.2.2.1 hc.2.2.2 e)
    have pr : IsPair g' s.heap.objs.size (.str ⟨#[x.cps[k]]⟩ s.toks) u := s'.extBut _ _ (Nat.ne_of_gt zlt) a5
    have ks : ∀ c ∈ [z, b, i, j], c ∈ [z, a, b, i, j] := fun c hc => by
      simp only [List.mem_cons, List.not_mem_nil, or_false] at hc ⊢
      rcases hc with h | h | h | h <;> simp [h]
    have b' : IsPair g' b (.str ⟨#[x.cps[k]]⟩ s.toks) u := s'.extBut _ _ D.bz a2
    have i' : g'.IsStrIter i asciiI x tk (k + 1) := a3.extBut s'.extBut D.iz
    have j' : g'.IsTupleIter j t (k + 1) := by
      obtain ⟨o, e, r⟩ := a4
      exact ⟨o, s'.extBut _ _ D.jz e, r⟩
    have I1 : Inv X pins σ (upd H s.heap.objs.size (.tup [.str ⟨#[x.cps[k]]⟩, ys[k]])) { s with heap := g', toks := n } := I.turnedNew (ch := [z, b, i, j]) (fun c hc => hf c (ks c hc)) k' (fun c hc => by
      simp only [List.mem_cons, List.not_mem_nil, or_false] at hc
      rcases hc with rfl | rfl | rfl | rfl
      · exact ⟨_, z'⟩
      · exact ⟨_, b'⟩
      · exact ⟨_, i'.choose_spec.1⟩
      · exact ⟨_, j'.choose_spec.1⟩) (Nat.le_refl _) (us := [.str ⟨#[x.cps[k]]⟩ s.toks, u]) (.cons ⟨_, rfl⟩ (.cons ru .nil)) (by rw [sizeLine_eq]; show 2 ≤ 16777216; decide) ⟨_, pr, rfl, _, rfl⟩
    refine ⟨.ref s.heap.objs.size, _, I1, rfl, ⟨_, x.cps[k], ys[k], hp, rfl, rfl, hc0, fun zs hzs => ?_⟩, ⟨z', k' a _ (by simp [D0.az, D0.ab, D0.ai, D0.aj]) ha, ⟨_, _, b'⟩, i', j'⟩, fun c hc => ?_⟩
    · rw [I.tuple_inj hzs hq]; exact hy
    · have hcn := (hf c hc).1
      have : c ≠ s.heap.objs.size := fun e => by
        obtain ⟨o, eo⟩ : ∃ o, s.heap.get? c = some o := by
          simp only [List.mem_cons, List.not_mem_nil, or_false] at hc
          rcases hc with rfl | rfl | rfl | rfl | rfl
          · exact ⟨_, hz⟩
          · exact ⟨_, ha⟩
          · exact ⟨_, hb⟩
          · exact ⟨_, h1.choose_spec.1⟩
          · exact ⟨_, h2.choose_spec.1⟩
        exact absurd (Heap.lt_size eo) (by rw [e]; exact Nat.lt_irrefl _)
      rw [upd_ne this]; exact hcn
  done := fun X eP eW eK hcalm k pins s σ H E I hf st stp => by
    subst eP eW eK
    obtain ⟨hz, ha, ⟨p, q, hb⟩, h1, h2⟩ := st
    have stp : x.cps.size ≤ k := stp
    have hT : s.TypeIs (.ref z) "zip" := ⟨_, hz, rfl⟩
    unfold pyNext
    refine wpAny_bind (wpAny_attempt (wpAny_callSpecial?_slot (name := Str.ofString "__next__") hT PySem.F.slot_zip_next (wpAny_call_entry PySem.F.slot_zip_next hT PySem.F.entry_zip_next
      (zip_over (I.ok.hd hcalm) D0.iz hz ha h1 (Array.getElem?_eq_none stp) fun g e kk he => ?_) (PySem.F.args_zip_next_1 _))))
    obtain ⟨o, ho, hc⟩ := he
    refine wpAny_bind (wpAny_isInstance (T := "StopIteration") (b := true) ⟨o, ho, hc⟩ isSubtype_stop (wpAny_pure ⟨rfl, ?_⟩))
    refine I.turnedMany (t' := s.toks) (ch := [z, b, i, j]) (fun c hc => hf c ?_) fun c o hc e => ?_
    · simp only [List.mem_cons, List.not_mem_nil, or_false] at hc ⊢
      rcases hc with h | h | h | h <;> simp [h]
    · simp only [List.mem_cons, List.not_mem_nil, or_false, not_or] at hc
      exact kk c o hc.1 hc.2.1 hc.2.2.1 hc.2.2.2 e
  self := fun A k s Q E st hQ => wpAny_pyIter_zip st.1 hQ
abbrev zs1 (h : Heap) (x : Str) (tk : Tok) : Heap := h.push { cls := .type (strIterType x), data := .fields #[.str x tk, .int 0 0] }
abbrev zs2 (h : Heap) (x : Str) (tk : Tok) (t : Addr) : Heap := (zs1 h x tk).push { cls := .type "tuple_iterator", data := .fields #[.ref t, .int 0 0] }
abbrev zs3 (h : Heap) (x : Str) (tk : Tok) (t : Addr) : Heap := (zs2 h x tk t).push { cls := .type "tuple", data := .seq #[.ref h.objs.size, .ref (zs1 h x tk).objs.size] }
abbrev zs4 (h : Heap) (x : Str) (tk : Tok) (t : Addr) : Heap := (zs3 h x tk t).push { cls := .type "tuple", data := .seq #[.none, .none] }
abbrev zs5 (h : Heap) (x : Str) (tk : Tok) (t : Addr) : Heap := (zs4 h x tk t).push { cls := .type "zip", data := .fields #[.none, .bool false, .bool false, .ref (zs2 h x tk t).objs.size, .ref (zs3 h x tk t).objs.size] }
theorem zip_make (x : Str) (tk : Tok) (t : Addr) (ys : Array Value) : Meets (Builtin.«zip.__new__» ⟨[.type "zip", .str x tk, .ref t], []⟩) (fun _ R s => s.heap.IsTuple t ys ∧ R (.ok (.ret (.ref (zs4 s.heap x tk t).objs.size))) { s with heap := zs5 s.heap x tk t }) :=
  .of_wp fun prog w A R s h => by
    obtain ⟨hp, g, d, tk', os⟩ := s; obtain ⟨hl, h⟩ := h
    have hsub := sub_zip
    have hL : Heap.IsTuple (Shared.heap ⟨hp.push { cls := .type (strIterType x), data := .fields #[.str x tk, .int 0 0] }, g, d, tk', os⟩) t ys := by
      obtain ⟨o, e, r⟩ := hl
      exact ⟨o, Heap.get?_push_of_some _ e, r⟩
    wp_walk using wpAny_pyIter_strU, wpAny_pyIter_tuple hL
    exact ⟨_, rfl, h⟩
end L2
set_option maxRecDepth 100000
set_option maxHeartbeats 4000000
namespace L2
open PySem PySem.Spec PyProof.Rows
theorem call_zipST {prog : Program} {w : World} {A : Around} {E : Value → Shared → Prop} {s : Shared} {x : Str} {tk : Tok} {t : Addr} {ys : Array Value} {Q : Value → Shared → Prop} (hx : strIterType x = asciiI) (ht : s.heap.IsTuple t ys)
    (h : ∀ g, ZTn (s.heap.objs.size + 4) (s.heap.objs.size + 2) (s.heap.objs.size + 3) s.heap.objs.size (s.heap.objs.size + 1) t x tk 0 g → (∀ c o, s.heap.get? c = some o → g.get? c = some o) → Q (.ref (s.heap.objs.size + 4)) { s with heap := g }) :
    wpAny (model prog w) A (call (.type "zip") [.str x tk, .ref t]) Q E s := by
  refine callType_new PySem.F.called_zip (by decide) (PySem.F.typeCall_zip_2 _ _) (PySem.F.newCall_zip_2 _ _) (fun obj => PySem.F.args_object_init_3 obj _ _) PySem.F.entry_zip_new (zip_make x tk t ys) ⟨ht, ?_⟩
  have z1 : (zs1 s.heap x tk).objs.size = s.heap.objs.size + 1 := Heap.size_push ..
  have z2 : (zs2 s.heap x tk t).objs.size = s.heap.objs.size + 2 := by rw [Heap.size_push, z1]
  have z3 : (zs3 s.heap x tk t).objs.size = s.heap.objs.size + 3 := by rw [Heap.size_push, z2]
  have z4 : (zs4 s.heap x tk t).objs.size = s.heap.objs.size + 4 := by rw [Heap.size_push, z3]
  have g5 : (zs5 s.heap x tk t).get? (zs4 s.heap x tk t).objs.size = some _ := Heap.get?_push_size _ rfl
  have g4 : (zs5 s.heap x tk t).get? (zs3 s.heap x tk t).objs.size = some _ := Heap.get?_push_of_some _ (Heap.get?_push_size _ rfl)
  have g3 : (zs5 s.heap x tk t).get? (zs2 s.heap x tk t).objs.size = some _ := Heap.get?_push_of_some _ (Heap.get?_push_of_some _ (Heap.get?_push_size _ rfl))
  have g2 : (zs5 s.heap x tk t).get? (zs1 s.heap x tk).objs.size = some _ := Heap.get?_push_of_some _ (Heap.get?_push_of_some _ (Heap.get?_push_of_some _ (Heap.get?_push_size _ rfl)))
  have g1 : (zs5 s.heap x tk t).get? s.heap.objs.size = some _ := Heap.get?_push_of_some _ (Heap.get?_push_of_some _ (Heap.get?_push_of_some _ (Heap.get?_push_of_some _ (Heap.get?_push_size _ rfl))))
  show _ ∧ _
  rw [z2, z3, z4] at g5
  rw [z1, z2] at g3
  rw [z3] at g4
  rw [z1] at g2
  rw [z4]
  rw [hx] at g1
  exact ⟨⟨_, g5, rfl⟩, h _ ⟨g5, g3, ⟨_, _, g4⟩, ⟨_, g1, rfl, rfl⟩, ⟨_, g2, rfl, rfl⟩⟩ fun c o y => Heap.get?_push_of_some _ (Heap.get?_push_of_some _ (Heap.get?_push_of_some _ (Heap.get?_push_of_some _ (Heap.get?_push_of_some _ y))))⟩
section
variable {X : Cx} {G : Gam} {a b : Expr} {pos p : Pos}
def zipD (q : Nat × PyData) : PyData := .tuple [.str ⟨#[q.1]⟩, q.2]
theorem iv_zip {elts : List Expr} {x1} {tpos : Pos} {x : Str} {ds : List PyData} (ha : EV X G a (.str x)) (hb : EV X G b (.tuple ds)) (hx : strIterType x = asciiI) (hl : x.cps.size = ds.length) (hg : Gl X "zip") (hm : X.mg "zip" = none)
    (hs : starEach [a, b] X.env = [(false, eval a X.env), (false, eval b X.env)] := by rfl) (hs2 : starEach [b] X.env = [(false, eval b X.env)] := by rfl) :
    IV X G (.Tuple elts x1 tpos) (.Call (.Name "zip" p) [a, b] [] pos) ((x.cps.toList.zip ds).map zipD) := by
  intro pins s σ H R I ⟨h, q⟩
  refine Call_ (ld_blt I hg hm boot_zip (PyProof.Rows.callWith_type1 (thn (av_cons ha (av_cons hb av_nil hs2) (by rw [hs, hs2]) pos pins s σ H _ I ⟨h, fun vs H' s' dv => (⟨s', dv⟩ : Same H H' ∧ DVs X.K H' vs [.str x, .tuple ds])⟩) fun us s1 ⟨vs, H1, I1, r1, s1', dv⟩ => ?_) (by rw [hs, hs2]) (by rw [hs2]; rfl)))
  obtain ⟨v1, v2, rfl, d1, d2⟩ := dv.two
  cases d1.of_str
  obtain ⟨t, ys, rfl, hq, dys⟩ := d2.of_tup
  obtain ⟨u1, u2, rfl, ⟨tk, rfl⟩, ru2⟩ := vals2 r1
  cases ru2
  obtain ⟨its, rv, ht, _⟩ := I1.tuple hq
  refine call_zipST hx (show s1.heap.IsTuple t its.toArray from ht) fun g zt kk => ?_
  refine wpAny_pyIter_zip zt.1 ?_
  have I2 : Inv X pins σ H1 { s1 with heap := g } := I1.kept (t' := s1.toks) kk
  have sz : ∀ n, s1.heap.objs.size ≤ s1.heap.objs.size + n := fun n => Nat.le_add_right _ _
  refine ⟨_, _, _, _, H1, rfl, I2, turn_zip (K := X.K) (x := x) (t := t) (tk := tk) (z := s1.heap.objs.size + 4) (a := s1.heap.objs.size + 2) (b := s1.heap.objs.size + 3) (i := s1.heap.objs.size) (j := s1.heap.objs.size + 1) ⟨?_, ?_, ?_, ?_, ?_, ?_, ?_, ?_, ?_, ?_⟩, zt, fun c hc => ?_, q _ H1 s1' ⟨fun k H2 s2 hk => ?_, fun k H2 v H3 s2 hk ⟨r, c, y, hr, ev, eH, ec, ey⟩ => ?_, fun k H2 s2 hk => ?_⟩⟩
  all_goals first
    | exact Nat.ne_of_lt (Nat.add_lt_add_left (by decide) _)
    | exact Nat.ne_of_gt (Nat.add_lt_add_left (by decide) _)
    | exact Nat.ne_of_lt (Nat.lt_add_of_pos_right (by decide))
    | exact Nat.ne_of_gt (Nat.lt_add_of_pos_right (by decide))
    | skip
  · simp only [List.mem_cons, List.not_mem_nil, or_false] at hc
    rcases hc with rfl | rfl | rfl | rfl | rfl
    · exact I1.fpOk (sz 4) (I1.hok.fresh (sz 4))
    · exact I1.fpOk (sz 2) (I1.hok.fresh (sz 2))
    · exact I1.fpOk (sz 3) (I1.hok.fresh (sz 3))
    · exact I1.fpOk (Nat.le_refl _) (I1.hok.fresh (Nat.le_refl _))
    · exact I1.fpOk (sz 1) (I1.hok.fresh (sz 1))
  · have hk' : k < ds.length := by
      rw [List.length_map, List.length_zip, Array.length_toList, hl] at hk
      omega
    exact ⟨ys, s2.seqT hq, by rw [dys.length]; exact hk', by rw [hl]; exact hk'⟩
  · have hk' : k < ds.length := by
      rw [List.length_map, List.length_zip, Array.length_toList, hl] at hk
      omega
    subst ev eH
    have e1 := ey ys (s2.seqT hq)
    obtain ⟨d, e2, e3⟩ := dys.get' e1
    refine ⟨Same.new hr, zipD (c, d), ?_, .tup (SqT.of upd_same) (.cons (.str _) (.cons ((e3.mono s2).mono (Same.new hr)) .nil))⟩
    rw [List.getElem?_map, show (x.cps.toList.zip ds)[k]? = some (c, d) from by
      rw [List.getElem?_zip_eq_some]
      exact ⟨by simpa using ec, e2⟩]
    rfl
  · show x.cps.size ≤ k
    rw [List.length_map, List.length_zip, Array.length_toList, hl] at hk
    omega
end
end L2
namespace PySem.SeqAt
open AutoSeq1 (wpAny_loadPart')
open MeetsSeq MeetsSeq2 MeetsSeq3 SeqRoads2
end PySem.SeqAt
set_option maxRecDepth 100000
set_option maxHeartbeats 4000000
namespace L2
open PySem PySem.Spec PyProof.Rows
def GDict (K : PySem.W.Frag) (mg : Str → Option Value) (P : Params) (x : Str) (tab : List (Str × PyData)) : Prop :=
  ∃ (a : Addr) (es : Array DictEntry) (n : Nat), mg x = some (.ref a) ∧ K.lookup a = some ⟨.type "dict", none, .dict es n, #[]⟩ ∧ PySem.W.KeysLit P es.toList ∧ ∀ q ∈ tab, ∃ u v, PySem.W.nsIn K a q.1 = some (some u) ∧ RelV v u ∧ ∀ H, DV K H v q.2
theorem DVs.strs {K : PySem.W.Frag} {H : Hp} : ∀ (ss : List Str), DVs K H (ss.map V.str) (ss.map PyData.str)
  | [] => .nil
  | x :: r => .cons (.str x) (DVs.strs r)
section
variable {X : Cx} {G : Gam} {a b e : Expr} {pos p p2 : Pos} {d : PyData} {x : Str}
theorem ev_gdict {tab : List (Str × PyData)} {s : Str} (T : GDict X.K X.mg X.w.params x tab) (hg : Gl X x) (he : EV X G e (.str s)) (hs : (s, d) ∈ tab) (hp : PlainIx e := by intro _ _; rfl) (hd : (x == ("__debug__" : Str)) = false := by decide) : EV X G (.Subscript (.Name x p) e pos) d := by
  obtain ⟨ad, es, n, hm, hk, hl, ht⟩ := T
  obtain ⟨u, v, h1, h2, h3⟩ := ht _ hs
  have ir : IxR X (fun y z H Q => y = .ref ad ∧ z = .str s ∧ Q v H) := by
    intro value slice pins s1 σ H y z vy vz Q I ry rz ⟨e1, e2, q⟩ hsub
    subst e1 e2
    cases ry
    obtain ⟨t, rfl⟩ := rz
    have mo := PySem.W.mapOf_K (prog := X.prog) (w := X.w) I.kIn hk hl
    exact tail_any mo.typeIs slot_dict_getitem.lookup (wpAny_getItem_of (strKind_is X.prog X.w s t) mo (PySem.W.find_K hk h1) ⟨v, H, I.tok _, h2, q⟩) hsub
  exact (pe_ix ir (pe_glob (v := .ref ad) hg hm rfl hd) he hp).imp fun σ H Q ⟨h, q⟩ => ⟨h, fun y H1 s1 d1 => ⟨rfl, d1.of_str, q v H1 s1 (h3 H1)⟩⟩
end
end L2
set_option maxRecDepth 100000
set_option maxHeartbeats 4000000
namespace L2
open PySem PySem.Spec PyProof.Rows
def spFL (K : PySem.W.Frag) (F : List PyData → List PyData → Prop) : Sp := fun vs H Q _ => ∃ ds ws, DVs K H vs ds ∧ F ds ws ∧ ∀ p us H', H p = none → Same H H' → H' p = some (.lst us) → DVs K H' us ws → Q (.ref p) H'
def FFn (P : Program) (w : World) (K : PySem.W.Frag) (mg : Str → Option Value) (base : Heap) (k : Nat) (x : Str) (F : List PyData → List PyData → Prop) : Prop :=
  ∃ f fd ps, FnOk P w K mg base CX0 k f fd ps (spFL K F) ∧ mg x = some (.ref f) ∧ PySem.W.keepIn K (.ref f) = true ∧ Binds K fd ps []
theorem FFn.data {P : Program} {w : World} {K : PySem.W.Frag} {mg : Str → Option Value} {base : Heap} {k : Nat} {x : Str} {F : List PyData → List PyData → Prop} (h : FFn P w K mg base k x F) : DFn P w K mg base k x (fun ds d => ∃ ws, F ds ws ∧ d = .list ws) := by
  obtain ⟨f, fd, ps, ok, r⟩ := h
  exact ⟨f, fd, ps, ok.imp fun vs H Q E ⟨ds, d, h1, ⟨ws, h2, e⟩, q⟩ => ⟨ds, ws, h1, h2, fun p us H' hp s' hl dv => q _ H' s' (by rw [e]; exact .lst (SqL.of hl) dv)⟩, r⟩
section
variable {X : Cx} {G : Gam} {c e : Expr} {es : List Expr} {pos pos' pos2 : Pos} {ws : List PyData} {sts A B : List Stmt}
end
section
variable {P : Program} {w : World} {K : PySem.W.Frag} {mg : Str → Option Value} {base : Heap}
end
section
variable {X : Cx} {G G2 : Gam} {e : Expr} {es : List Expr} {pos pos' pos2 : Pos} {ws ds : List PyData} {sts : List Stmt} {i : Nat} {x y : Str}
def tDF (K : PySem.W.Frag) (G : Gam) (ws : List PyData) : TE := fun σ H Q => SD K H σ G ∧ ∀ p us H', H p = none → Same H H' → H' p = some (.lst us) → DVs K H' us ws → Q (.ref p) H'
abbrev EVF (X : Cx) (G : Gam) (e : Expr) (ws : List PyData) : Prop := PE X e (tDF X.K G ws)
end
section
variable {X : Cx} {G : Gam} {a : Expr} {pos : Pos} {da : PyData}
end
end L2
set_option maxRecDepth 100000
set_option maxHeartbeats 4000000
namespace L2
open PySem PySem.Spec PyProof.Rows
def valB : Value → PyData → Bool
  | .str x _, .str y => x == y
  | .int i _, .int j => i == j
  | _, _ => false
def tabB : List (Str × PyData) → List DictEntry → Bool
  | [], [] => true
  | q :: r, e :: es => e.key.isStr q.1 && valB e.val q.2 && tabB r es
  | _, _ => false
theorem str_of_isStr {v : Value} {s : Str} (h : v.isStr s = true) : ∃ t, v = .str s t := by
  cases v with
  | str x t => exact ⟨t, by rw [eq_of_beq (show (x == s) = true from h)]⟩
  | _ => cases h
theorem valB_rel {u : Value} {d : PyData} (h : valB u d = true) : ∃ v, RelV v u ∧ ∀ (K : PySem.W.Frag) H, DV K H v d := by
  cases u with
  | str x t => cases d with
    | str y => exact ⟨.str y, ⟨t, by rw [eq_of_beq (show (x == y) = true from h)]⟩, fun _ _ => .str y⟩
    | _ => cases h
  | int x t => cases d with
    | int y => exact ⟨.int y, ⟨t, by rw [eq_of_beq (show (x == y) = true from h)]⟩, fun _ _ => .int y⟩
    | _ => cases h
  | _ => cases h
theorem tabB_find : ∀ {tab : List (Str × PyData)} {es : List DictEntry}, tabB tab es = true → (tab.map (·.1)).Nodup → ∀ q ∈ tab, ∃ e, es.find? (·.key.isStr q.1) = some e ∧ valB e.val q.2 = true
  | [], [], _, _, q, hq => by cases hq
  | [], _ :: _, h, _, _, _ => by cases h
  | _ :: _, [], h, _, _, _ => by cases h
  | p :: r, e :: es, h, hn, q, hq => by
    have h := Bool.and_eq_true_iff.mp (show (e.key.isStr p.1 && valB e.val p.2 && tabB r es) = true from h)
    have h1 := Bool.and_eq_true_iff.mp h.1
    rw [List.map_cons, List.nodup_cons] at hn
    rcases List.mem_cons.mp hq with rfl | hq
    · exact ⟨e, by rw [List.find?_cons, h1.1], h1.2⟩
    · obtain ⟨e', f1, f2⟩ := tabB_find h.2 hn.2 q hq
      refine ⟨e', ?_, f2⟩
      have : e.key.isStr q.1 = false := by
        obtain ⟨t, e1⟩ := str_of_isStr h1.1
        rw [e1]
        refine beq_eq_false_iff_ne.mpr fun c => hn.1 ?_
        rw [c]
        exact List.mem_map.mpr ⟨q, hq, rfl⟩
      rw [List.find?_cons, this]
      exact f1
theorem gdict_mk {K : PySem.W.Frag} {mg : Str → Option Value} {h : Heap} {P : Params} (X : K.In h) (G : h.Ns mainGlobals mg) {x : Str} {tab : List (Str × PyData)} {a : Addr} {es : Array DictEntry} {n : Nat}
    (z : PySem.W.nsIn K mainGlobals x = some (some (.ref a))) (l : K.lookup a = some ⟨.type "dict", none, .dict es n, #[]⟩) (hk : PySem.W.KeysLit P es.toList) (ht : tabB tab es.toList = true) (hn : (tab.map (·.1)).Nodup) : GDict K mg P x tab :=
  ⟨a, es, n, PySem.W.mg_of X G z, l, hk, fun q hq => by
    obtain ⟨e, h1, h2⟩ := tabB_find ht hn q hq
    obtain ⟨v, r, d⟩ := valB_rel h2
    exact ⟨e.val, v, by unfold PySem.W.nsIn; rw [l]; simp only; rw [h1], r, fun H => d K H⟩⟩
end L2
set_option maxRecDepth 100000
set_option maxHeartbeats 4000000
namespace L2
open PySem PySem.Spec PyProof.Rows
def TabV (K : PySem.W.Frag) (H : Hp) : List (Key × V) → List (Str × PyData) → Prop
  | [], [] => True
  | kv :: r, q :: t => kv.1 = .inr q.1 ∧ DV K H kv.2 q.2 ∧ TabV K H r t
  | _, _ => False
mutual
def noK : PyData → Bool
  | .none => true
  | .bool _ => true
  | .int _ => true
  | .str _ => true
  | .tuple xs => noKs xs
  | .list xs => noKs xs
  | .dict _ => false
def noKs : List PyData → Bool
  | [] => true
  | x :: r => noK x && noKs r
end
theorem dict_ne {H : Hp} {p a : Addr} {kvs : List (Key × V)} {o : HO} (hp : H p = some (.dK kvs)) (e : H a = some o) (n : ∀ k, o ≠ .dK k) : a ≠ p := fun c => by subst c; rw [hp] at e; cases e; exact n _ rfl
mutual
theorem DV.noDict {K : PySem.W.Frag} {H H' : Hp} {p : Addr} {kvs : List (Key × V)} (hp : H p = some (.dK kvs)) (hH : ∀ a, a ≠ p → H' a = H a) : ∀ {v : V} {d : PyData}, DV K H v d → noK d = true → DV K H' v d
  | _, _, .non, _ => .non
  | _, _, .bl b, _ => .bl b
  | _, _, .int i, _ => .int i
  | _, _, .str x, _ => .str x
  | _, _, .tup (a := a) h t, f => by
    refine .tup ?_ (DVs.noDict hp hH t (by unfold noK at f; exact f))
    rcases h with (h | ⟨o, h⟩) | h
    · exact .inl (.inl (by rw [hH a (dict_ne hp h fun _ c => by cases c)]; exact h))
    · exact .inl (.inr ⟨o, by rw [hH a (dict_ne hp h fun _ c => by cases c)]; exact h⟩)
    · exact .inr h
  | _, _, .lst (a := a) h t, f => by
    refine .lst ?_ (DVs.noDict hp hH t (by unfold noK at f; exact f))
    rcases h with (h | ⟨o, h⟩) | h
    · exact .inl (.inl (by rw [hH a (dict_ne hp h fun _ c => by cases c)]; exact h))
    · exact .inl (.inr ⟨o, by rw [hH a (dict_ne hp h fun _ c => by cases c)]; exact h⟩)
    · exact .inr h
  | _, _, .dct h t, f => by unfold noK at f; cases f
  | _, _, .exc h, f => by unfold noK at f; cases f
  | _, _, .exr h h', f => by unfold noK at f; cases f
theorem DVs.noDict {K : PySem.W.Frag} {H H' : Hp} {p : Addr} {kvs : List (Key × V)} (hp : H p = some (.dK kvs)) (hH : ∀ a, a ≠ p → H' a = H a) : ∀ {v : List V} {d : List PyData}, DVs K H v d → noKs d = true → DVs K H' v d
  | _, _, .nil, _ => .nil
  | _, _, .cons h t, f => by
    unfold noKs at f
    rw [Bool.and_eq_true] at f
    exact .cons (DV.noDict hp hH h f.1) (DVs.noDict hp hH t f.2)
end
theorem TabV.noDict {K : PySem.W.Frag} {H H' : Hp} {p : Addr} {kvs : List (Key × V)} (hp : H p = some (.dK kvs)) (hH : ∀ a, a ≠ p → H' a = H a) : ∀ {r : List (Key × V)} {t : List (Str × PyData)}, TabV K H r t → (t.all fun q => noK q.2) = true → TabV K H' r t
  | [], [], _, _ => True.intro
  | _ :: _, q :: t, ⟨a, b, c⟩, f => by
    rw [List.all_cons, Bool.and_eq_true] at f
    exact ⟨a, b.noDict hp hH f.1, TabV.noDict hp hH c f.2⟩
  | [], _ :: _, h, _ => h
  | _ :: _, [], h, _ => h
theorem TabV.mono {K : PySem.W.Frag} {H H' : Hp} (e : Same H H') : ∀ {r : List (Key × V)} {t : List (Str × PyData)}, TabV K H r t → TabV K H' r t
  | [], [], _ => True.intro
  | _ :: _, _ :: _, ⟨a, b, c⟩ => ⟨a, b.mono e, TabV.mono e c⟩
  | [], _ :: _, h => h
  | _ :: _, [], h => h
theorem TabV.length {K : PySem.W.Frag} {H : Hp} : ∀ {r : List (Key × V)} {t : List (Str × PyData)}, TabV K H r t → r.length = t.length
  | [], [], _ => rfl
  | _ :: _, _ :: _, ⟨_, _, c⟩ => by rw [List.length_cons, List.length_cons, TabV.length c]
  | [], _ :: _, h => h.elim
  | _ :: _, [], h => h.elim
theorem TabV.keys {K : PySem.W.Frag} {H : Hp} : ∀ {r : List (Key × V)} {t : List (Str × PyData)}, TabV K H r t → r.map (·.1) = t.map fun q => .inr q.1
  | [], [], _ => rfl
  | _ :: _, _ :: _, ⟨a, _, c⟩ => by rw [List.map_cons, List.map_cons, TabV.keys c, a]
  | [], _ :: _, h => h.elim
  | _ :: _, [], h => h.elim
def tabGet (t : List (Str × PyData)) (s : Str) : Option PyData := (t.find? fun q => q.1 == s).map (·.2)
theorem TabV.val {K : PySem.W.Frag} {H : Hp} {s : Str} : ∀ {r : List (Key × V)} {t : List (Str × PyData)}, TabV K H r t → (∃ v d, valV r (.inr s) = some v ∧ tabGet t s = some d ∧ DV K H v d) ∨ (valV r (.inr s) = none ∧ tabGet t s = none)
  | [], [], _ => .inr ⟨rfl, rfl⟩
  | kv :: r, q :: t, ⟨a, b, c⟩ => by
    by_cases h : q.1 = s
    · refine .inl ⟨kv.2, q.2, valV_pos (by rw [a, h]), ?_, b⟩
      unfold tabGet
      rw [List.find?_cons, beq_iff_eq.mpr h]
      rfl
    · rw [valV_neg (by rw [a]; exact fun c => h (by cases c; rfl))]
      have : tabGet (q :: t) s = tabGet t s := by
        unfold tabGet
        rw [List.find?_cons, beq_eq_false_iff_ne.mpr h]
      rw [this]
      exact TabV.val c
  | [], _ :: _, h => h.elim
  | _ :: _, [], h => h.elim
section
variable {X : Cx} {G : Gam} {e f : Expr} {pos p p2 apos : Pos} {d d0 : PyData} {x : Str} {keys : List (Option Expr)} {values : List Expr} {tab : List (Str × PyData)}
end
end L2
set_option maxRecDepth 100000
set_option maxHeartbeats 4000000
namespace L2
open PySem PySem.Spec PyProof.Rows
section
variable {X : Cx} {G : Gam} {o e : Expr} {pos p p2 : Pos} {d : PyData} {x : Str}
end
end L2
set_option maxRecDepth 100000
set_option maxHeartbeats 1000000
namespace L2
open PySem PySem.Spec PyProof.Rows
section
variable {X : Cx} {G : Gam} {H0 : Hp} {p : Addr} {i j : Nat} {Pre Mid Post : Gam → List PyData → Prop} {a b e c : Expr} {es : List Expr} {pos pos' pos2 : Pos} {x : Str} {ws xs ys : List PyData} {d : PyData}
theorem hrs_out {sts : List Stmt} (h : ∀ G ds, Pre G ds → SVs X (plusL G i ds) sts (.ret d)) : HRs X H0 p i Pre sts (fun z => z = d) := by
  intro pins s σ H D I ⟨⟨G, ds, a, o⟩, q⟩
  refine h G ds a pins s σ H D I ⟨o.sd, fun v H' s' dv => q d v H' rfl ?_ dv⟩
  obtain ⟨Hb, vs, rfl, hn, s0, _⟩ := o
  exact (s0.trans (Same.new hn)).trans s'
theorem svs_own {sts : List Stmt} (hN : X.N.Nodup) (hi : X.N[i]? = some x) (hx : Loc X.env.scope x) (hG : i < G.length) (h : ∀ H0 p, HRs X H0 p i (fun G' ds => G' = G.set i none ∧ ds = []) sts (fun z => z = d))
    (hs : swapsWith (.List [] pos2) (some (.Name x pos')) pos.line X.env = pure false := by rfl) (hf : X.fn x = true ∨ X.env.scope.names.lookup x = some .local := by first | exact .inl rfl | exact .inr rfl | assumption) :
    SVs X G (.Assign [.Name x pos'] (.List [] pos2) pos :: sts) (.ret d) :=
  (rvs_own hN hi hx hG h hs hf).imp fun D σ H ⟨h, q⟩ => ⟨h, fun d' v H' e s dv => by subst e; exact q v H' s dv⟩
def rCatF (K : PySem.W.Frag) (xs ys : List PyData) : R2 := fun x y H Q => DV K H x (.list xs) ∧ DV K H y (.list ys) ∧ ∀ p us H', H p = none → Same H H' → H' p = some (.lst us) → DVs K H' us (xs ++ ys) → Q (.ref p) H'
theorem op_catF (hz : xs.length + ys.length ≤ sizeLine) : OpR X (binaryOp .Add) (rCatF X.K xs ys) := by
  intro pins s σ H x y v u Q I rx ry ⟨h1, h2, q⟩
  obtain ⟨l, us, rfl, hl, d1⟩ := h1.of_lst
  obtain ⟨m, ws, rfl, hm, d2⟩ := h2.of_lst
  cases rx
  cases ry
  obtain ⟨its, r, pl, _⟩ := I.list hl
  obtain ⟨its2, r2, pl2, _⟩ := I.list hm
  obtain ⟨⟨cls, dd, data, sl⟩, ho, hc, n, hd⟩ := pl.isList
  obtain ⟨⟨cls2, dd2, data2, sl2⟩, ho2, hc2, n2, hd2⟩ := pl2.isList
  simp only at hc hd hc2 hd2
  subst hc hd hc2 hd2
  have hn : its.toArray.size + its2.toArray.size ≤ sizeLine := by rw [List.size_toArray, List.size_toArray, ← r.length, ← r2.length, d1.length, d2.length]; exact hz
  refine concat_meets ⟨_, ho, rfl⟩ ⟨_, ho2, rfl⟩ noFill_list_add seq_list_add PySem.F.slot_list_add PySem.F.entry_list_add (PySem.F.args_list_add_2 _ _) (list_addW l m its.toArray its2.toArray n n2 dd dd2 sl sl2 hn) ⟨ho, ho2, ?_⟩
  have ea : its.toArray ++ its2.toArray = (its ++ its2).toArray := by simp
  rw [ea]
  have hf := I.hok.fresh (Nat.le_refl _)
  refine ⟨.ref s.heap.objs.size, _, I.laid (t' := s.toks) (o := .lst (us ++ ws)) (fun b o e => Heap.get?_push_of_some _ e) (Nat.le_refl _) ⟨by rw [List.length_append, d1.length, d2.length]; exact hz, its ++ its2, 0, r.append r2, Heap.get?_push_size _ rfl⟩, rfl, q _ (us ++ ws) _ hf (Same.new hf) upd_same ((d1.append d2).mono (Same.new hf))⟩
theorem evf_cat (ha : EV X G a (.list xs)) (hb : EV X G b (.list ys)) (hz : xs.length + ys.length ≤ sizeLine) : EVF X G (.BinOp a .Add b pos) (xs ++ ys) :=
  (pe_op (op_catF hz) ha hb).imp fun σ H Q ⟨h, k⟩ => tOp_D h fun x y H' s' d1 d2 => ⟨d1, d2, fun p us H2 hp s2 hl dv => k p us H2 (s'.free hp) (s'.trans s2) hl dv⟩
end
end L2
set_option maxRecDepth 100000
set_option maxHeartbeats 1000000
namespace L2
open PySem PySem.Spec PyProof.Rows
def hasK (es : List (PyData × PyData)) (k : Key) : Bool := es.any fun q => PyData.eqv q.1 (keyD k)
theorem keyD_eqv (a b : Key) : PyData.eqv (keyD a) (keyD b) = decide (a = b) := by
  cases a <;> cases b <;> simp [keyD, PyData.eqv] <;> (rw [Bool.eq_iff_iff]; simp)
theorem DVk.has {K : PySem.W.Frag} {H : Hp} {k : Key} : ∀ {kvs : List (Key × V)} {es : List (PyData × PyData)}, DVk K H kvs es → (valV kvs k).isSome = hasK es k
  | _, _, .nil => rfl
  | _, _, .cons (k := a) (x := x) (xs := xs) (ds := ds) h t => by
    have ih := DVk.has (k := k) t
    rw [← valV_any] at ih ⊢
    unfold hasK at ih ⊢
    rw [List.any_cons, List.any_cons, ih, keyD_eqv]
theorem DVk.length {K : PySem.W.Frag} {H : Hp} : ∀ {kvs : List (Key × V)} {es : List (PyData × PyData)}, DVk K H kvs es → kvs.length = es.length
  | _, _, .nil => rfl
  | _, _, .cons _ t => by rw [List.length_cons, List.length_cons, DVk.length t]
section
variable {X : Cx} {G : Gam} {H0 : Hp} {p : Addr} {i j : Nat} {a b e c : Expr} {pos pos' pos2 : Pos} {x : Str} {d : PyData} {es : List (PyData × PyData)}
end
mutual
theorem DVk.noDict {K : PySem.W.Frag} {H H' : Hp} {p : Addr} {kvs : List (Key × V)} (hp : H p = some (.dK kvs)) (hH : ∀ a, a ≠ p → H' a = H a) : ∀ {v : List (Key × V)} {d : List (PyData × PyData)}, DVk K H v d → (d.all fun q => noK q.2) = true → DVk K H' v d
  | _, _, .nil, _ => .nil
  | _, _, .cons h t, f => by
    rw [List.all_cons, Bool.and_eq_true] at f
    exact .cons (DV.noDict hp hH h f.1) (DVk.noDict hp hH t f.2)
end
abbrev plusD (G : Gam) (i : Nat) (es : List (PyData × PyData)) : Gam := G.set i (some (.dict es))
def ODt (K : PySem.W.Frag) (H0 : Hp) (p : Addr) (i : Nat) (G : Gam) (es : List (PyData × PyData)) (σ : St) (H : Hp) : Prop :=
  ∃ Hb kvs, H = upd Hb p (.dK kvs) ∧ Hb p = none ∧ Same H0 Hb ∧ SD K Hb σ G ∧ σ[i]? = some (some (.ref p)) ∧ DVk K Hb kvs es
theorem ODt.sd {K : PySem.W.Frag} {H0 : Hp} {p : Addr} {i : Nat} {G : Gam} {es : List (PyData × PyData)} {σ : St} {H : Hp} (h : ODt K H0 p i G es σ H) : SD K H σ (plusD G i es) := by
  obtain ⟨Hb, kvs, rfl, hn, s0, hσ, hi, dv⟩ := h
  have h1 := hσ.mono (Same.new (o := .dK kvs) hn)
  have h2 := h1.set (i := i) (v := .ref p) (d := .dict es) (.dct upd_same (dv.mono (Same.new hn)))
  have e : σ.set i (some (V.ref p)) = σ := by
    refine List.ext_getElem? fun j => ?_
    by_cases hj : i = j
    · subst hj
      rw [List.getElem?_set_self (List.getElem?_eq_some_iff.mp hi).1, hi]
    · rw [List.getElem?_set_ne hj]
  rw [e] at h2
  exact h2
theorem upd_deleO {H : Hp} {p : Addr} {o : HO} (h : H p = some o) : upd (dele H p) p o = H := by
  funext b
  by_cases hb : b = p
  · subst hb; rw [upd_same, h]
  · rw [upd_ne hb, dele_ne hb]
theorem ODt.step {K : PySem.W.Frag} {H0 : Hp} {p : Addr} {i : Nat} {G : Gam} {es : List (PyData × PyData)} {σ : St} {H H' : Hp} (h : ODt K H0 p i G es σ H) (s : Same H H') :
    ODt K H0 p i G es σ H' ∧ ∀ v d, DV K H' v d → noK d = true → ∃ Hb kvs, H' = upd Hb p (.dK kvs) ∧ Hb p = none ∧ Same H0 Hb ∧ SD K Hb σ G ∧ σ[i]? = some (some (.ref p)) ∧ DVk K Hb kvs es ∧ DV K Hb v d := by
  obtain ⟨Hb, kvs, rfl, hn, s0, hσ, hi, dv⟩ := h
  have hp : H' p = some (.dK kvs) := s p _ upd_same
  have sb : Same Hb (dele H' p) := fun b o e => by
    have hb : b ≠ p := ne_of_none e hn
    rw [dele_ne hb]
    exact s b o (by rw [upd_ne hb]; exact e)
  refine ⟨⟨dele H' p, kvs, (upd_deleO hp).symm, dele_same, s0.trans sb, hσ.mono sb, hi, dv.mono sb⟩, fun v d q f => ⟨dele H' p, kvs, (upd_deleO hp).symm, dele_same, s0.trans sb, hσ.mono sb, hi, dv.mono sb, DV.noDict hp (fun a ha => dele_ne ha) q f⟩⟩
section
variable {X : Cx} {H0 : Hp} {p : Addr} {i j : Nat} {Pre Mid Post PreA PreB : Gam → List (PyData × PyData) → Prop} {e c : Expr} {pos pos' pos2 : Pos} {x : Str}
variable {G : Gam} {d : PyData}
end
end L2
set_option maxRecDepth 100000
set_option maxHeartbeats 1000000
namespace L2
open PySem PySem.Spec PyProof.Rows
section
variable {X : Cx} {G : Gam} {H0 : Hp} {p : Addr} {i j : Nat} {Pre Mid Post : Gam → List PyData → Prop} {a b e c tg : Expr} {es : List Expr} {pos pos' pos2 : Pos} {x : Str} {ws xs ys : List PyData} {d : PyData} {R : PyData → Prop}
def bindN : List Nat → List PyData → Gam → Gam
  | i :: is, d :: ds, G => bindN is ds (G.set i (some d))
  | _, _, G => G
def bindT (is : List Nat) (d : PyData) (G : Gam) : Gam := match d with
  | .tuple ds => bindN is ds G
  | _ => G
def gNames : List Nat → TGs
  | [] => gNil
  | i :: is => gCons (gName i) (gNames is)
theorem bindN_to {K : PySem.W.Frag} {H : Hp} : ∀ (is : List Nat) (ds : List PyData) (vs : List V) (σ : St) (G : Gam) (Q : St → Hp → Prop), is.length = ds.length → SD K H σ G → DVs K H vs ds → (∀ σ2, SD K H σ2 (bindN is ds G) → Q σ2 H) → gNames is vs σ H Q
  | [], [], _, σ, G, Q, _, h, .nil, q => ⟨rfl, q σ h⟩
  | i :: is, d :: ds, _, σ, G, Q, hl, h, .cons (x := v) (xs := vs) dv t, q => ⟨v, vs, rfl, bindN_to is ds vs _ _ Q (Nat.succ.inj hl) (h.set dv) t q⟩
theorem bindDT {K : PySem.W.Frag} {k : Nat} (is : List Nat) (ds : List PyData) (hl : is.length = ds.length) : BindD K k (gTup K is.length (gNames is)) (bindT is) (.tuple ds) := ⟨fun v σ H G Q h dv q => by
  obtain ⟨l, us, rfl, hs, d1⟩ := dv.of_tup
  exact ⟨l, us, rfl, hs, by rw [d1.length, hl], bindN_to is ds us σ G Q hl h d1 q⟩⟩
theorem sv_asg {k : Nat} {g : TG} {B : PyData → Gam → Gam} {G1 : Gam} (he : EV X G e d) (hg : PG X tg g) (hb : BindD X.K k g B d) (hG : B d G = G1) (hs : swapsWithSole [tg] e pos.line X.env = pure false := by rfl) (hw : swappedStores [tg] e X.env = pure none := by rfl)
    (h1 : (assignEach [tg] X.env).map (·.2) = [assign tg X.env] := by rfl) : SV X G (.Assign [tg] e pos) (.next G1) := hG ▸
  (ps_asg he hg hs hw h1).imp fun D σ H ⟨h, q⟩ => ⟨h, fun v H1 s1 d1 => hb.to v σ H1 G _ (h.mono s1) d1 fun σ2 h2 => q σ2 H1 s1 h2⟩
theorem cd_min {i j : Int} (hc : X.calm = true) : CD X (.builtin "min") [.int i, .int j] (.int (if j < i then j else i)) := (call_min2 hc).imp fun xs H Q ⟨h, q⟩ => by
  obtain ⟨v, w, rfl, dv, dw⟩ := h.two
  exact ⟨i, j, by rw [dv.of_int, dw.of_int], q _ H (Same.refl H) (.int _)⟩
theorem hrs_outR {sts : List Stmt} (h : ∀ G ds, Pre G ds → ∃ d, R d ∧ SVs X (plusL G i ds) sts (.ret d)) : HRs X H0 p i Pre sts R := by
  intro pins s σ H D I ⟨⟨G, ds, a, o⟩, q⟩
  obtain ⟨d, r, hh⟩ := h G ds a
  refine hh pins s σ H D I ⟨o.sd, fun v H' s' dv => q d v H' r ?_ dv⟩
  obtain ⟨Hb, vs, rfl, hn, s0, _⟩ := o
  exact (s0.trans (Same.new hn)).trans s'
end
end L2
set_option maxRecDepth 100000
set_option maxHeartbeats 1000000
namespace L2
open PySem PySem.Spec PyProof.Rows
def TrAll {α : Type} (N : Nat) (R : α → Prop) : PySem.W.KasT α → Prop
  | .ret a => R a
  | .ask i j k => i < N ∧ j < N ∧ ∀ b, TrAll N R (k b)
theorem TrAll.imp {α : Type} {N : Nat} {R T : α → Prop} (m : ∀ a, R a → T a) : ∀ {t : PySem.W.KasT α}, TrAll N R t → TrAll N T t
  | .ret a, h => m a h
  | .ask i j k, ⟨a, b, h⟩ => ⟨a, b, fun c => TrAll.imp m (h c)⟩
theorem TrAll.bind {α β : Type} {N : Nat} {R : α → Prop} {T : β → Prop} {f : α → PySem.W.KasT β} (hf : ∀ a, R a → TrAll N T (f a)) : ∀ {t : PySem.W.KasT α}, TrAll N R t → TrAll N T (t.bind f)
  | .ret a, h => hf a h
  | .ask i j k, ⟨a, b, h⟩ => ⟨a, b, fun c => TrAll.bind hf (h c)⟩
def PmN (N : Nat) (p : Array Nat) : Prop := p.Perm (List.toArray (List.range N))
theorem PmN.lt {N : Nat} {p : Array Nat} (h : PmN N p) (hN : 0 < N) (i : Nat) : p.getD i 0 < N := by
  by_cases hi : i < p.size
  · have e : p.getD i 0 = p[i] := by simp [Array.getD, hi]
    rw [e]
    have : p[i] ∈ List.range N := by
      have := (Array.perm_iff_toList_perm.mp h).mem_iff (a := p[i])
      simpa using this.mp (by simp)
    exact List.mem_range.mp this
  · have e : p.getD i 0 = 0 := by simp [Array.getD, hi]
    rw [e]
    exact hN
section
variable {N : Nat} (hN : 0 < N)
include hN
end
section
variable {prog : Program} {w : World} {A : Around} {E : Value → Shared → Prop} {s : Shared}
end
end L2
set_option maxRecDepth 100000
set_option maxHeartbeats 1000000
namespace L2
open PySem PySem.Spec PyProof.Rows
theorem DVk.ints {K : PySem.W.Frag} {H : Hp} : ∀ {kvs : List (Key × V)} {es : List (PyData × PyData)}, DVk K H kvs es → (∀ q ∈ es, ∃ i j : Int, q = (.int i, .int j)) → ∀ {j : Nat} {q : Key × V}, kvs[j]? = some q → ∃ i v : Int, q = (.inl i, .int v) ∧ ((PyData.int i, PyData.int v) ∈ es)
  | _, _, .nil, _, _, _, h => by simp at h
  | _, _, .cons (k := k) (x := x) (d := d) (ds := ds) dv t, he, 0, q, h => by
    simp at h
    subst h
    obtain ⟨i, v, e⟩ := he _ (List.mem_cons_self ..)
    have e1 := (Prod.mk.inj e).1
    have e2 := (Prod.mk.inj e).2
    cases k with
    | inr s => cases e1
    | inl z =>
      cases e1
      subst e2
      exact ⟨i, v, by rw [dv.of_int], List.mem_cons_self ..⟩
  | _, _, .cons dv t, he, j + 1, q, h => by
    obtain ⟨i, v, h1, h2⟩ := DVk.ints t (fun q hq => he q (List.mem_cons_of_mem _ hq)) (j := j) (q := q) (by simpa using h)
    exact ⟨i, v, h1, List.mem_cons_of_mem _ h2⟩
section
variable {X : Cx} {G : Gam} {o : Expr} {pos p apos cpos : Pos} {es : List (PyData × PyData)}
end
end L2
set_option maxRecDepth 100000
set_option maxHeartbeats 1000000
namespace L2
open PySem PySem.Spec PyProof.Rows
section
variable {X : Cx} {H0 : Hp} {p : Addr} {i j : Nat} {Pre Mid Post PreA PreB : Gam → List (PyData × PyData) → Prop} {e c : Expr} {es : List Expr} {pos pos' pos2 p1 : Pos} {x : Str} {G : Gam} {d : PyData} {R : PyData → Prop} {Rs : List PyData → Prop} {ds : List PyData}
end
end L2
set_option maxRecDepth 100000
set_option maxHeartbeats 1000000
namespace L2
open PySem PySem.Spec PyProof.Rows
theorem notIn_map {prog : Program} {w : World} {A : Around} {E : Value → Shared → Prop} {s : Shared} {Kk : Type} [DecidableEq Kk] {knd : PySem.KeyKind prog w Kk} {d : Addr} {k : Kk} {key v : Value} {f : Kk → Option Value} {Q : Value → Shared → Prop} (hkey : knd.is k key = true) (hm : s.heap.MapOf knd d f) (hv : f k = some v)
    (h : Q (.bool false) { s with toks := s.toks + 1 }) : wpAny (model prog w) A (compareOp .NotIn key (.ref d)) Q E s := by
  show wpAny _ _ (do return .bool (!(← contains (.ref d) key))) Q E s
  refine wpAny_bind ?_
  unfold contains
  try with_reducible refine wpAny_holding ?_
  refine wpAny_bind (wpAny_specialOf hm.typeIs slot_dict_contains.lookup ?_)
  show wpAny _ _ (if (some (Value.builtin "dict.__contains__") == some Value.none) = true then _ else _) _ E s
  rw [if_neg (by rw [beq_builtin_none]; exact Bool.false_ne_true)]
  refine wpAny_bind (wpAny_callSpecialUnlessNone?_slot (name := Str.ofString "__contains__") hm.typeIs slot_dict_contains
    (wpAny_call_entry slot_dict_contains hm.typeIs entry_dict_contains ?_ (args_dict_contains _ _)))
  show wpAny _ _ (dictGet d key >>= _) _ _ s
  refine wpAny_bind (wpAny_dictGet_of hkey hm ?_)
  rw [hv]
  show wpAny _ _ (ret (.bool true)) _ _ _
  exact wpAny_pure ⟨_, rfl, wpAny_truthy_bool (wpAny_pure h)⟩
section
variable {X : Cx} {G : Gam} {a b e : Expr} {pos p p2 : Pos} {d : PyData} {x : Str}
theorem ev_gnotIn {tab : List (Str × PyData)} {s : Str} (T : GDict X.K X.mg X.w.params x tab) (hg : Gl X x) (he : EV X G e (.str s)) (hs : (s, d) ∈ tab) (hd : (x == ("__debug__" : Str)) = false := by decide) (hmk : behindInMarks .NotIn (.Name x p) = false := by with_unfolding_all rfl) : TV X G (.Compare e [.NotIn] [.Name x p] pos) false := by
  obtain ⟨ad, es, n, hm, hk, hl, ht⟩ := T
  obtain ⟨u, v, h1, h2, h3⟩ := ht _ hs
  have ir : OpR X (compareOp .NotIn) (fun y z H Q => y = .str s ∧ z = .ref ad ∧ Q (.bl false) H) := by
    intro pins s1 σ H y z vy vz Q I ry rz ⟨e1, e2, q⟩
    subst e1 e2
    cases rz
    obtain ⟨t, rfl⟩ := ry
    have mo := PySem.W.mapOf_K (prog := X.prog) (w := X.w) I.kIn hk hl
    exact notIn_map (strKind_is X.prog X.w s t) mo (PySem.W.find_K hk h1) ⟨.bl false, H, I.tok _, rfl, q⟩
  exact (pt_cmpR ir he (pe_glob (v := .ref ad) hg hm rfl hd) hmk).imp fun σ H Q ⟨h, q⟩ => ⟨h, fun y H1 s1 d1 => ⟨d1.of_str, rfl, false, rfl, q H1 s1⟩⟩
end
end L2
set_option maxRecDepth 100000
set_option maxHeartbeats 1000000
namespace L2
open PySem PySem.Spec PyProof.Rows
theorem draws_tup {prog : Program} {w : World} {A : Around} (hh : A.handled = none) (it t : Addr) (hne : t ≠ it) (its : Array Value) :
    PySem.Draws prog w A it [it, t] its.size (fun i v => its[i]? = some v) (fun i h => h.IsTupleIter it t i ∧ h.IsTuple t its) where
  live := fun _ _ st => let ⟨o, ho, _⟩ := st.1; ⟨o, ho⟩
  frame := fun _ _ _ st hk => by
    obtain ⟨⟨o, ho, r⟩, ⟨o2, ho2, r2⟩⟩ := st
    exact ⟨⟨o, hk it (by simp) o ho, r⟩, ⟨o2, hk t (by simp) o2 ho2, r2⟩⟩
  item := fun i s Q E hi st hQ => by
    refine next_tup st.1 st.2 (x := its[i]) (by simp [hi]) fun h' hit' hs' => ?_
    refine hQ _ h' s.toks (by simp [hi]) ⟨hit', ?_⟩ hs'
    obtain ⟨o2, ho2, r2⟩ := st.2
    exact ⟨o2, hs'.extBut _ _ hne ho2, r2⟩
  done := fun s Q E st hE => next_tup_end hh st.1 st.2 (by simp) hE
theorem enum_make (t : Addr) (ys : Array Value) : Meets (Builtin.«enumerate.__new__» ⟨[.type "enumerate", .ref t], []⟩) (fun _ R s => s.heap.IsTuple t ys ∧
      R (.ok (.ret (.ref (s.heap.push { cls := .type "tuple_iterator", data := .fields #[.ref t, .int 0 0] }).objs.size)))
        { s with heap := (s.heap.push { cls := .type "tuple_iterator", data := .fields #[.ref t, .int 0 0] }).push { cls := .type "enumerate", data := .fields #[.none, .bool false, .ref s.heap.objs.size, rawInt 0, .none, .none] } }) :=
  .of_wp fun prog w A R s h => by
    obtain ⟨hp, g, d, tk, os⟩ := s
    obtain ⟨ht, h⟩ := h
    have hsub := sub_enumerate
    obtain ⟨ol, hl, hc, n, hd⟩ := id ht
    wp_walk using wpAny_loadPart' hl
    refine wpAny_stack_any fun st => wpAny_pure ?_
    split
    · rename_i c _ _ _ _ _
      cases (c == Value.type "enumerate")
      · wp_walk using wpAny_loadPart' hl, wpAny_pyIter_tuple ht
        exact ⟨_, rfl, h⟩
      · wp_walk using wpAny_loadPart' hl, wpAny_pyIter_tuple ht
        exact ⟨_, rfl, h⟩
    · wp_walk using wpAny_loadPart' hl, wpAny_pyIter_tuple ht
      exact ⟨_, rfl, h⟩
def enumIt (K : PySem.W.Frag) (t : Addr) : It :=
  ⟨fun k H => ∃ ys, SqT K H t ys ∧ k < ys.length, fun k H v H' => ∃ p y, H p = none ∧ v = .ref p ∧ H' = upd H p (.tup [.int (k : Int), y]) ∧ ∀ ys, SqT K H t ys → ys[k]? = some y, fun k H => ∃ ys, SqT K H t ys ∧ ys.length ≤ k⟩
def ETn (e it t : Addr) (k : Nat) (h : Heap) : Prop := (∃ old, IsEnum h e it (k : Int) old) ∧ h.IsTupleIter it t k
theorem turn_enum {P : Program} {w : World} {K : PySem.W.Frag} {elts : List Expr} {x1} {tpos : Pos} {e it t : Addr} (D0 : e ≠ it) : Turn P w K (.Tuple elts x1 tpos) (enumIt K t) [e, it] e (ETn e it t) where
  mem := by simp
  obj := fun k h st c hc => by
    obtain ⟨⟨old, he⟩, ⟨o2, e2, _, d2⟩⟩ := st
    simp only [List.mem_cons, List.not_mem_nil, or_false] at hc
    rcases hc with rfl | rfl
    · exact ⟨_, he, fun v z => (by cases z)⟩
    · exact ⟨_, e2, fun v z => by rw [d2] at z; cases z⟩
  keep := fun k h h' st kk => by
    obtain ⟨⟨old, he⟩, ⟨o2, e2, r2⟩⟩ := st
    exact ⟨⟨old, kk e (by simp) _ he⟩, ⟨o2, kk it (by simp) _ e2, r2⟩⟩
  item := fun X eP eW eK hcalm k pins s σ H E I hf st go => by
    subst eP eW eK
    obtain ⟨ys, hq, hk⟩ := go
    obtain ⟨⟨old, he⟩, h2⟩ := st
    obtain ⟨its, rv, ht, hzz⟩ := I.tuple hq
    have te : t ≠ e := tup_apart I hq (hf e (by simp))
    have ti : t ≠ it := tup_apart I hq (hf it (by simp))
    have hy : ys[k]? = some ys[k] := List.getElem?_eq_getElem hk
    obtain ⟨u, eu, ru⟩ := rv.get hy
    have hki : k < its.toArray.size := by
      have := (List.getElem?_eq_some_iff.mp eu).1
      simpa using this
    have hp : H s.heap.objs.size = none := I.hok.fresh (Nat.le_refl _)
    have elt : e < s.heap.objs.size := Heap.lt_size he
    refine wpAny_pyNext_enum_itemD (draws_tup (A := X.A.in1) (I.ok.hd hcalm) it t ti its.toArray) he ⟨h2, ht⟩ hki D0 (by simp [D0, te.symm]) fun x h' tk hx ho hs' hT hsz hk' => ⟨_, rfl, ?_⟩
    have ex : x = u := by
      have : its.toArray[k]? = some u := by simpa using eu
      rw [this] at hx
      exact (Option.some.inj hx).symm
    subst ex
    refine wpAny_letOwnedTupleGo_enum ho fun g' z' s' => ?_
    have k' : ∀ c o, c ∉ [e, it] → s.heap.get? c = some o → g'.get? c = some o := fun c o hc e1 => by
      simp only [List.mem_cons, List.not_mem_nil, or_false, not_or] at hc
      exact s'.extBut _ _ hc.1 (hk' c o hc.1 hc.2 e1)
    have i' : g'.IsTupleIter it t (k + 1) := by
      obtain ⟨o, e1, r⟩ := hs'.1
      exact ⟨o, s'.extBut _ _ D0.symm e1, r⟩
    have z2 : IsEnum g' e it (((k + 1 : Nat) : Int)) x := z'
    have I1 : Inv X pins σ (upd H s.heap.objs.size (.tup [.int (k : Int), ys[k]])) { s with heap := g', toks := tk + 1 } := I.turnedNew (ch := [e, it]) hf k' (fun c hc => by
      simp only [List.mem_cons, List.not_mem_nil, or_false] at hc
      rcases hc with rfl | rfl
      · exact ⟨_, z2⟩
      · exact ⟨_, i'.choose_spec.1⟩) (Nat.le_refl _) (us := [.int (k : Int) tk, x]) (.cons ⟨_, rfl⟩ (.cons ru .nil)) (by rw [sizeLine_eq]; show 2 ≤ 16777216; decide) ⟨_, s'.extBut _ _ (Nat.ne_of_gt elt) hT, rfl, _, rfl⟩
    refine ⟨.ref s.heap.objs.size, _, I1, rfl, ⟨_, ys[k], hp, rfl, rfl, fun zs hzs => ?_⟩, ⟨⟨_, z2⟩, i'⟩, fun c hc => ?_⟩
    · rw [I.tuple_inj hzs hq]; exact hy
    · have hcn := (hf c hc).1
      have : c ≠ s.heap.objs.size := fun ec => by
        obtain ⟨o, eo⟩ : ∃ o, s.heap.get? c = some o := by
          simp only [List.mem_cons, List.not_mem_nil, or_false] at hc
          rcases hc with rfl | rfl
          · exact ⟨_, he⟩
          · exact ⟨_, h2.choose_spec.1⟩
        exact absurd (Heap.lt_size eo) (by rw [ec]; exact Nat.lt_irrefl _)
      rw [upd_ne this]; exact hcn
  done := fun X eP eW eK hcalm k pins s σ H E I hf st stp => by
    subst eP eW eK
    obtain ⟨⟨old, he⟩, h2⟩ := st
    obtain ⟨ys, hq, hk⟩ := stp
    obtain ⟨its, rv, ht, hzz⟩ := I.tuple hq
    have hT : s.TypeIs (.ref e) "enumerate" := ⟨_, he, rfl⟩
    unfold pyNext
    refine wpAny_bind (wpAny_attempt (wpAny_callSpecial?_slot (name := Str.ofString "__next__") hT F.slot_enumerate_next
      (wpAny_call_entry F.slot_enumerate_next hT F.entry_enumerate_next ?_ (F.args_enumerate_next_1 _))))
    show wpAny _ _ (field (.ref e) 2 >>= _) _ _ _
    refine wpAny_bind (wpAny_field he rfl (x := .ref it) rfl ?_)
    refine wpAny_bind (next_tup_end (A := X.A.in1) (I.ok.hd hcalm) h2 ht (by rw [Array.getElem?_eq_none]; simp [← rv.length]; exact hk) fun g x kk hx => ?_)
    obtain ⟨o, ho, hc⟩ := hx
    refine wpAny_bind (wpAny_isInstance (T := "StopIteration") (b := true) ⟨o, ho, hc⟩ isSubtype_stop (wpAny_pure ⟨rfl, ?_⟩))
    refine I.turnedMany (t' := s.toks) (ch := [it]) (fun c hc => hf c ?_) fun c o hc e => ?_
    · have := List.mem_singleton.mp hc
      subst this
      simp
    · exact kk c o (fun z => hc (by rw [z]; simp)) e
  self := fun A k s Q E st hQ => by
    obtain ⟨⟨old, he⟩, _⟩ := st
    exact wpAny_pyIter_enum he hQ
end L2
set_option maxRecDepth 100000
set_option maxHeartbeats 1000000
namespace L2
open PySem PySem.Spec PyProof.Rows
theorem call_enumT {prog : Program} {w : World} {A : Around} {E : Value → Shared → Prop} {s : Shared} {t : Addr} {ys : Array Value} {Q : Value → Shared → Prop} (ht : s.heap.IsTuple t ys)
    (h : ∀ g, ETn (s.heap.objs.size + 1) s.heap.objs.size t 0 g → (∀ c o, s.heap.get? c = some o → g.get? c = some o) → Q (.ref (s.heap.objs.size + 1)) { s with heap := g }) :
    wpAny (model prog w) A (call (.type "enumerate") [.ref t]) Q E s := by
  refine callType_new PySem.F.called_enumerate (by decide) (PySem.F.typeCall_enumerate_1 _) (PySem.F.newCall_enumerate_1 _) (fun obj => PySem.F.args_object_init_2 obj _) PySem.F.entry_enumerate_new (enum_make t ys) ⟨ht, ?_⟩
  have z1 : (s.heap.push { cls := .type "tuple_iterator", data := .fields #[.ref t, .int 0 0] }).objs.size = s.heap.objs.size + 1 := Heap.size_push ..
  have g2 : ((s.heap.push { cls := .type "tuple_iterator", data := .fields #[.ref t, .int 0 0] }).push { cls := .type "enumerate", data := .fields #[.none, .bool false, .ref s.heap.objs.size, rawInt 0, .none, .none] }).get? (s.heap.push { cls := .type "tuple_iterator", data := .fields #[.ref t, .int 0 0] }).objs.size = some _ := Heap.get?_push_size _ rfl
  have g1 : ((s.heap.push { cls := .type "tuple_iterator", data := .fields #[.ref t, .int 0 0] }).push { cls := .type "enumerate", data := .fields #[.none, .bool false, .ref s.heap.objs.size, rawInt 0, .none, .none] }).get? s.heap.objs.size = some _ := Heap.get?_push_of_some _ (Heap.get?_push_size _ rfl)
  show _ ∧ _
  rw [z1] at g2
  rw [z1]
  exact ⟨⟨_, g2, rfl⟩, h _ ⟨⟨_, g2⟩, ⟨_, g1, rfl, rfl⟩⟩ fun c o y => Heap.get?_push_of_some _ (Heap.get?_push_of_some _ y)⟩
section
variable {X : Cx} {G : Gam} {a : Expr} {pos p : Pos}
def enumD (q : Nat × PyData) : PyData := .tuple [.int (q.1 : Int), q.2]
theorem iv_enum {elts : List Expr} {x1} {tpos : Pos} {ds : List PyData} (ha : EV X G a (.tuple ds)) (hg : Gl X "enumerate") (hm : X.mg "enumerate" = none) (hs : starEach [a] X.env = [(false, eval a X.env)] := by rfl) :
    IV X G (.Tuple elts x1 tpos) (.Call (.Name "enumerate" p) [a] [] pos) (((List.range ds.length).zip ds).map enumD) := by
  intro pins s σ H R I ⟨h, q⟩
  refine Call_ (ld_blt I hg hm boot_enumerate (PyProof.Rows.callWith_type1 (thn (av_cons ha av_nil (by rw [hs]; rfl) pos pins s σ H _ I ⟨h, fun vs H' s' dv => (⟨s', dv⟩ : Same H H' ∧ DVs X.K H' vs [.tuple ds])⟩) fun us s1 ⟨vs, H1, I1, r1, s1', dv⟩ => ?_) (by rw [hs]; rfl) rfl))
  obtain ⟨v1, rfl, d1⟩ := dv.one
  obtain ⟨t, ys, rfl, hq, dys⟩ := d1.of_tup
  obtain ⟨u1, rfl, ru⟩ := vals1 r1
  cases ru
  obtain ⟨its, rv, ht, _⟩ := I1.tuple hq
  refine call_enumT (show s1.heap.IsTuple t its.toArray from ht) fun g zt kk => ?_
  obtain ⟨⟨old, he⟩, hit⟩ := id zt
  refine wpAny_pyIter_enum he ?_
  have I2 : Inv X pins σ H1 { s1 with heap := g } := I1.kept (t' := s1.toks) kk
  have sz : ∀ n, s1.heap.objs.size ≤ s1.heap.objs.size + n := fun n => Nat.le_add_right _ _
  have hlen : (((List.range ds.length).zip ds).map enumD).length = ds.length := by simp
  refine ⟨_, _, _, _, H1, rfl, I2, turn_enum (K := X.K) (t := t) (e := s1.heap.objs.size + 1) (it := s1.heap.objs.size) (Nat.ne_of_gt (Nat.lt_succ_self _)), zt, fun c hc => ?_, q _ H1 s1' ⟨fun k H2 s2 hk => ?_, fun k H2 v H3 s2 hk ⟨r, y, hr, ev, eH, ey⟩ => ?_, fun k H2 s2 hk => ?_⟩⟩
  · simp only [List.mem_cons, List.not_mem_nil, or_false] at hc
    rcases hc with rfl | rfl
    · exact I1.fpOk (sz 1) (I1.hok.fresh (sz 1))
    · exact I1.fpOk (Nat.le_refl _) (I1.hok.fresh (Nat.le_refl _))
  · exact ⟨ys, s2.seqT hq, by rw [dys.length, ← hlen]; exact hk⟩
  · subst ev eH
    have e1 := ey ys (s2.seqT hq)
    obtain ⟨d, e2, e3⟩ := dys.get' e1
    refine ⟨Same.new hr, enumD (k, d), ?_, .tup (SqT.of upd_same) (.cons (.int _) (.cons ((e3.mono s2).mono (Same.new hr)) .nil))⟩
    rw [List.getElem?_map, show ((List.range ds.length).zip ds)[k]? = some (k, d) from by
      rw [List.getElem?_zip_eq_some]
      have hkl : k < ds.length := by rw [← hlen]; exact hk
      exact ⟨by simp [hkl], e2⟩]
    rfl
  · exact ⟨ys, s2.seqT hq, by rw [dys.length, ← hlen]; exact hk⟩
end
theorem ins_ne {H : Hp} {p a : Addr} {C dx : Addr} {fs : List (Str × V)} {o : HO} (hp : H p = some (.ins C dx fs)) (e : H a = some o) (n : ∀ C dx fs, o ≠ .ins C dx fs) : a ≠ p := fun c => by subst c; rw [hp] at e; cases e; exact n _ _ _ rfl
mutual
theorem DV.upIns {K : PySem.W.Frag} {H H' : Hp} {p : Addr} {C dx : Addr} {fs : List (Str × V)} (hp : H p = some (.ins C dx fs)) (hH : ∀ a, a ≠ p → H' a = H a) : ∀ {v : V} {d : PyData}, DV K H v d → DV K H' v d
  | _, _, .non => .non
  | _, _, .bl b => .bl b
  | _, _, .int i => .int i
  | _, _, .str x => .str x
  | _, _, .tup (a := a) h t => by
    refine .tup ?_ (DVs.upIns hp hH t)
    rcases h with (h | ⟨o, h⟩) | h
    · exact .inl (.inl (by rw [hH a (ins_ne hp h fun _ _ _ c => by cases c)]; exact h))
    · exact .inl (.inr ⟨o, by rw [hH a (ins_ne hp h fun _ _ _ c => by cases c)]; exact h⟩)
    · exact .inr h
  | _, _, .lst (a := a) h t => by
    refine .lst ?_ (DVs.upIns hp hH t)
    rcases h with (h | ⟨o, h⟩) | h
    · exact .inl (.inl (by rw [hH a (ins_ne hp h fun _ _ _ c => by cases c)]; exact h))
    · exact .inl (.inr ⟨o, by rw [hH a (ins_ne hp h fun _ _ _ c => by cases c)]; exact h⟩)
    · exact .inr h
  | _, _, .dct (a := a) h t => .dct (by rw [hH a (ins_ne hp h fun _ _ _ c => by cases c)]; exact h) (DVk.upIns hp hH t)
  | _, _, .exc (a := a) h => .exc (by rw [hH a (ins_ne hp h fun _ _ _ c => by cases c)]; exact h)
  | _, _, .exr (a := a) (dx := dx) h h' => .exr (by rw [hH a (ins_ne hp h fun _ _ _ c => by cases c)]; exact h) (by rw [hH dx (ins_ne hp h' fun _ _ _ c => by cases c)]; exact h')
theorem DVs.upIns {K : PySem.W.Frag} {H H' : Hp} {p : Addr} {C dx : Addr} {fs : List (Str × V)} (hp : H p = some (.ins C dx fs)) (hH : ∀ a, a ≠ p → H' a = H a) : ∀ {v : List V} {d : List PyData}, DVs K H v d → DVs K H' v d
  | _, _, .nil => .nil
  | _, _, .cons h t => .cons (DV.upIns hp hH h) (DVs.upIns hp hH t)
theorem DVk.upIns {K : PySem.W.Frag} {H H' : Hp} {p : Addr} {C dx : Addr} {fs : List (Str × V)} (hp : H p = some (.ins C dx fs)) (hH : ∀ a, a ≠ p → H' a = H a) : ∀ {v : List (Key × V)} {d : List (PyData × PyData)}, DVk K H v d → DVk K H' v d
  | _, _, .nil => .nil
  | _, _, .cons h t => .cons (DV.upIns hp hH h) (DVk.upIns hp hH t)
end
theorem SD.upIns {K : PySem.W.Frag} {H H' : Hp} {p : Addr} {C dx : Addr} {fs : List (Str × V)} {σ : St} {G : Gam} (h : SD K H σ G) (hp : H p = some (.ins C dx fs)) (hH : ∀ a, a ≠ p → H' a = H a) : SD K H' σ G := ⟨h.1, fun i d z => let ⟨v, a, b⟩ := h.2 i d z; ⟨v, a, b.upIns hp hH⟩⟩
end L2
set_option maxRecDepth 100000
set_option maxHeartbeats 1000000
namespace L2
open PySem PySem.Spec PyProof.Rows
section
variable {P : Program} {w : World} {K : PySem.W.Frag} {mg : Str → Option Value} {base : Heap}
end
section
variable {X : Cx} {G : Gam} {e : Expr} {pos pos' pos2 : Pos} {x f : Str} {d : PyData}
def Flds (K : PySem.W.Frag) (H : Hp) (fs : List (Str × V)) (fd : List (Str × PyData)) : Prop := ∀ q ∈ fd, ∃ v, fs.lookup q.1 = some v ∧ DV K H v q.2
structure OI (K : PySem.W.Frag) (a C dx : Addr) (H0 : Hp) (n : Nat) (fd : List (Str × PyData)) (σ : St) (G : Gam) (fs : List (Str × V)) (H : Hp) : Prop where
  slot : σ[0]? = some (some (.ref a))
  obj : H a = some (.ins C dx fs)
  sd : SD K H σ G
  keep : ∀ b, b ≠ a → ∀ o, H0 b = some o → H b = some o
  flds : Flds K H fs fd
  few : fs.length ≤ n
theorem OI.step {K : PySem.W.Frag} {a C dx : Addr} {H0 : Hp} {n : Nat} {fd : List (Str × PyData)} {σ : St} {fs : List (Str × V)} {H H' : Hp} (o : OI K a C dx H0 n fd σ G fs H) (s : Same H H') : OI K a C dx H0 n fd σ G fs H' :=
  ⟨o.slot, s _ _ o.obj, o.sd.mono s, fun b hb u e => s _ _ (o.keep b hb u e), fun q hq => let ⟨v, h1, h2⟩ := o.flds q hq; ⟨v, h1, h2.mono s⟩, o.few⟩
def tOI (K : PySem.W.Frag) (a C dx : Addr) (H0 : Hp) (G : Gam) (n : Nat) (fd : List (Str × PyData)) (n' : Nat) (fd' : List (Str × PyData)) : TS := fun D σ H => (∃ fs, OI K a C dx H0 n fd σ G fs H) ∧ ∀ fs' H', OI K a C dx H0 n' fd' σ G fs' H' → D.nx σ H'
theorem ps_fldD {a C dx : Addr} {H0 : Hp} {n : Nat} {fd : List (Str × PyData)} (cl : Cls X.K C) (na : NoAttr X.K C f) (hv : PE X (.Name x pos2) (tVar 0)) (h : EV X G e d) (hn : n < 900) (hf : ∀ q ∈ fd, q.1 ≠ f)
    (hs : swapsWith e (some (.Attribute (.Name x pos2) f pos')) pos.line X.env = pure false := by rfl) : PS X (.Assign [.Attribute (.Name x pos2) f pos'] e pos) (tOI X.K a C dx H0 G n fd (n + 1) ((f, d) :: fd)) := by
  intro pins s σ H D I ⟨⟨fs, o⟩, q⟩
  refine ps_fld hv h hs pins s σ H D I ⟨o.sd, fun y H1 s1 d1 => ⟨.ref a, o.slot, a, C, dx, fs, rfl, s1 _ _ o.obj, cl, na, by have := o.few; omega, ?_⟩⟩
  have o1 := o.step s1
  have hne : ∀ b, b ≠ a → upd H1 a (.ins C dx (putF f y fs)) b = H1 b := fun b hb => upd_ne hb
  refine q _ _ ⟨o.slot, upd_same, o1.sd.upIns o1.obj hne, fun b hb u e => (hne b hb).trans (o1.keep b hb u e), fun z hz => ?_, ?_⟩
  · rcases List.mem_cons.mp hz with rfl | hz
    · exact ⟨y, by rw [lookup_putF, if_pos rfl], d1.upIns o1.obj hne⟩
    · obtain ⟨v, h1, h2⟩ := o1.flds z hz
      exact ⟨v, by rw [lookup_putF, if_neg (hf z hz)]; exact h1, h2.upIns o1.obj hne⟩
  · exact Nat.le_trans (length_putF _ _ _) (Nat.succ_le_succ o.few)
theorem ps_exprD {a C dx : Addr} {H0 : Hp} {n : Nat} {fd : List (Str × PyData)} (h : EV X G e d) (hs : swapsWith e none pos.line X.env = pure false := by rfl) : PS X (.Expr e pos) (tOI X.K a C dx H0 G n fd n fd) := by
  intro pins s σ H D I ⟨⟨fs, o⟩, q⟩
  exact ps_expr h hs pins s σ H D I ⟨o.sd, fun v H' s' _ => q fs H' (o.step s')⟩
end
end L2
set_option maxRecDepth 100000
set_option maxHeartbeats 1000000
namespace L2
open PySem PySem.Spec PyProof.Rows
section
variable {X : Cx}
end
end L2
namespace L2
open PySem PySem.Spec PyProof.Rows
theorem star_constant {c j pos} {es : List Expr} {env : Env} : starEach (.Constant c j pos :: es) env = (false, eval (.Constant c j pos) env) :: starEach es env := rfl
theorem star_tuple {a j pos} {es : List Expr} {env : Env} : starEach (.Tuple a j pos :: es) env = (false, eval (.Tuple a j pos) env) :: starEach es env := rfl
theorem star_name {a pos} {es : List Expr} {env : Env} : starEach (.Name a pos :: es) env = (false, eval (.Name a pos) env) :: starEach es env := rfl
theorem star_binop {a b c pos} {es : List Expr} {env : Env} : starEach (.BinOp a b c pos :: es) env = (false, eval (.BinOp a b c pos) env) :: starEach es env := rfl
theorem star_unaryop {a b pos} {es : List Expr} {env : Env} : starEach (.UnaryOp a b pos :: es) env = (false, eval (.UnaryOp a b pos) env) :: starEach es env := rfl
theorem star_compare {a b c pos} {es : List Expr} {env : Env} : starEach (.Compare a b c pos :: es) env = (false, eval (.Compare a b c pos) env) :: starEach es env := rfl
theorem star_subscript {a b pos} {es : List Expr} {env : Env} : starEach (.Subscript a b pos :: es) env = (false, eval (.Subscript a b pos) env) :: starEach es env := rfl
theorem star_call {a b c pos} {es : List Expr} {env : Env} : starEach (.Call a b c pos :: es) env = (false, eval (.Call a b c pos) env) :: starEach es env := rfl
section
variable {X : Cx} {G : Gam} {i : Nat} {x : Str} {es : List Expr} {pos pos' pos2 : Pos} {sts : List Stmt} {o : Out} {ds : List PyData}
theorem av_str {c : Str} {j : Nat} (h : AV X G es ds) : AV X G (.Constant (.str c) j pos :: es) (.str c :: ds) := av_cons ev_str h star_constant
end
end L2
set_option maxRecDepth 100000
set_option maxHeartbeats 1000000
namespace L2
open PySem PySem.Spec PyProof.Rows
section
variable {X : Cx} {G G2 : Gam} {H0 : Hp} {p : Addr} {i j : Nat} {Pre Mid Post : Gam → List PyData → Prop} {a b e c iter : Expr} {es : List Expr} {pos pos' pos2 pos3 : Pos} {x : Str} {ws xs ys ds : List PyData} {d : PyData} {sts A B : List Stmt}
theorem tv_chainB {a b c : Expr} {da db dc : PyData} {op op' : CmpOp} {k k' : Bool} (ho : OD X (compareOp op) da db (.bool k)) (ho' : OD X (compareOp op') db dc (.bool k')) (ha : EV X G a da) (hb : EV X G b db) (hc : EV X G c dc)
    (hm : lastMarks [op, op'] [b, c] = false := by with_unfolding_all rfl) : TV X G (.Compare a [op, op'] [b, c] pos) (k && k') := by
  refine (pt_chain ho ho' ha hb hc hm).imp fun σ H Q ⟨h, q⟩ => ⟨h, fun x H1 s1 d1 => ⟨h.mono s1, fun y H2 s2 d2 => ⟨d1.mono s2, d2, fun v H3 s3 d3 => ⟨k, d3.of_bl, ?_⟩⟩⟩⟩
  cases k with
  | true =>
    simp only [if_true]
    exact ⟨((h.mono s1).mono s2).mono s3, fun z H4 s4 d4 => ⟨(d2.mono s3).mono s4, d4, fun v H5 s5 d5 => ⟨k', d5.of_bl, q H5 ((((s1.trans s2).trans s3).trans s4).trans s5)⟩⟩⟩
  | false =>
    simp only [Bool.false_eq_true, if_false]
    exact ⟨false, rfl, q H3 ((s1.trans s2).trans s3)⟩
theorem sv_forRet {α : Type} {as : List α} {D : α → PyData} {tg : Expr} {body : List Stmt} {k : Nat} {g : TG} {B : PyData → Gam → Gam} (J : Nat → Gam) (j : Nat) {a0 : α} (hj : as[j]? = some a0) (hp : PassesOwn (model X.prog X.w) X.A X.env X.xe) (hcalm : X.calm = true) (hi : IV X (J 0) tg iter (as.map D)) (hg : PG X tg g) (hb : ∀ a ∈ as, BindD X.K k g B (D a))
    (hs : ∀ (i : Nat) a, i < j → as[i]? = some a → SVs X (B (D a) (J i)) body (.next (J (i + 1)))) (hr : SVs X (B (D a0) (J j)) body (.ret d)) (hfs : ∀ x, foldedSetIterable iter X.env x = pure x := by intro _; rfl) : SV X (J 0) (.For tg iter body [] pos) (.ret d) := by
  have hbody : PSs X body (fun Dn σ H => ∃ p : Nat × α, as[p.1]? = some p.2 ∧ ((p.1 < j ∧ tDS X.K (B (D p.2) (J p.1)) (.next (J (p.1 + 1))) Dn σ H) ∨ (p.1 = j ∧ tDS X.K (B (D p.2) (J p.1)) (.ret d) Dn σ H))) := by
    intro pins s σ H Dn I ⟨p, hp, q⟩
    rcases q with ⟨hl, q⟩ | ⟨e, q⟩
    · exact hs p.1 p.2 hl hp pins s σ H Dn I q
    · obtain ⟨pi, pa⟩ := p
      simp only at e hp q
      subst e
      rw [hj] at hp
      cases hp
      exact hr pins s σ H Dn I q
  have hjl : j < as.length := (List.getElem?_eq_some_iff.mp hj).1
  refine (ps_for hp hcalm hi hg hbody hfs).imp fun Dn σ H ⟨h, q⟩ => ⟨h, fun It0 H1 s1 hJ => ?_⟩
  refine ⟨fun i m σ H => i ≤ j ∧ m = j - i ∧ Same H1 H ∧ SD X.K H σ (J i), ⟨_, Nat.zero_le _, rfl, Same.refl _, h.mono s1⟩, ?_⟩
  rintro i m σ H ⟨hi, rfl, sm, hσ⟩
  have hlt : i < as.length := Nat.lt_of_le_of_lt hi hjl
  have ea : as[i]? = some as[i] := List.getElem?_eq_getElem hlt
  have key : ∀ v H', It0.yld i H v H' → Same H H' ∧ DV X.K H' v (D as[i]) := fun v H' y => by
    obtain ⟨s2, d, ed, dv⟩ := hJ.yld i H v H' sm (by rw [List.length_map]; exact hlt) y
    have ed' : d = D as[i] := by
      rw [List.getElem?_map, ea] at ed
      exact (Option.some.inj ed).symm
    subst ed'
    exact ⟨s2, dv⟩
  by_cases hij : i < j
  · refine .inr ⟨hJ.go i H sm (by rw [List.length_map]; exact hlt), fun σ' H' => Same H1 H' ∧ SD X.K H' σ' (J (i + 1)), fun σ' H' ⟨a, b⟩ => ⟨j - (i + 1), by omega, hij, rfl, a, b⟩, fun v H' y => ?_⟩
    obtain ⟨s2, dv⟩ := key v H' y
    refine (hb _ (List.getElem_mem hlt)).to v _ H' _ _ (hσ.mono s2) dv fun σ2 h2 => ⟨(i, as[i]), ea, .inl ⟨hij, h2, fun σ3 H3 s3 h3 => ⟨(sm.trans s2).trans s3, h3⟩⟩⟩
  · have e : i = j := by omega
    refine .inr ⟨hJ.go i H sm (by rw [List.length_map]; exact hlt), fun _ _ => False, fun _ _ z => z.elim, fun v H' y => ?_⟩
    obtain ⟨s2, dv⟩ := key v H' y
    exact (hb _ (List.getElem_mem hlt)).to v _ H' _ _ (hσ.mono s2) dv fun σ2 h2 => ⟨(i, as[i]), ea, .inr ⟨e, h2, fun w H3 s3 h3 => q w H3 (((s1.trans sm).trans s2).trans s3) h3⟩⟩
theorem evf_listT (ha : EV X G a (.tuple ds)) (hg : Gl X "list") (hm : X.mg "list" = none) (he : starEach [a] X.env = (false, eval a X.env) :: starEach [] X.env := by rfl) (hpl : (backTo pos (starEach [] X.env)).any (·.1) = false := by rfl) : EVF X G (.Call (.Name "list" pos2) [a] [] pos) ds :=
  (pe_callTy call_list_of hg hm (by decide +kernel) (av_cons ha av_nil he) (by decide) (by decide) he hpl).imp fun σ H Q ⟨h, q⟩ => ⟨h, fun vs H1 s1 d1 => by
    obtain ⟨v, rfl, dv⟩ := d1.one
    obtain ⟨l, us, rfl, hl, d1⟩ := dv.of_tup
    exact ⟨l, us, rfl, .inr hl, fun p hp => q p us _ (s1.free hp) (s1.trans (Same.new hp)) upd_same (d1.mono (Same.new hp))⟩⟩
theorem svs_freshR (hN : X.N.Nodup) (hi : X.N[i]? = some x) (hx : Loc X.env.scope x) (hG : i < G.length) (h : EVF X G e ws) (hws : noLs ws = true) (h2 : ∀ H0 p, HRs X H0 p i (fun G0 l => G0 = G.set i none ∧ l = ws) sts (fun z => z = d))
    (hs : swapsWith e (some (.Name x pos')) pos.line X.env = pure false := by rfl) (hf : X.fn x = true ∨ X.env.scope.names.lookup x = some .local := by first | exact .inl rfl | exact .inr rfl | assumption) :
    SVs X G (.Assign [.Name x pos'] e pos :: sts) (.ret d) := by
  have hr : PSs X sts (fun D σ H => ∃ hp : Hp × Addr, tHR X.K hp.1 hp.2 i (fun G0 l => G0 = G.set i none ∧ l = ws) (fun z => z = d) D σ H) := fun pins s σ H D I ⟨hp, q⟩ => h2 hp.1 hp.2 pins s σ H D I q
  refine (pss_cons (ps_set hN hi hx h hs hf) hr).imp fun D σ H ⟨hσ, q⟩ => ⟨hσ, fun p us H1 hp s1 hl dv => ⟨(H, p), ⟨_, ws, ⟨rfl, rfl⟩, dele H1 p, us, (upd_dele hl).symm, dele_same, ?_, ?_, List.getElem?_set_self (by rw [hσ.1]; exact hG), DVs.dele hl dv hws⟩, fun d' v H' ed s' dv' => by subst ed; exact q v H' s' dv'⟩⟩
  · intro b o e
    have hb : b ≠ p := ne_of_none e hp
    rw [dele_ne hb]
    exact s1 b o e
  · have sb : Same H (dele H1 p) := fun b o e => by
      have hb : b ≠ p := ne_of_none e hp
      rw [dele_ne hb]
      exact s1 b o e
    refine ⟨by rw [List.length_set, List.length_set, hσ.1], fun j d e => ?_⟩
    by_cases hj : i = j
    · subst hj
      rw [List.getElem?_set_self hG] at e
      cases e
    · rw [List.getElem?_set_ne hj] at e ⊢
      obtain ⟨v, a, b⟩ := hσ.2 j d e
      exact ⟨v, a, b.mono sb⟩
theorem DVs.setAt {K : PySem.W.Frag} {H : Hp} {v : V} {d : PyData} (h : DV K H v d) : ∀ {vs : List V} {ds : List PyData} (n : Nat), DVs K H vs ds → DVs K H (vs.set n v) (ds.set n d)
  | _, _, _, .nil => .nil
  | _, _, 0, .cons _ t => .cons h t
  | _, _, n + 1, .cons q t => .cons q (DVs.setAt h n t)
theorem ht_put {k : Int} (hv : PE X (.Name x pos2) (tVar i)) (h : ∀ G ds, Pre G ds → ∃ d m, EV X (plusL G i ds) e d ∧ noL d = true ∧ EV X (plusL G i ds) b (.int m) ∧ 0 ≤ m ∧ m < ds.length ∧ Post G (ds.set m.toNat d))
    (ha : ∀ v, assign (.Subscript (.Name x pos2) b pos3) X.env v = (do
      let ov ← holding [v] (eval (.Name x pos2) X.env)
      let iv ← holding [v, ov] (eval b X.env)
      standAt pos3
      holding [v, ov, iv] (setItem ov iv v)
      release [v, ov, iv] []) := by intro _; rfl)
    (hs : swapsWithSole [.Subscript (.Name x pos2) b pos3] e pos.line X.env = pure false := by rfl) (hw : swappedStores [.Subscript (.Name x pos2) b pos3] e X.env = pure none := by rfl)
    (h1 : (assignEach [.Subscript (.Name x pos2) b pos3] X.env).map (·.2) = [assign (.Subscript (.Name x pos2) b pos3) X.env] := by rfl) : HT1 X H0 p i Pre (.Assign [.Subscript (.Name x pos2) b pos3] e pos) Post := by
  intro pins s σ H D I ⟨⟨G, ds, a, o⟩, q⟩
  obtain ⟨d, m, ev, nl, eb, m0, m1, po⟩ := h G ds a
  refine ps_asg ev (pg_sub hv eb set_list ha) hs hw h1 pins s σ H D I ⟨o.sd, fun v H1 s1 d1 => ?_⟩
  obtain ⟨o1, k⟩ := o.step s1
  obtain ⟨Hb, vs, e1, e2, e3, e4, e5, e6, e7⟩ := k v d d1 nl
  refine ⟨.ref p, e5, o1.sd, fun w H2 s2 d2 => ?_⟩
  obtain ⟨o2, k2⟩ := o1.step s2
  obtain ⟨Hc, us, f1, f2, f3, f4, f5, f6, f7⟩ := k2 v d (d1.mono s2) nl
  subst f1
  have hl : us.length = ds.length := f6.length
  refine ⟨p, us, m, m.toNat, rfl, d2.of_int, upd_same, ?_, ?_⟩
  · unfold ixN
    rw [if_pos m0, if_pos (by rw [hl]; exact m1)]
  rw [upd_upd]
  exact q _ _ G _ po ⟨Hc, us.set m.toNat v, rfl, f2, f3, f4, f5, f6.setAt f7 _⟩
end
end L2
set_option maxRecDepth 100000
set_option maxHeartbeats 1000000
namespace L2
open PySem PySem.Spec PyProof.Rows
def Dk (h h' : Heap) : Prop := ∀ b o, h.get? b = some o → ∃ o', h'.get? b = some o' ∧ o'.dict = o.dict
theorem Dk.refl (h : Heap) : Dk h h := fun _ o e => ⟨o, e, rfl⟩
theorem Dk.trans {h1 h2 h3 : Heap} (a : Dk h1 h2) (b : Dk h2 h3) : Dk h1 h3 := fun c o e => by
  obtain ⟨o1, e1, d1⟩ := a c o e
  obtain ⟨o2, e2, d2⟩ := b c o1 e1
  exact ⟨o2, e2, d2.trans d1⟩
def Kd {α : Type} (t : Sem α) : Prop := ∀ (M : Model) (Γ : PySem.Ctx) (Q : α → Pos → Shared → Prop) (E : Value → Pos → Shared → Prop) (p : Pos) (s : Shared),
  Sem.wp M Γ t Q E p s → Sem.wp M Γ t (fun a p' s' => Q a p' s' ∧ Dk s.heap s'.heap) E p s
theorem kd_pure {α : Type} (a : α) : Kd (pure a : Sem α) := fun M Γ Q E p s h => by
  rw [Sem.wp_pure'] at h ⊢
  exact ⟨h, Dk.refl _⟩
theorem kd_bind {α β : Type} {m : Sem α} {f : α → Sem β} (hm : Kd m) (hf : ∀ a, Kd (f a)) : Kd (m >>= f) := fun M Γ Q E p s h => by
  rw [Sem.wp_bind'] at h ⊢
  exact Sem.wp_mono M Γ m (fun a p1 s1 ⟨h1, d1⟩ => Sem.wp_mono M Γ (f a) (fun b p2 s2 ⟨h2, d2⟩ => ⟨h2, d1.trans d2⟩) (fun _ _ _ z => z) p1 s1 (hf a M Γ _ _ p1 s1 h1)) (fun _ _ _ z => z) p s (hm M Γ _ _ p s h)
theorem kd_unsup {α : Type} (w : String) : Kd (unsupported w : Sem α) := fun M Γ Q E p s h => by
  have : Sem.wp M Γ (Sem.unsupported w : Sem α) Q E p s := h
  rw [Sem.wp_unsupported] at this
  exact this.elim
theorem kd_load (a : Addr) : Kd (load a) := fun M Γ Q E p s h => by
  unfold load at h ⊢
  rw [Sem.wp_load] at h ⊢
  obtain ⟨o, e, z⟩ := h
  rw [Sem.wp_pure] at z
  exact ⟨o, e, by rw [Sem.wp_pure]; exact ⟨z, Dk.refl _⟩⟩
theorem Dk.update {h : Heap} {a : Addr} {f : Obj → Obj} (hf : ∀ o, (f o).dict = o.dict ∧ (o.isFreed = false → (f o).isFreed = false)) : Dk h (h.update a f) := fun b o e => by
  by_cases hb : a = b
  · subst hb
    exact ⟨f o, Heap.get?_update_self f e ((hf o).2 (Heap.get?_some_iff.mp e).2), (hf o).1⟩
  · exact ⟨o, (Heap.get?_update_other _ f hb).trans e, rfl⟩
theorem kd_update (a : Addr) {f : Obj → Obj} (hf : ∀ o, (f o).dict = o.dict ∧ (o.isFreed = false → (f o).isFreed = false)) : Kd (update a f) := fun M Γ Q E p s h => by
  unfold PySem.update at h ⊢
  rw [Sem.wp_update] at h ⊢
  refine ⟨h.1, ?_⟩
  have z := h.2
  rw [Sem.wp_pure] at z ⊢
  exact ⟨z, Dk.update hf⟩
theorem kd_alloc (o : Obj) : Kd (alloc o) := fun M Γ Q E p s h => by
  unfold alloc at h ⊢
  rw [Sem.wp_alloc] at h ⊢
  rw [Sem.wp_pure] at h ⊢
  exact ⟨h, fun b u e => ⟨u, Heap.get?_push_of_some _ e, rfl⟩⟩
theorem kd_stack : Kd stack := fun M Γ Q E p s h => by
  have h' : Q ((Γ.code, p) :: Γ.below) p s := h
  show Q ((Γ.code, p) :: Γ.below) p s ∧ _
  exact ⟨h', Dk.refl _⟩
theorem mapF_ok (g : Array Value → Array Value) : ∀ o : Obj, (Obj.mapFields g o).dict = o.dict ∧ (o.isFreed = false → (Obj.mapFields g o).isFreed = false) := fun o => by
  obtain ⟨c, di, da, sl⟩ := o
  cases da <;> exact ⟨rfl, fun z => z⟩
theorem kd_field (v : Value) (i : Nat) : Kd (field v i) := by
  unfold field fieldsOf
  refine kd_bind ?_ fun vs => ?_
  · split
    · exact kd_bind (kd_load _) fun o => by split <;> first | exact kd_pure _ | exact kd_unsup _
    · exact kd_unsup _
  · split <;> first | exact kd_pure _ | exact kd_unsup _
theorem kd_setField (v : Value) (i : Nat) (x : Value) : Kd (setField v i x) := by
  unfold setField updateField
  split
  · refine kd_bind (kd_load _) fun o => ?_
    split
    · split
      · exact kd_update _ (mapF_ok _)
      · exact kd_unsup _
    · exact kd_unsup _
  · exact kd_unsup _
theorem kd_setFlight (e : Value) (fr : Option Addr) : Kd (setFlight e fr) := by
  unfold setFlight
  refine kd_bind (kd_field _ _) fun tb => ?_
  split
  · exact kd_setField _ _ _
  · exact kd_pure _
theorem kd_ready : ∀ l : List Env, Kd (readyFrames l)
  | [] => by unfold readyFrames; exact kd_pure _
  | env :: outer => by
    unfold readyFrames
    split
    · refine kd_bind (kd_load _) fun o => ?_
      split
      · exact kd_pure _
      · refine kd_bind ?_ fun im => kd_bind ?_ fun back => kd_bind (kd_update _ fun o => ⟨rfl, fun z => by obtain ⟨c, di, da, sl⟩ := o; cases da <;> first | rfl | exact z⟩) fun _ => kd_ready outer
        · unfold behindIsImport
          split
          · exact kd_pure _
          · split
            · exact kd_pure _
            · exact kd_bind (kd_field _ _) fun _ => kd_pure _
        · cases outer with
          | nil =>
            rw [keptBack]
            split
            · exact kd_pure _
            · refine kd_bind ?_ fun _ => kd_pure _
              unfold underTheClaimsCaller
              exact kd_bind kd_stack fun _ => kd_pure _
          | cons c r => rw [keptBack]; exact kd_pure _
    · exact kd_unsup _
theorem kd_frameOf (env : Env) : Kd (PySem.frameOf env) := by
  unfold PySem.frameOf frameEnvs
  refine kd_bind (kd_bind kd_stack fun _ => kd_pure _) fun l => kd_bind ?_ fun o => ?_
  · generalize List.dropWhile _ l = l'
    cases l' with
    | nil => unfold frameObject; exact kd_pure _
    | cons a r => unfold frameObject; exact kd_bind (kd_ready _) fun _ => kd_pure _
  · split
    · exact kd_pure _
    · exact kd_unsup _
theorem kd_place (f : Addr) (b : Bool) : Kd (entryPlaceOf f b) := by
  unfold entryPlaceOf
  refine kd_bind kd_stack fun l => ?_
  split <;> exact kd_pure _
theorem kd_newEntry (a b c d e : Value) (l : List Value) : Kd (EntryCells.newEntry a b c d e l) := by
  unfold EntryCells.newEntry newFields newObj newObjAsIs
  dsimp only
  have fin := fun (o : Obj) => kd_bind (kd_alloc o) fun a => kd_pure (Value.ref a)
  generalize (if l.isEmpty = true then List.replicate 6 Value.none else l) = l'
  split
  · exact kd_bind (kd_unsup _) fun _ => fin _
  · exact fin _
theorem kd_note (e : Value) (env : Env) : Kd (noteFrame e env) := by
  unfold noteFrame
  split
  · refine kd_bind (kd_field _ _) fun hd => ?_
    have fin : ∀ (f : Addr) (hd : Value), Kd (do setField e 1 (← EntryCells.newEntry hd (← PySem.frameOf env) .none (rawInt f) .none (← entryPlaceOf f (hd != .none))) : Sem Unit) := fun f hd =>
      kd_bind (kd_frameOf _) fun _ => kd_bind (kd_place _ _) fun _ => kd_bind (kd_newEntry _ _ _ _ _ _) fun _ => kd_setField _ _ _
    split
    · refine kd_bind (kd_field _ _) fun fl => ?_
      split
      · exact kd_pure _
      · exact kd_bind (kd_setField _ _ _) fun _ => fin _ _
    · exact fin _ _
  · exact kd_unsup _
theorem kd_leaving (env : Env) (e : Value) : Kd (leaving env e) := by
  unfold leaving
  exact kd_bind (kd_note _ _) fun _ => kd_setFlight _ _
theorem Kd.any {α : Type} {t : Sem α} (k : Kd t) {M : Model} {A : Around} {Q : α → Shared → Prop} {E : Value → Shared → Prop} {s : Shared} (h : wpAny M A t (fun a s' => Dk s.heap s'.heap → Q a s') E s) : wpAny M A t Q E s :=
  fun Γ p hΓ => Sem.wp_mono M Γ t (fun a p' s' ⟨h1, d⟩ => h1 d) (fun _ _ _ z => z) p s (k M Γ _ _ p s (h Γ p hΓ))
end L2
set_option maxRecDepth 100000
set_option maxHeartbeats 1000000
namespace L2
open PySem PySem.Spec PyProof.Rows
theorem ObjOk.ex {P : Program} {w : World} {H : Hp} {h : Heap} {a : Addr} {o : HO} (x : ObjOk P w H h a o) : ∃ u, h.get? a = some u := by
  cases o with
  | lst xs => obtain ⟨_, _, _, _, e⟩ := x; exact ⟨_, e⟩
  | tup xs => obtain ⟨_, _, _, o, e, _⟩ := x; exact ⟨_, e⟩
  | dK kvs => obtain ⟨_, _, _, _, o, _, _, e, _⟩ := x; exact ⟨_, e⟩
  | dT kvs => obtain ⟨_, _, _, _, o, _, _, e, _⟩ := x; exact ⟨_, e⟩
  | set S n => obtain ⟨o, _, _, _, e, _⟩ := x; exact ⟨_, e⟩
  | ins C dx fs => obtain ⟨_, _, _, e, _⟩ := x; exact ⟨_, e⟩
  | own y => exact x
  | xd fs => obtain ⟨_, ⟨_, _, _, e, _⟩, _⟩ := x; exact ⟨_, e⟩
  | rng lo hi => obtain ⟨_, _, _, e⟩ := x; exact ⟨_, e⟩
  | frz ob u => obtain ⟨e, _⟩ := x; exact ⟨_, e⟩
  | tbl ps => exact ⟨_, show h.get? a = some _ from x⟩
  | met f y => exact ⟨_, show h.get? a = some _ from x⟩
  | ext φ => obtain ⟨_, e, _⟩ := x; exact e
structure Lies (P : Program) (w : World) (l : List Env) (a : Addr) (H H' : Hp) (h h' B : Heap) : Prop where
  un : Un (frs l) [] H H' h h'
  hok : HOk P w H' h'
  trk : ∀ b o, h'.get? b = some o → H' b ≠ none → B.get? b = some o
  old : ∀ b o, h.get? b = some o → H b = none → b ∉ frs l → B.get? b = some o
  has : ∀ b o, h.get? b = some o → b ∉ frs l → b ≠ a → ∃ o', B.get? b = some o'
theorem Lies.step {P : Program} {w : World} {l : List Env} {a : Addr} {H H' : Hp} {h h' h2 B : Heap} (L : Lies P w l a H H' h h' B) (st : B.StaysIn h2) (up : h'.UpToSlots h2) (fr : ∀ b ∈ frs l, (∃ o, h.get? b = some o ∧ ∀ vs, o.data ≠ .fields vs) ∧ H b = none) (ha : ∃ o, h2.get? a = some o) : Lies P w l a H H' h h2 B where
  un := by
    have sl : ∀ b o, h.get? b = some o → b ∈ frs l → ∃ sl, h2.get? b = some { o with slots := sl } := fun b o e hb => by
      obtain ⟨⟨o', e', nf⟩, n⟩ := fr b hb
      rw [e] at e'; cases e'
      obtain ⟨sl, e1⟩ := L.un.slot b o e n hb (by simp)
      obtain ⟨sl', e2⟩ := up b _ e1 nf
      exact ⟨sl', e2⟩
    refine ⟨fun b o e n hb _ => st b o (L.old b o e n hb), fun b o e _ hb _ => sl b o e hb, L.un.free, fun b o e _ => ?_, L.un.tups, L.un.frzs, L.un.tbls⟩
    by_cases hb : b ∈ frs l
    · obtain ⟨s, e1⟩ := sl b o e hb
      exact ⟨_, e1⟩
    · by_cases hba : b = a
      · rw [hba]; exact ha
      · obtain ⟨o', e1⟩ := L.has b o e hb hba
        exact ⟨o', st b o' e1⟩
  hok := fun a o e => (L.hok a o e).stay (fun b u hb q => st b u (L.trk b u q (by
      rcases hb with rfl | hb
      · rw [e]; simp
      · rw [hb]; simp))) (fun _ q => q) fun _ _ q => q
  trk := fun b o e n => by
    cases q : H' b with
    | none => exact absurd q n
    | some u =>
      obtain ⟨o1, e1⟩ := (L.hok b u q).ex
      have e2 := L.trk b o1 e1 n
      have e3 := st b o1 e2
      rw [e] at e3; cases e3
      exact e2
  old := L.old
  has := L.has
section
variable {X : Cx} {pins : List (Addr × Obj)} {σ : St} {H H' : Hp} {s s' : Shared} {h' B : Heap}
theorem Inv.frs_ok (I : Inv X pins σ H s) : ∀ b ∈ frs X.stack, (∃ o, s.heap.get? b = some o ∧ ∀ vs, o.data ≠ .fields vs) ∧ H b = none := fun b hb => ⟨(I.stack.mem hb).2, I.stkFree b hb⟩
theorem Inv.notStack (I : Inv X pins σ H s) {b : Addr} {o : Obj} (e : X.s₀.heap.get? b = some o) (hb : b ∉ X.fs) : b ∉ frs X.stack := fun z => by
  rcases List.mem_cons.mp (I.stkSub b z) with q | q
  · exact absurd (Nat.lt_of_lt_of_le (Heap.lt_size e) I.ok.above) (by rw [q]; exact Nat.lt_irrefl _)
  · exact hb q
theorem Lies.back {a : Addr} (I : Inv X pins σ H s) (hex : X.ex = []) (L : Lies X.prog X.w X.stack a H H' s.heap h' B) : Lies X.prog X.w X.outer a X.H₀ H' X.s₀.heap h' B where
  un := by
    have nx : ∀ b, b ∉ X.ex := fun b => by rw [hex]; simp
    refine ⟨fun b o e n hb _ => ?_, fun b o e n hb _ => ?_, fun b o e n _ => ?_, fun b o e _ => ?_, fun b xs e => L.un.tups b xs (I.base.tups b xs e), fun b o u e => L.un.frzs b o u (I.base.frzs b o u e), fun b ps e => ?_⟩
    · exact L.un.keep b o (I.base.keep b o e n hb (nx b)) (I.base.free b o e n (nx b)) (I.notStack e hb) (by simp)
    · obtain ⟨sl, e1⟩ := I.base.slot b o e n hb (nx b)
      obtain ⟨sl', e2⟩ := L.un.any e1 (I.base.free b o e n (nx b)) (by simp)
      exact ⟨sl', e2⟩
    · obtain ⟨o', e1⟩ := I.base.there b o e (nx b)
      exact L.un.free b o' e1 (I.base.free b o e n (nx b)) (by simp)
    · obtain ⟨o', e1⟩ := I.base.there b o e (nx b)
      exact L.un.there b o' e1 (by simp)
    · obtain ⟨m1, e1⟩ := I.base.tbls b ps e
      obtain ⟨m2, e2⟩ := L.un.tbls b _ e1
      exact ⟨m1 ++ m2, by rw [e2, Array.append_assoc]⟩
  hok := L.hok
  trk := L.trk
  old := fun b o e n hb => L.old b o (I.base.keep b o e n hb (by rw [hex]; simp)) (I.base.free b o e n (by rw [hex]; simp)) (I.notStack e hb)
  has := fun b o e hb hba => by
    obtain ⟨o', e1⟩ := I.base.there b o e (by rw [hex]; simp)
    exact L.has b o' e1 (I.notStack e hb) hba
end
def CXr (P : Program) (w : World) : CXT := fun l H s E e s' => ∃ (a t : Addr) (cls : Value) (od : Option Addr) (H' : Hp) (B : Heap), e = .ref a ∧ s'.os = s.os ∧ AllBare s'.gens ∧ Lies P w l a H H' s.heap s'.heap B ∧ Heap.FlyingW B l a cls (.ref t) s'.heap ∧ (∃ oe, s'.heap.get? a = some oe ∧ oe.dict = od) ∧ E cls od H'
theorem FlyingW.ex {B h : Heap} {l : List Env} {a : Addr} {cls a0 : Value} (F : Heap.FlyingW B l a cls a0 h) : ∃ o, h.get? a = some o := let ⟨o, e, _⟩ := F.there; ⟨o, e⟩
section
variable {P : Program} {w : World} {K : PySem.W.Frag} {mg : Str → Option Value} {base : Heap} {N : List Str} {qual : Str} {scope : Scope} {f : Addr} {cd : Value} {A : Around} {outer : List Env} {s0 : Shared} {H0 : Hp} {E : XK}
theorem passes_r : Passes (CXr P w) (cxOf (CXr P w) P w K mg base N qual scope f cd A outer s0 H0 E) E := by
  intro pins σ H s e s' I z
  obtain ⟨a, t, cls, od, H', B, ee, os, bare, L, F, ⟨oe, e1, e2⟩, q⟩ := z
  subst ee
  show wpAny _ _ (leaving _ _) _ _ _
  refine (kd_leaving _ _).any (wpAny_leaves_onW I.ok.frames rfl F fun h' F' up dk => ?_)
  obtain ⟨o2, e3, e4⟩ := dk a oe e1
  exact ⟨a, t, cls, od, H', B, rfl, os.trans I.os, bare, Lies.back I rfl (L.step F'.1 up I.frs_ok (FlyingW.ex F')), F', ⟨o2, e3, e4.trans e2⟩, q⟩
def les (H : Hp) (a : Addr) : Hp := fun b => if b = a then none else H b
theorem les_ne {H : Hp} {a b : Addr} (h : b ≠ a) : les H a b = H b := by unfold les; rw [if_neg h]
theorem les_same {H : Hp} {a : Addr} : les H a a = none := by unfold les; rw [if_pos rfl]
theorem les_some {H : Hp} {a b : Addr} {o : HO} (h : les H a b = some o) : b ≠ a ∧ H b = some o := by
  by_cases hb : b = a
  · rw [hb, les_same] at h; cases h
  · exact ⟨hb, by rw [les_ne hb] at h; exact h⟩
abbrev excDO (C t dx : Addr) : Obj := { cls := .ref C, dict := some dx, data := .fields #[.ref t, .none, .none, .none, .bool false, .none] }
theorem raises_d {pins : List (Addr × Obj)} {σ : St} {H : Hp} {s : Shared} {a C dx t : Addr} {φ : Heap → Prop} (I : Inv (cxOf (CXr P w) P w K mg base N qual scope f cd A outer s0 H0 E) pins σ H s) (he : s.heap.get? a = some (excDO C t dx)) (ea : H a = some (.ext φ)) (q : E (.ref C) (some dx) (les H a)) :
    (cxOf (CXr P w) P w K mg base N qual scope f cd A outer s0 H0 E).xe (.ref a) s := by
  show wpAny _ _ (leaving _ _) _ _ _
  have hin : ∀ env ∈ (cxOf (CXr P w) P w K mg base N qual scope f cd A outer s0 H0 E).stack, ∀ b, env.frame = some b → b ∈ a :: frs (cxOf (CXr P w) P w K mg base N qual scope f cd A outer s0 H0 E).stack := fun env h b hb => List.mem_cons_of_mem _ (List.mem_filterMap.mpr ⟨env, h, hb⟩)
  have hen : (PySem.W.hideAll s.heap (a :: frs (cxOf (CXr P w) P w K mg base N qual scope f cd A outer s0 H0 E).stack)).get? a = none := PySem.W.hideAll_none _ (List.mem_cons_self)
  refine (kd_leaving _ _).any (wpAny_leaving_firstW (base := PySem.W.hideAll s.heap (a :: frs (cxOf (CXr P w) P w K mg base N qual scope f cd A outer s0 H0 E).stack)) I.ok.frames (PySem.W.funFrames_hide I.stack hin) rfl he (fun b o e => PySem.W.of_hideAll _ e) hen rfl rfl rfl fun h2 hL dk => ?_)
  obtain ⟨k1, ⟨_, _, k2⟩, k3, up⟩ := hL
  have F' : Heap.FlyingW (PySem.W.hideAll s.heap (a :: frs (cxOf (CXr P w) P w K mg base N qual scope f cd A outer s0 H0 E).stack)) outer a (.ref C) (.ref t) h2 := ⟨k1, hen, k2, k3⟩
  obtain ⟨o2, e3, e4⟩ := dk a _ he
  have kB : ∀ b o, s.heap.get? b = some o → b ≠ a → b ∉ frs (cxOf (CXr P w) P w K mg base N qual scope f cd A outer s0 H0 E).stack → (PySem.W.hideAll s.heap (a :: frs (cxOf (CXr P w) P w K mg base N qual scope f cd A outer s0 H0 E).stack)).get? b = some o := fun b o e h1 hb => PySem.W.hideAll_get _ e (fun z => (List.mem_cons.mp z).elim h1 hb)
  have nS : ∀ b, H b ≠ none → b ∉ frs (cxOf (CXr P w) P w K mg base N qual scope f cd A outer s0 H0 E).stack := fun b n hb => n (I.stkFree b hb)
  have nA : ∀ b, H b = none → b ≠ a := fun b n z => by rw [z, ea] at n; cases n
  have sl : ∀ b o, s.heap.get? b = some o → b ∈ frs (cxOf (CXr P w) P w K mg base N qual scope f cd A outer s0 H0 E).stack → ∃ sl, h2.get? b = some { o with slots := sl } := fun b o e hb => by
    obtain ⟨⟨o', e', nf⟩, _⟩ := I.frs_ok b hb
    rw [e] at e'; cases e'
    exact up b o e nf
  refine ⟨a, t, .ref C, some dx, les H a, _, rfl, I.os, I.bare, ?_, F', ⟨o2, e3, e4⟩, q⟩
  refine Lies.back I rfl ⟨⟨fun b o e n hb _ => k1 b o (kB b o e (nA b n) hb), fun b o e n hb _ => sl b o e hb, fun b o e n _ => by rw [les_ne (nA b n)]; exact n, fun b o e _ => ?_, fun b xs e => ?_, fun b o u e => ?_, fun b ps e => ⟨#[], ?_⟩⟩, fun c o e => ?_, fun b o e n => ?_, fun b o e n hb => kB b o e (nA b n) hb, fun b o e hb hba => ⟨o, kB b o e hba hb⟩⟩
  · by_cases hba : b = a
    · rw [hba]; exact ⟨o2, e3⟩
    · by_cases hb : b ∈ frs (cxOf (CXr P w) P w K mg base N qual scope f cd A outer s0 H0 E).stack
      · obtain ⟨z, e1⟩ := sl b o e hb
        exact ⟨_, e1⟩
      · exact ⟨o, k1 b o (kB b o e hba hb)⟩
  · rw [les_ne (ne_of e ea (by intro z; cases z))]; exact e
  · rw [les_ne (ne_of e ea (by intro z; cases z))]; exact e
  · rw [les_ne (ne_of e ea (by intro z; cases z)), e]; simp
  · obtain ⟨hc, e'⟩ := les_some e
    refine (I.hok c o e').stay (fun b u hb q => k1 b u (kB b u q ?_ (nS b ?_))) (fun b q => by rw [les_ne (ne_of q ea (by intro z; cases z))]; exact q) fun b xs q => by rw [les_ne (ne_of q ea (by intro z; cases z))]; exact q
    · rcases hb with rfl | hb
      · exact hc
      · exact ne_of hb ea (by intro z; cases z)
    · rcases hb with rfl | hb
      · rw [e']; simp
      · rw [hb]; simp
  · cases q : les H a b with
    | none => exact absurd q n
    | some u =>
      obtain ⟨hb, q'⟩ := les_some q
      obtain ⟨o1, e1⟩ := (I.hok b u q').ex
      have e2 := kB b o1 e1 hb (nS b (by rw [q']; simp))
      have e3 := k1 b o1 e2
      rw [e] at e3; cases e3
      exact e2
end
end L2
set_option maxRecDepth 100000
set_option maxHeartbeats 1000000
namespace L2
open PySem PySem.Spec PyProof.Rows
abbrev bmV : List Value := [.type "ValueError", .type "Exception", .type "BaseException", .type "object"]
structure ExcCls (K : PySem.W.Frag) (C : Addr) : Prop where
  ok : PySem.W.excIn K C bmV "ValueError.__new__" = true
theorem ExcCls.ex {K : PySem.W.Frag} {C : Addr} (O : ExcCls K C) : ∃ (nm q : Str) (N : Addr) (bs bm : List Value) (hdct : Bool) (sn : List Str) (sub : List Value) (ab : Bool) (col : Option Bool) (dd : Option Addr) (k0 k1 k2 k3 k5 : Option Value),
    K.lookup C = some (excClassObj nm q C N bs bm hdct sn sub ab col dd k0 k1 k2 k3 k5 "ValueError.__new__") ∧ (∀ h, K.In h → ∃ mN, h.Ns N mN ∧ mN "__init__" = none) ∧ ∀ h, K.In h → OwnTail h bmV bm := by
  have z := O.ok
  unfold PySem.W.excIn at z
  split at z
  · rename_i d0 c0 s0 lk
    split at z
    · rename_i C' tl x0 x1 x2 x3 nid x5 em es
      simp only [Bool.and_eq_true, beq_iff_eq, Bool.not_eq_true'] at z
      obtain ⟨⟨⟨⟨⟨z1, z2⟩, z3⟩, z4⟩, z5⟩, z6⟩ := z
      subst z1 z2
      cases c0 with
      | mk c1 c2 c3 c4 c5 c6 c7 c8 c9 c10 c11 =>
        dsimp only at em z3 z5 z6
        subst em z3
        cases s0 with
        | mk l0 =>
          dsimp only at es
          subst es
          exact ⟨_, _, _, _, _, _, _, _, _, _, _, _, _, _, _, _, lk, fun h X => ⟨_, .of_isNs (PySem.W.isNs_of_in X z5), PySem.W.nsMap_none_of_in X z5 z6⟩, fun h X => PySem.W.tail_of_in X z4⟩
    · cases z
  · cases z
section
variable {X : Cx} {pins : List (Addr × Obj)} {σ : St} {H H' : Hp} {s s' : Shared}
def RowAt (H : Hp) (dx : Addr) (n : Int) : Prop := H dx = some (.xd [("row", .int n)])
abbrev XKo (σ : St) (Ex : St → Hp → Addr → Int → Prop) : XK := fun cls od H' => ∃ C dx n, cls = .ref C ∧ od = some dx ∧ RowAt H' dx n ∧ Ex σ H' C n
structure XW (X : Cx) (Ex : St → Hp → Addr → Int → Prop) : Prop where
  pass : ∀ (pins : List (Addr × Obj)) (σ : St) (H : Hp) (s : Shared) (e : Value) (s' : Shared), Inv X pins σ H s → CXr X.prog X.w X.stack H s (XKo σ Ex) e s' → X.xe e s'
theorem CXr.imp {P : Program} {w : World} {l : List Env} {E E' : XK} {e : Value} (h : CXr P w l H s E e s') (m : ∀ cls od H', E cls od H' → E' cls od H') : CXr P w l H s E' e s' := by
  obtain ⟨a, t, cls, od, H', B, r1, r2, r3, r4, r5, r6, q⟩ := h
  exact ⟨a, t, cls, od, H', B, r1, r2, r3, r4, r5, r6, m _ _ _ q⟩
theorem xw_cx {P : Program} {w : World} {K : PySem.W.Frag} {mg : Str → Option Value} {base : Heap} {N : List Str} {qual : Str} {scope : Scope} {f : Addr} {cd : Value} {A : Around} {outer : List Env} {s0 : Shared} {H0 : Hp} {E : XK} :
    XW (cxOf (CXr P w) P w K mg base N qual scope f cd A outer s0 H0 E) (fun _ H' C n => ∀ dx, RowAt H' dx n → E (.ref C) (some dx) H') := ⟨fun pins σ H s e s' I h => by
  obtain ⟨a, t, cls, od, H', B, r1, r2, r3, r4, r5, r6, C, dx, n, rfl, rfl, rw', q⟩ := h
  exact passes_r pins σ H s e s' I ⟨a, t, .ref C, some dx, H', B, r1, r2, r3, r4, r5, r6, q dx rw'⟩⟩
def tEX (K : PySem.W.Frag) (Ex : St → Hp → Addr → Int → Prop) (G : Gam) (C : Addr) (n : Int) : TE := fun σ H _ => SD K H σ G ∧ ∀ H', Same H H' → Ex σ H' C n
def tSX (K : PySem.W.Frag) (Ex : St → Hp → Addr → Int → Prop) (G G' : Gam) (C : Addr) (n : Int) : TS := fun _ σ H => SD K H σ G ∧ ∀ σ' H', Same H H' → SD K H' σ' G' → Ex σ' H' C n
abbrev EXv (X : Cx) (Ex : St → Hp → Addr → Int → Prop) (G : Gam) (e : Expr) (C : Addr) (n : Int) : Prop := PE X e (tEX X.K Ex G C n)
abbrev SXv (X : Cx) (Ex : St → Hp → Addr → Int → Prop) (G : Gam) (st : Stmt) (G' : Gam) (C : Addr) (n : Int) : Prop := PS X st (tSX X.K Ex G G' C n)
abbrev SXvs (X : Cx) (Ex : St → Hp → Addr → Int → Prop) (G : Gam) (st : List Stmt) (G' : Gam) (C : Addr) (n : Int) : Prop := PSs X st (tSX X.K Ex G G' C n)
end
section
variable {X : Cx} {Ex : St → Hp → Addr → Int → Prop} {G G' G1 : Gam} {C : Addr} {n : Int} {e c a : Expr} {es : List Expr} {st : Stmt} {sts A B : List Stmt} {pos p cpos np : Pos} {x : Str} {ds : List PyData} {d : PyData}
theorem sx_expr (h : EXv X Ex G e C n) (hs : swapsWith e none pos.line X.env = pure false := by rfl) : SXv X Ex G (.Expr e pos) G C n := (ps_expr h hs).imp fun D σ H ⟨h, q⟩ => ⟨h, fun H' s' => q σ H' s' (h.mono s')⟩
theorem sx_cons (h1 : SV X G st (.next G1)) (h2 : SXvs X Ex G1 sts G' C n) : SXvs X Ex G (st :: sts) G' C n :=
  (pss_cons h1 h2).imp fun D σ H ⟨h, q⟩ => ⟨h, fun σ1 H1 s1 h1 => ⟨h1, fun σ2 H2 s2 h2 => q σ2 H2 (s1.trans s2) h2⟩⟩
theorem sx_head (h1 : SXv X Ex G st G' C n) : SXvs X Ex G (st :: sts) G' C n :=
  (pss_cons h1 (pss_never (sts := sts))).imp fun D σ H ⟨h, q⟩ => ⟨h, q⟩
theorem sx_if {k : Bool} (hc : TV X G c k) (h1 : k = true → SXvs X Ex G A G' C n) (h2 : k = false → SXvs X Ex G B G' C n) : SXv X Ex G (.If c A B pos) G' C n := by
  have hA : PSs X A (fun D σ H => k = true ∧ tSX X.K Ex G G' C n D σ H) := fun pins s σ H D I ⟨e, q⟩ => h1 e pins s σ H D I q
  have hB : PSs X B (fun D σ H => k = false ∧ tSX X.K Ex G G' C n D σ H) := fun pins s σ H D I ⟨e, q⟩ => h2 e pins s σ H D I q
  refine (ps_if hc hA hB).imp fun D σ H ⟨h, q⟩ => ⟨h, fun H1 s1 => ?_⟩
  have fin : tSX X.K Ex G G' C n D σ H1 := ⟨h.mono s1, fun σ2 H2 s2 h2 => q σ2 H2 (s1.trans s2) h2⟩
  cases k with
  | true => exact iteT ⟨rfl, fin⟩
  | false => exact iteF ⟨rfl, fin⟩
inductive Res where
  | ok (d : PyData) | exc (C : Addr) (n : Int)
def spX (K : PySem.W.Frag) (F : List PyData → Res → Prop) : Sp := fun vs H Q E => ∃ ds r, DVs K H vs ds ∧ F ds r ∧ match r with
  | .ok d => ∀ v H', Same H H' → DV K H' v d → Q v H'
  | .exc C n => ∀ H' dx, Same H H' → RowAt H' dx n → E (.ref C) (some dx) H'
def XFn (P : Program) (w : World) (K : PySem.W.Frag) (mg : Str → Option Value) (base : Heap) (k : Nat) (x : Str) (F : List PyData → Res → Prop) : Prop :=
  ∃ f fd ps, FnOk P w K mg base (CXr P w) k f fd ps (spX K F) ∧ mg x = some (.ref f) ∧ PySem.W.keepIn K (.ref f) = true ∧ Binds K fd ps []
theorem run_fnX {CX : CXT} {k : Nat} {f : Addr} {fd : FuncData} {ps : List Str} {sp : Sp} {dvs : List V} {dvals : List Value} {E : XK} {pins : List (Addr × Obj)} {σ : St} {H : Hp} {s : Shared} {Q : VK} {us : List Value} {vs : List V} (F : FnOk X.prog X.w X.K X.mg X.base CX k f fd ps sp) (hr : Room k X.A) (hb : Binds X.K fd ps dvals) (hd : Vals dvs dvals)
    (hx : ∀ e s', CX X.stack H s E e s' → X.xe e s') (I : Inv X pins σ H s) (r : Vals vs us) (h : sp (vs ++ dvs) H Q E) : wpAny (model X.prog X.w) X.A (call (.ref f) us) (EP X pins σ Q) X.xe s := by
  have r2 : Vals (vs ++ dvs) (us ++ dvals) := r.append hd
  have hl : (us ++ dvals).length = ps.length := by rw [← r2.length]; exact F.len _ _ _ _ h
  refine wpAny_call (codeAny_mono (F.run X.A X.stack s H ⟨us, []⟩ (us ++ dvals) (vs ++ dvs) Q E hr I.env0 (hb s us I.kIn hl) r2 h) fun r s' hq => ?_)
  cases r with
  | error e => exact hx e s' hq
  | ok fl =>
    cases fl with
    | ret u => exact I.after hq
    | next => exact False.elim hq
    | brk => exact False.elim hq
    | cont => exact False.elim hq
theorem ex_call {k : Nat} {F : List PyData → Res → Prop} (W : XW X Ex) (D : XFn X.prog X.w X.K X.mg X.base k x F) (hr : Room k X.A) (hg : Gl X x) (ha : AV X G (e :: es) ds) (hF : F ds (.exc C n)) (hdb : (x == ("__debug__" : Str)) = false := by decide)
    (he : starEach (e :: es) X.env = (false, eval e X.env) :: starEach es X.env := by rfl) (hpl : (backTo pos (starEach es X.env)).any (·.1) = false := by rfl) : EXv X Ex G (.Call (.Name x p) (e :: es) [] pos) C n := by
  obtain ⟨f, fd, ps, ok, hm, hk, hb⟩ := D
  intro pins s σ H Q I ⟨h, q⟩
  refine wpAny_Call_Name_kw (ld_glob I hg hm ?_ hdb)
  refine PySem.W.callWith_K (h₀ := X.base) I.ok.mod.kin hk (thn (ha pos pins s σ H (fun vs H1 => Same H H1 ∧ DVs X.K H1 vs ds) I ⟨h, fun vs H1 s1 d1 => ⟨s1, d1⟩⟩) fun us s1 ⟨vs, H1, I1, r, sm, dv⟩ => ⟨I1.kIn, ?_⟩) he hpl
  refine run_fnX ok hr hb .nil (E := XKo σ Ex) (fun e s' z => W.pass pins σ H1 s1 e s' I1 z) I1 r ?_
  rw [List.append_nil]
  exact ⟨ds, .exc C n, dv, hF, fun H2 dx s2 r2 => ⟨C, dx, n, rfl, rfl, r2, q H2 (sm.trans s2)⟩⟩
theorem ev_callX {k : Nat} {F : List PyData → Res → Prop} (D : XFn X.prog X.w X.K X.mg X.base k x F) (hr : Room k X.A) (hg : Gl X x) (ha : AV X G (e :: es) ds) (hF : F ds (.ok d)) (hdb : (x == ("__debug__" : Str)) = false := by decide)
    (he : starEach (e :: es) X.env = (false, eval e X.env) :: starEach es X.env := by rfl) (hpl : (backTo pos (starEach es X.env)).any (·.1) = false := by rfl) : EV X G (.Call (.Name x p) (e :: es) [] pos) d := by
  obtain ⟨f, fd, ps, ok, hm, hk, hb⟩ := D
  refine (pe_call ok hr hg hm hk hb .nil (E := fun _ _ _ => False) (fun _ _ _ _ _ _ _ ⟨_, _, _, _, _, _, _, _, _, _, _, _, z⟩ => z.elim) ha hdb he hpl).imp fun σ H Q ⟨h, q⟩ => ⟨h, fun vs H1 s1 d1 => ?_⟩
  show spX X.K F (vs ++ []) H1 Q _
  rw [List.append_nil]
  exact ⟨ds, .ok d, d1, hF, fun v H2 s2 d2 => q v H2 (s1.trans s2) d2⟩
end
section
variable {P : Program} {w : World} {K : PySem.W.Frag} {mg : Str → Option Value} {base : Heap}
abbrev cxR (P : Program) (w : World) (K : PySem.W.Frag) (mg : Str → Option Value) (base : Heap) (N : List Str) (qual : Str) (sc : Scope) (f : Addr) (cdv : Value) (A : Around) (outer : List Env) (s : Shared) (H : Hp) (E : XK) : Cx := cxOf (CXr P w) P w K mg base N qual sc f cdv A outer s H E
abbrev exR (E : XK) : St → Hp → Addr → Int → Prop := fun _ H' C n => ∀ dx, RowAt H' dx n → E (.ref C) (some dx) H'
theorem Fun.dataX {x qual : Str} {st : Stmt} {f : Addr} {fd : FuncData} {N ps : List Str} {k : Nat} {F : List PyData → Res → Prop} (F0 : Fun K x qual st f fd) (hm : mg x = some (.ref f)) (hb : Binds K fd ps []) (S : FnScope N ps (defScope st)) (len : ∀ ds r, F ds r → ds.length = ps.length)
    (hbody : ∀ (cdv : Value) (A : Around) (outer : List Env) (s : Shared) (H : Hp) (E : XK) (ds : List PyData) (r : Res), Room k (A.deeper (envOfC qual (defScope st) s.heap.objs.size f cdv)) → F ds r →
      match r with
      | .ok d => SVs (cxR P w K mg base N qual (defScope st) f cdv A outer s H E) (startG N ds) (defBody st) (.ret d) ∨ (d = .none ∧ ∃ G', SVs (cxR P w K mg base N qual (defScope st) f cdv A outer s H E) (startG N ds) (defBody st) (.next G'))
      | .exc C n => ∃ G', SXvs (cxR P w K mg base N qual (defScope st) f cdv A outer s H E) (exR E) (startG N ds) (defBody st) G' C n) : XFn P w K mg base (k + 1) x F := by
  obtain ⟨oc, od, kV, doc, pm, an, cdv, ct, osl, rfl, lk, hcd⟩ := F0.ex
  refine ⟨f, _, ps, fn_of lk hcd S (fun vs H Q E ⟨ds, r, h1, h2, _⟩ => h1.length.trans (len ds r h2)) (fun A outer s H vs Q E hr ⟨ds, r, h1, h2, q⟩ => ?_), hm, F0.kp, hb⟩
  have z := hbody cdv A outer s H E ds r hr h2
  cases r with
  | ok d =>
    rcases z with z | ⟨rfl, G', z⟩
    · exact ⟨_, z, SD.start h1, q⟩
    · exact ⟨_, z, SD.start h1, fun σ' H' s' h' => q .non H' s' .non⟩
  | exc C n =>
    obtain ⟨G', z⟩ := z
    exact ⟨_, z, SD.start h1, fun σ' H' s' _ dx r => q H' dx s' r⟩
end
end L2
set_option maxRecDepth 100000
set_option maxHeartbeats 1000000
namespace L2
open PySem PySem.Spec PyProof.Rows
section
variable {X : Cx} {pins : List (Addr × Obj)} {σ : St} {H H' : Hp} {s s' : Shared}
theorem lands_againD {M : Model} {A : Around} {E : Value → Shared → Prop} {s : Shared} {B : Heap} {l : List Env} {e : Addr} {c a0 : Value} {Q : Unit → Shared → Prop} (F : Heap.FlyingW B l e c a0 s.heap)
    (h : ∀ h', Heap.FlyingW B l e c a0 h' → s.heap.UpToSlots h' → Dk s.heap h' → Q () { s with heap := h' }) : wpAny M A (setFlight (.ref e) none) Q E s :=
  (kd_setFlight _ _).any (lands_againW F fun h' F' up dk => h h' F' up dk)
theorem Inv.gone {M : Model} {A : Around} {E : Value → Shared → Prop} {i : Nat} {n : Str} {pos : Pos} {Q : Unit → Shared → Prop} (I : Inv X pins σ H s) (hN : X.N.Nodup) (hi : X.N[i]? = some n) (hk : X.env.scope.names.lookup n = some .local)
    (h : ∀ s', Inv X pins (σ.set i none) H s' → Q () s') : wpAny M A (do bindName X.env n .none; unbindBehindTheSuite X.env n pos) Q E s := by
  obtain ⟨m, hn, hl⟩ := id I.loc
  have hiσ : i < σ.length := by rw [I.len]; exact (List.getElem?_eq_some_iff.mp hi).1
  refine wpAny_nameGoes_keeps hk hn (by rw [I.ok.kind]; rfl) fun h' v hn' hs => ?_
  obtain ⟨oL, _, _, hoL, _⟩ := id hn
  have neL : ∀ b o, X.s₀.heap.get? b = some o → b ≠ X.env.locals := fun b o e => Nat.ne_of_lt (Nat.lt_of_lt_of_le (Heap.lt_size e) I.ok.above)
  refine h _ ⟨I.ok, I.os, I.bare, ⟨fun b o e n hb hx => ?_, fun b o e n hb hx => ?_, I.base.free, fun b o e hx => ?_, I.base.tups, I.base.frzs, I.base.tbls⟩, ⟨_, hn', fun j y v' e1 e2 e3 => ?_⟩, fun y c e => ?_, I.free, I.freeC, fun p hp => ?_, fun b ob e => ?_, by simpa using I.len⟩
  · exact (hs.2 b (neL b o e)).trans (I.base.keep b o e n hb hx)
  · obtain ⟨sl, e1⟩ := I.base.slot b o e n hb hx
    exact ⟨sl, (hs.2 b (neL b o e)).trans e1⟩
  · obtain ⟨o', e1⟩ := I.base.there b o e hx
    exact ⟨o', (hs.2 b (neL b o e)).trans e1⟩
  · by_cases hj : j = i
    · subst hj
      rw [List.getElem?_set_self hiσ] at e2
      cases e2
    · rw [List.getElem?_set_ne (Ne.symm hj)] at e2
      obtain ⟨u', r', q⟩ := hl j y v' e1 e2 e3
      refine ⟨u', r', ?_⟩
      rcases q with ⟨k, e⟩ | ⟨k, c, e, z⟩
      · refine .inl ⟨k, ?_⟩
        have : y ≠ n := fun e => hj (nodup_ix hN e1 (e ▸ hi))
        simp [this, e]
      · exact .inr ⟨k, c, e, z.sameBut hs (I.cne y c e)⟩
  · obtain ⟨w', z⟩ := I.cell y c e
    exact ⟨w', z.sameBut hs (I.cne y c e)⟩
  · obtain ⟨e, n, ne, nf, d⟩ := I.pin p hp
    exact ⟨(hs.2 p.1 ne).trans e, n, ne, nf, d⟩
  · refine (I.hok b ob e).stay (fun c w' hc q => (hs.2 c ?_).trans q) (fun _ q => q) fun _ _ q => q
    intro z
    subst z
    rcases hc with z | z
    · rw [← z, I.free] at e; cases e
    · rw [I.free] at z; cases z
def FlyX (X : Cx) (Ex : St → Hp → Addr → Int → Prop) : Value → Shared → Prop := fun e s' => ∃ pins σ H1 s1, Inv X pins σ H1 s1 ∧ CXr X.prog X.w X.stack H1 s1 (XKo σ Ex) e s'
abbrev Cx.bd (X : Cx) (pn : List (Addr × Obj)) (E : Value → Shared → Prop) : Cx := { X with pn := pn, xe := E }
abbrev Cx.tr (X : Cx) (pn : List (Addr × Obj)) (Ex : St → Hp → Addr → Int → Prop) : Cx := X.bd pn (FlyX (X.bd pn X.xe) Ex)
abbrev Cx.hs (X : Cx) (pn : List (Addr × Obj)) (a : Addr) : Cx := { X with A := X.A.mark (some (.ref a)), calm := false, pn := pn, xe := fun _ _ => False }
theorem Inv.bd (I : Inv X pins σ H s) (E : Value → Shared → Prop) : Inv (X.bd (X.pn ++ pins) E) [] σ H s :=
  ⟨⟨I.ok.mod, I.ok.kind, I.ok.glob, I.ok.blt, I.ok.above, I.ok.inj, I.ok.has, I.ok.cab, I.ok.hd, I.ok.frames, I.ok.stk, I.ok.exf, I.ok.bs, I.ok.bsz, I.ok.noex, I.ok.exfs, I.ok.funs, I.ok.frf⟩, I.os, I.bare, I.base, I.loc, I.cell, I.free, I.freeC, fun p hp => I.pin p (by simpa using hp), I.hok, I.len⟩
theorem Inv.hs {pn pins' : List (Addr × Obj)} {E : Value → Shared → Prop} (I : Inv (X.bd pn E) pins' σ H s) (a : Addr) : Inv (X.hs pn a) [] σ H s :=
  ⟨⟨I.ok.mod, I.ok.kind, I.ok.glob, I.ok.blt, I.ok.above, I.ok.inj, I.ok.has, I.ok.cab, (fun z => by cases z), I.ok.frames, I.ok.stk, I.ok.exf, I.ok.bs, I.ok.bsz, I.ok.noex, I.ok.exfs, I.ok.funs, I.ok.frf⟩, I.os, I.bare, I.base, I.loc, I.cell, I.free, I.freeC, fun p hp => I.pin p (List.mem_append_left _ (by simpa using hp)), I.hok, I.len⟩
theorem Inv.ofHs {a : Addr} (ok : X.Ok) (I : Inv (X.hs (X.pn ++ pins) a) [] σ H s) : Inv X pins σ H s :=
  ⟨ok, I.os, I.bare, I.base, I.loc, I.cell, I.free, I.freeC, fun p hp => I.pin p (by simpa using hp), I.hok, I.len⟩
theorem xw_tr {pn : List (Addr × Obj)} {Ex : St → Hp → Addr → Int → Prop} : XW (X.tr pn Ex) Ex := ⟨fun pins σ H s e s' I h => ⟨pins, σ, H, s, ⟨I.ok.unwish, I.os, I.bare, I.base, I.loc, I.cell, I.free, I.freeC, I.pin, I.hok, I.len⟩, h⟩⟩
end
structure ExcCatch (K : PySem.W.Frag) (C D : Addr) : Prop where
  notTup : PySem.W.instIn K (.ref D) (.type "tuple") = some false
  isT : (PySem.W.clsIn K D).isSome = true
  isE : PySem.W.subIn K (.ref D) (.type "BaseException") = some true
  sub : PySem.W.subIn K (.ref C) (.ref D) = some true
theorem exc_matches {K : PySem.W.Frag} {M : Model} {A : Around} {E : Value → Shared → Prop} {s : Shared} {a C D : Addr} {Q : Bool → Shared → Prop} (X : K.In s.heap) (O : ExcCatch K C D) (p : ∃ o, s.heap.get? a = some o ∧ o.cls = .ref C) (h : Q true s) :
    wpAny M A (excMatches (.ref a) (.ref D)) Q E s := by
  obtain ⟨o, h1, h2⟩ := p
  have LT : PySem.W.Looks M s.heap (typeOf (.ref a)) (.ref C) := h2 ▸ (PySem.W.Looks.ld h1).andThen .now
  have L1 := PySem.W.looks_instIn (M := M) X O.notTup
  have L2 := PySem.W.looks_subIn (M := M) X O.isE
  have L3 := PySem.W.looks_subIn (M := M) X O.sub
  have L4 : PySem.W.Looks M s.heap (isType (.ref D)) true := by
    have z := O.isT
    unfold PySem.W.clsIn at z
    split at z
    · rename_i ho
      intro A' Q' E' s' k q
      unfold isType loadHead
      exact wpAny_bind (wpAny_loadPart (k _ _ (X _ _ ho)) (wpAny_pure q))
    · cases z
  have L5 : PySem.W.Looks M s.heap (isExcClass (.ref D)) true := L4.andThen L2
  unfold excMatches
  refine wpAny_bind (L1.at ?_)
  rw [if_neg (by decide)]
  refine wpAny_bind (wpAny_pure ?_)
  refine wpAny_bind ?_
  rw [List.forIn_cons]
  refine wpAny_bind (wpAny_bind (L5.at ?_))
  simp only [Bool.not_true, Bool.false_eq_true, if_false]
  refine wpAny_pure ?_
  simp only [List.forIn_nil]
  refine wpAny_pure (wpAny_bind (LT.at (wpAny_bind ?_)))
  rw [List.forIn_cons]
  refine wpAny_bind (wpAny_bind (L3.at ?_))
  simp only [if_true]
  exact wpAny_pure (wpAny_pure (wpAny_pure h))
def Out.unset (i : Nat) : Out → Out
  | .next G => .next (G.set i none)
  | .ret d => .ret d
theorem SD.unset {K : PySem.W.Frag} {H : Hp} {σ : St} {G : Gam} (h : SD K H σ G) (i : Nat) : SD K H (σ.set i none) (G.set i none) := by
  refine ⟨by rw [List.length_set, List.length_set, h.1], fun j d e => ?_⟩
  by_cases hj : i = j
  · subst hj
    by_cases hl : i < G.length
    · rw [List.getElem?_set_self hl] at e; cases e
    · rw [List.getElem?_eq_none (by rw [List.length_set]; omega)] at e; cases e
  · rw [List.getElem?_set_ne hj] at e ⊢
    exact h.2 j d e
theorem Lies.caught {P : Program} {w : World} {l : List Env} {H H' : Hp} {h h' B : Heap} {a t C dx : Addr} (L : Lies P w l a H H' h h' B) (F : Heap.FlyingW B l a (.ref C) (.ref t) h') (Dx : ∃ oe, h'.get? a = some oe ∧ oe.dict = some dx) :
    Un (frs l) [] H (upd H' a (.ext (ExcDAt a C dx))) h h' ∧ HOk P w (upd H' a (.ext (ExcDAt a C dx))) h' ∧ H' a = none := by
  obtain ⟨oe, vs, e1, e2, e3, _⟩ := F.first
  obtain ⟨oe', x1, x2⟩ := Dx
  rw [e1] at x1; cases x1
  have na : H' a = none := by
    cases q : H' a with
    | none => rfl
    | some u =>
      obtain ⟨o, eo⟩ := (L.hok a u q).ex
      have := L.trk a o eo (by rw [q]; simp)
      rw [F.2.1] at this; cases this
  have nf : a ∉ frs l := fun hm => by
    obtain ⟨_, o, eo, hd⟩ := F.2.2.1.mem hm
    rw [e1] at eo; cases eo
    exact hd vs e3
  have nh : ∀ o, h.get? a = some o → H a ≠ none := fun o q n => by
    have eo := L.old a o q n nf
    rw [F.2.1] at eo; cases eo
  refine ⟨⟨L.un.keep, L.un.slot, fun b o e n hx => ?_, L.un.there, fun b xs e => ?_, fun b o u e => ?_, fun b ps e => ?_⟩, fun b u e => ?_, na⟩
  · rw [upd_ne (fun z => by subst z; exact nh o e n)]
    exact L.un.free b o e n hx
  · have q := L.un.tups b xs e
    rw [upd_ne (ne_of_none q na)]
    exact q
  · have q := L.un.frzs b o u e
    rw [upd_ne (ne_of_none q na)]
    exact q
  · obtain ⟨more, q⟩ := L.un.tbls b ps e
    exact ⟨more, by rw [upd_ne (ne_of_none q na)]; exact q⟩
  · by_cases hb : b = a
    · subst hb
      rw [upd_same] at e
      cases e
      exact ⟨⟨oe, vs, e1, e2, e3, x2⟩, ⟨oe, e1⟩, fun h1 h2 ⟨o, ws, q1, q2, q3, q4⟩ k => ⟨o, ws, k o q1, q2, q3, q4⟩⟩
    · rw [upd_ne hb] at e
      exact (L.hok b u e).stay (fun _ _ _ q => q) (fun c q => by rw [upd_ne (ne_of_none q na)]; exact q) fun c xs q => by rw [upd_ne (ne_of_none q na)]; exact q
section
variable {X : Cx} {G G' G1 : Gam} {o : Out} {body suite : List Stmt} {b₀ : Stmt} {C D : Addr} {rn : Int} {ie : Nat} {n x : Str} {pos hpos np : Pos}
theorem sv_try_exc (hst : X.stack = X.env :: X.outer) (hfr : X.env.frame = some X.env.locals) (hN : X.N.Nodup) (hi : X.N[ie]? = some n) (hk : X.env.scope.names.lookup n = some .local) (hg : Gl X x) (hm : X.mg x = some (.ref D)) (O : ExcCatch X.K C D)
    (hb : ∀ pn Ex, SXvs (X.tr pn Ex) Ex G body G' C rn) (hh : ∀ pn a, SVs (X.hs pn a) (G'.set ie (some (excRD C rn))) (b₀ :: suite) o) (hd : (x == ("__debug__" : Str)) = false := by decide) :
    SV X G (.Try body [.ExceptHandler (some (.Name x np)) (some n) (b₀ :: suite) hpos] [] [] pos) (o.unset ie) := by
  intro pins s σ H D0 I ⟨hσ, q⟩
  refine wpAny_Try_except ?_
  refine wpAny_mono (hb (X.pn ++ pins) (fun σ' H' c m => (c = C ∧ m = rn) ∧ SD X.K H' σ' G' ∧ Same H H') [] s σ H ⟨fun _ _ => False, fun _ _ => False, fun _ _ => False, fun _ _ => False⟩ (I.bd _) ⟨hσ, fun σ' H' s' h' => ⟨⟨rfl, rfl⟩, h', s'⟩⟩) (fun f s1 z => ?_) fun e s1 z => ?_
  · exfalso
    cases f with
    | next => obtain ⟨_, _, _, z⟩ := z; exact z
    | brk => obtain ⟨_, _, _, z⟩ := z; exact z
    | cont => obtain ⟨_, _, _, z⟩ := z; exact z
    | ret v => obtain ⟨_, _, _, _, _, z⟩ := z; exact z
  · obtain ⟨pins', σ', H1, s1', I1, a, t, cls, od, H', B, rfl, os, bare, L, F, ⟨oe, oe1, oe2⟩, C', dx, rn', rfl, rfl, hrow, ⟨rfl, rfl⟩, hσ', sm⟩ := z
    have F0 : Heap.FlyingW B (X.env :: X.outer) a (.ref C') (.ref t) s1.heap := hst ▸ F
    refine (kd_note _ _).any (wpAny_looks_onW (I1.ok.frames.trans (congrArg some hst)) hfr F0 fun h4 F4 up4 dk4 => ?_)
    refine (kd_setFlight _ _).any (wpAny_landsW F4 fun h5 F5 up5 dk5 => ?_)
    have L5 := (L.step F4.1 up4 I1.frs_ok (let ⟨o, e, _⟩ := F4.there; ⟨o, e⟩)).step F5.1 up5 I1.frs_ok (FlyingW.ex F5)
    obtain ⟨oe5, oe51, oe52⟩ := (Dk.trans dk4 dk5) a oe oe1
    have I5 : Inv (X.bd (X.pn ++ pins) X.xe) pins' σ' H' { s1 with heap := h5 } := I1.call' os L5.un L5.hok bare (fun _ z => nomatch z)
    have J5 := I5.hs a
    refine wpAny_handleBy_cons (codeAny_handlers_test (ld_glob J5 hg hm ?_ hd)) (by intro z; cases z)
    refine exc_matches J5.kIn O F5.there ?_
    refine codeAny_handlers_suite_as ?_
    refine lands_againD F5 fun h6 F6 up6 dk6 => ?_
    have L6 := L5.step F6.1 up6 I1.frs_ok (FlyingW.ex F6)
    obtain ⟨oe6, oe61, oe62⟩ := dk6 a oe5 oe51
    obtain ⟨un6, ok6, na⟩ := L6.caught (hst ▸ F6) ⟨oe6, oe61, oe62.trans (oe52.trans oe2)⟩
    have I6 : Inv (X.bd (X.pn ++ pins) X.xe) pins' σ' (upd H' a (.ext (ExcDAt a C' dx))) { s1 with heap := h6 } := I1.call' os un6 ok6 bare (fun _ z => nomatch z)
    have J6 := I6.hs a
    have sm6 : Same H (upd H' a (.ext (ExcDAt a C' dx))) := sm.trans (Same.new na)
    refine store_ok (X := X.hs (X.pn ++ pins) a) J6 hN hi (.inl hk) (v := .ref a) rfl (fun s7 J7 => ?_) (.inr hk)
    have sd7 : SD X.K (upd H' a (.ext (ExcDAt a C' dx))) (σ'.set ie (some (.ref a))) (G'.set ie (some (excRD C' rn'))) := (hσ'.mono (Same.new na)).set (.exr upd_same (by rw [upd_ne (ne_of_none hrow na)]; exact hrow))
    have hsu := hh (X.pn ++ pins) a
    cases o with
    | next G2 =>
      refine wpAny_mono (hsu [] s7 _ _ ⟨fun σ8 H8 => SD X.K H8 σ8 G2 ∧ Same H H8, fun _ _ => False, fun _ _ => False, fun _ _ => False⟩ J7 ⟨sd7, fun σ8 H8 s8 h8 => ⟨h8, sm6.trans s8⟩⟩) (fun f s8 z => ?_) fun _ _ z => z.elim
      cases f with
      | next =>
        obtain ⟨σ8, H8, J8, h8, sm8⟩ := z
        exact Inv.gone (X := X.hs (X.pn ++ pins) a) J8 hN hi hk fun s9 J9 => ⟨_, H8, J9.ofHs I.ok, q _ H8 sm8 (h8.unset ie)⟩
      | brk => obtain ⟨_, _, _, z⟩ := z; exact z.elim
      | cont => obtain ⟨_, _, _, z⟩ := z; exact z.elim
      | ret v => obtain ⟨_, _, _, _, _, z⟩ := z; exact z.elim
    | ret d =>
      refine wpAny_mono (hsu [] s7 _ _ ⟨fun _ _ => False, fun v H8 => DV X.K H8 v d ∧ Same H H8, fun _ _ => False, fun _ _ => False⟩ J7 ⟨sd7, fun v H8 s8 h8 => ⟨h8, sm6.trans s8⟩⟩) (fun f s8 z => ?_) fun _ _ z => z.elim
      cases f with
      | ret u =>
        obtain ⟨v, σ8, H8, J8, r8, h8, sm8⟩ := z
        exact Inv.gone (X := X.hs (X.pn ++ pins) a) J8 hN hi hk fun s9 J9 => ⟨v, _, H8, J9.ofHs I.ok, r8, q v H8 sm8 h8⟩
      | next => obtain ⟨_, _, _, z⟩ := z; exact z.elim
      | brk => obtain ⟨_, _, _, z⟩ := z; exact z.elim
      | cont => obtain ⟨_, _, _, z⟩ := z; exact z.elim
end
section
variable {K : PySem.W.Frag}
structure ExcLook (K : PySem.W.Frag) (C : Addr) : Prop where
  ga : PySem.W.findIn K (.ref C) "__getattribute__" = some (some (.builtin "BaseException.__getattribute__"))
  hook : PySem.W.findIn K (.ref C) "__getattr__" = some none
  cl : PySem.W.findIn K (.ref C) "__class__" = some (some (.builtin "object.__class__"))
  get : PySem.W.specialIn K (.builtin "object.__class__") "__get__" = some (some (.builtin "getset_descriptor.__get__"))
  tk : PySem.W.takesIn K (.builtin "object.__class__") = some true
  mo : PySem.W.mroIn K C (.type "object") = some true
  mb : PySem.W.mroIn K C (.type "BaseException") = some true
  isC : (PySem.W.clsIn K C).isSome = true
end
end L2
set_option maxRecDepth 100000
set_option maxHeartbeats 400000
namespace L2
open PySem PySem.Spec PyProof.Rows PySem.W Builtin Builtin.ObjectAttr Builtin.Getset_descriptor
section
variable {K : PySem.W.Frag} {prog : Program} {w : World} {A : Around} {E : Value → Shared → Prop} {s : Shared} {a C : Addr} {o : Obj}
theorem looksT {M : Model} {h : Heap} (p : ∃ o, h.get? a = some o ∧ o.cls = .ref C) : PySem.W.Looks M h (typeOf (.ref a)) (.ref C) := by
  obtain ⟨o, h1, h2⟩ := p
  exact h2 ▸ (PySem.W.Looks.ld h1).andThen .now
theorem exc_cget {R : Result → Shared → Prop} {tp : Value} (X : K.In s.heap) (p : ∃ o, s.heap.get? a = some o ∧ o.cls = .ref C) (O : ExcLook K C) (h : R (.ok (.ret (.ref C))) s) :
    codeAny (model prog w) A (.call (.builtin "getset_descriptor.__get__") ⟨[.builtin "object.__class__", .ref a, tp], []⟩) R s := by
  have T0 := looksT (M := model prog w) p
  have T1 := looks_mroIn (M := model prog w) X O.mo
  obtain ⟨h1, g1, d1, t1, o1⟩ := s
  refine codeAny_call_builtin KF.slot_gs.plain KF.entry_gs ?_
  refine KF.slot_gs.check _ _ _ _ _ _ _ _ KF.type_class (KF.args_gs _ _ _) ?_
  unfold Builtin.«getset_descriptor.__get__»
  unfold descrGet
  rw [dga_obj]
  refine wpAny_bind (wpAny_pure ?_)
  unfold descrGetter
  unfold descrCheckInstance descrNameAndClass
  unfold isInstance
  simp only [KF.owner_class]
  repeat lk
  have en := KF.entry_class
  refine ⟨Code.quiet_builtin _ (by decide +kernel), codeAny_builtin en ?_⟩
  unfold Builtin.«object.__class__»
  unfold shownTypeOf
  repeat lk
  exact h
theorem exc_find {M : Model} {h : Heap} (X : K.In h) (O : ExcLook K C) : PySem.W.Looks M h (Builtin.ObjectAttr.find (.ref a) (.ref C) "__class__") (Builtin.ObjectAttr.Found.bind (.builtin "getset_descriptor.__get__") (.builtin "object.__class__")) := by
  have L1 := looks_findIn (M := M) X O.cl
  have L2 := looks_specialIn (M := M) X O.get
  have L3 := looks_takesIn (M := M) X O.tk
  have L4 : PySem.W.Looks M h (dataDescriptor? (some (Value.builtin "object.__class__")) (some (Value.builtin "getset_descriptor.__get__"))) (some (Value.builtin "getset_descriptor.__get__", Value.builtin "object.__class__")) := PySem.W.Looks.andThen L3 .now
  have L5 : PySem.W.Looks M h (getOf (some (Value.builtin "object.__class__"))) (some (Value.builtin "getset_descriptor.__get__")) := L2
  exact L1.andThen (L5.andThen (L4.andThen (PySem.W.Looks.tag .now)))
theorem exc_entry {Q : Fin → Shared → Prop} {tk : Tok} (X : K.In s.heap) (p : ∃ o, s.heap.get? a = some o ∧ o.cls = .ref C) (O : ExcLook K C) (h : Q (.done (.ret (.ref C))) s) :
    wpAny (model prog w) A (Builtin.«object.__getattribute__» ⟨[.ref a, .str "__class__" tk], []⟩) Q E s := by
  have T0 := looksT (M := model prog w) p
  have T1 := exc_find (a := a) (M := model prog w) X O
  obtain ⟨h1, g1, d1, t1, o1⟩ := s
  unfold Builtin.«object.__getattribute__»
  repeat lk
  refine wpAny_run (c := Code.call (.builtin "getset_descriptor.__get__") ⟨[.builtin "object.__class__", .ref a, .ref C], []⟩) (h := none) (exc_cget X p O ?_)
  exact wpAny_pure (wpAny_pure h)
theorem exc_check {M : Model} {nameV : Value} {Q : Unit → Shared → Prop} (X : K.In s.heap) (p : ∃ o, s.heap.get? a = some o ∧ o.cls = .ref C) (O : ExcLook K C) (h : Q () s) :
    wpAny M A (checkBuiltinCall "BaseException.__getattribute__" ⟨[.ref a, nameV], []⟩) Q E s := by
  have T0 := looksT (M := M) p
  have T1 := looks_mroIn (M := M) X O.mb
  have b1 : builtinKind "BaseException.__getattribute__" = some .slot := by decide +kernel
  have b2 : splitId "BaseException.__getattribute__" = some ("BaseException", "__getattribute__") := by decide +kernel
  have b3 := F.args_bexc_ga (.ref a) nameV
  simp only [checkBuiltinCall, b1, b2]
  obtain ⟨h1, g1, d1, t1, o1⟩ := s
  refine wpAny_bind ?_
  unfold isInstance
  repeat lk
  exact h
theorem exc_class {Q : Option Value → Shared → Prop} (X : K.In s.heap) (p : ∃ o, s.heap.get? a = some o ∧ o.cls = .ref C) (O : ExcLook K C) (h : Q (some (.ref C)) { s with toks := s.toks + 1 }) :
    wpAny (model prog w) A (getAttr? (.ref a) "__class__") Q E s := by
  have T0 := looksT (M := model prog w) p
  have T1 := looks_findIn (M := model prog w) X O.ga
  have T2 := looks_findIn (M := model prog w) X O.hook
  have T3 := F.attr_ValueError.ga.bind (.ref a)
  have b1 : (Value.builtin "BaseException.__getattribute__" == Value.builtin "object.__getattribute__") = false := by decide +kernel
  obtain ⟨h1, g1, d1, t1, o1⟩ := s
  unfold getAttr? getAttrBy? getAttrBy
  refine wpAny_bind (wpAny_mkText (wpAny_bind (wpAny_attempt (wpAny_holding (wpAny_bind (T0.at (wpAny_bind (T1.at ?_))))))))
  dsimp only
  rw [b1, Bool.and_false, if_neg Bool.false_ne_true]
  unfold getAttrByItsOwn hookBefore
  rw [show onTheHeap (.ref C) = true from rfl, if_pos rfl]
  refine wpAny_bind (T2.at (wpAny_bind (wpAny_attempt (wpAny_holding ?_))))
  unfold callGetattribute boundAndCalled
  rw [if_neg (by decide)]
  refine wpAny_bind (wpAny_of_eq T3 ?_)
  refine wpAny_call (codeAny_call_builtin F.attr_ValueError.ga.plain F.entry_bexc_ga ?_)
  refine exc_check X p O (exc_entry X p O ?_)
  exact wpAny_pure (wpAny_pure h)
theorem exc_kit {K : PySem.W.Frag} {C : Addr} (O : ExcLook K C) : ExcIsi K C := fun a φ hφ => {
  ty := fun M h X p => looksT (hφ h p)
  it := fun M h X p => by
    have z := O.isC
    unfold PySem.W.clsIn at z
    split at z
    · rename_i ho
      intro A' Q' E' s' k q
      unfold isType loadHead
      exact wpAny_bind (wpAny_loadPart (k _ _ (X _ _ ho)) (wpAny_pure q))
    · cases z
  ne := fun h tp dd its n sl X htp => by
    refine Bool.eq_false_iff.mpr fun q => ?_
    have e : C = tp := Value.ref.inj (beq_iff_eq.mp q)
    subst e
    have z := O.isC
    unfold PySem.W.clsIn at z
    split at z
    · rename_i ho
      have y := (X _ _ ho).symm.trans htp
      cases y
    · cases z
  ca := fun X p k => exc_class X (hφ _ p) O k }
end
section
variable {X : Cx} {G : Gam} {a : Expr} {da : PyData} {pos p p2 : Pos}
theorem ev_isiO {k : Bool} {D : Addr} {x1 : Str} (ha : EV X G a da) (hg : Gl X "isinstance") (hm : X.mg "isinstance" = none) (hg1 : Gl X x1) (hm1 : X.mg x1 = some (.ref D)) (e : PySem.W.kitOne X.K (tyD da) (.ref D) = some k)
    (hX : ∀ C, da = excD C → ExcIsi X.K C) (hX2 : ∀ C n, da = excRD C n → ExcIsi X.K C := by intro _ _ z; first | cases z | (unfold excD at z; cases z)) (hd1 : (x1 == ("__debug__" : Str)) = false := by decide) (hv : bootBuiltins "isinstance" = some (.builtin "isinstance") := by decide +kernel)
    (he : starEach [a, .Name x1 p2] X.env = (false, eval a X.env) :: starEach [.Name x1 p2] X.env := by rfl) (he2 : starEach [.Name x1 p2] X.env = (false, eval (.Name x1 p2) X.env) :: starEach [] X.env := by rfl)
    (hpl : (backTo pos (starEach [.Name x1 p2] X.env)).any (·.1) = false := by rfl) :
    EV X G (.Call (.Name "isinstance" p) [a, .Name x1 p2] [] pos) (.bool k) := by
  have cr : CallR X (.builtin "isinstance") (fun xs H Q => ∃ v, xs = [v, .ref D] ∧ DV X.K H v da ∧ Q (.bl k) H) := by
    intro pins s σ H xs us Q I rs ⟨v, ex, dv, q⟩
    subst ex
    obtain ⟨u, w, rfl, ru, rw'⟩ := vals2 rs
    cases rw'
    exact isinst_D I dv ru e (fun tk => ⟨.bl k, H, I.tok tk, rfl, q⟩) hX hX2
  refine (pe_callB cr hg hm hv (pa_cons ha (pa_cons (pe_glob (v := .ref D) hg1 hm1 rfl hd1) pa_nil he2) he) (by decide) (by decide) he hpl).imp fun σ H Q ⟨h, q⟩ => ⟨h, fun v H1 s1 d1 => ⟨v, rfl, d1, q _ H1 s1 (.bl k)⟩⟩
end
end L2
set_option maxRecDepth 100000
set_option maxHeartbeats 1000000
namespace L2
open PySem PySem.Spec PyProof.Rows
section
variable {P : Program} {w : World} {K : PySem.W.Frag} {mg : Str → Option Value} {base : Heap}
theorem Fun.okX {x qual : Str} {st : Stmt} {f : Addr} {fd : FuncData} {N ps : List Str} {k : Nat} {sp : Sp} (F : Fun K x qual st f fd) (S : FnScope N ps (defScope st)) (len : ∀ vs H Q E, sp vs H Q E → vs.length = ps.length)
    (hbody : ∀ (cdv : Value) (A : Around) (outer : List Env) (s : Shared) (H : Hp) (vs : List V) (Q : VK) (E : XK), Room k (A.deeper (envOfC qual (defScope st) s.heap.objs.size f cdv)) → sp vs H Q E →
      ∃ t, PSs (cxR P w K mg base N qual (defScope st) f cdv A outer s H E) (defBody st) t ∧ t { nx := fun _ H' => Q .non H', rt := Q } (start N vs) H) : FnOk P w K mg base (CXr P w) (k + 1) f fd ps sp := by
  obtain ⟨oc, od, kV, doc, pm, an, cdv, ct, osl, rfl, lk, hcd⟩ := F.ex
  exact fn_of lk hcd S len fun A outer s H vs Q E hr hsp => hbody cdv A outer s H vs Q E hr hsp
end
section
variable {X : Cx} {Ex : St → Hp → Addr → Int → Prop} {G : Gam} {C Cx f : Addr} {rn : Int} {fd : FuncData} {ps : List Str} {sp : Sp} {k : Nat} {e o : Expr} {es : List Expr} {pos p apos : Pos} {x : Str} {ds : List PyData} {d : PyData}
theorem ex_make (M : Mk X.K C f) (F : FnOk X.prog X.w X.K X.mg X.base (CXr X.prog X.w) k f fd ps sp) (hr : Room (k + 1) X.A) (hg : Gl X x) (hm : X.mg x = some (.ref C)) (hb : Binds X.K fd ps []) (W : XW X Ex) (ha : AV X G (e :: es) ds)
    (hs : ∀ vs H y dy Q E, DVs X.K H vs ds → H y = none → H dy = none → dy ≠ y → (∀ H' dx, Same H H' → RowAt H' dx rn → E (.ref Cx) (some dx) H') → sp (.ref y :: vs) (upd (upd H dy (.own y)) y (.ins C dy [])) Q E)
    (hdb : (x == ("__debug__" : Str)) = false := by decide) (he : starEach (e :: es) X.env = (false, eval e X.env) :: starEach es X.env := by rfl) (hpl : (backTo pos (starEach es X.env)).any (·.1) = false := by rfl) :
    EXv X Ex G (.Call (.Name x p) (e :: es) [] pos) Cx rn := by
  intro pins s0 σ H0 Q I0 ⟨h, q⟩
  refine wpAny_Call_Name_kw (ld_glob I0 hg hm ?_ hdb)
  refine PySem.W.callWith_K (h₀ := X.base) I0.ok.mod.kin M.kp (thn (ha pos pins s0 σ H0 (fun vs H1 => Same H0 H1 ∧ DVs X.K H1 vs ds) I0 ⟨h, fun vs H1 s1 d1 => ⟨s1, d1⟩⟩) fun us s ⟨vs, H, I, r, sm, dv⟩ => ⟨I.kIn, ?_⟩) he hpl
  have n1 : H (s.heap.objs.size + 1) = none := I.hok.fresh (Nat.le_succ _)
  have n2 : H s.heap.objs.size = none := I.hok.fresh (Nat.le_refl _)
  have hne : s.heap.objs.size ≠ s.heap.objs.size + 1 := Nat.ne_of_lt (Nat.lt_succ_self _)
  have hq := hs vs H (s.heap.objs.size + 1) s.heap.objs.size (fun v H2 => v = .non ∧ Q (.ref (s.heap.objs.size + 1)) H2) (XKo σ Ex) dv n1 n2 hne fun H' dx s' r' => ⟨Cx, dx, rn, rfl, rfl, r', q H' (sm.trans s')⟩
  have I2 := Inv.made (C := C) I
  have r2 : Vals (V.ref (s.heap.objs.size + 1) :: vs) (Value.ref (s.heap.objs.size + 1) :: us) := .cons rfl r
  have hl : (Value.ref (s.heap.objs.size + 1) :: us ++ []).length = ps.length := by
    have e := r2.length
    rw [F.len _ _ _ _ hq] at e
    rw [List.append_nil]
    exact e.symm
  have hbb := hb _ (Value.ref (s.heap.objs.size + 1) :: us) I2.kIn hl
  rw [List.append_nil] at hbb
  refine wpAny_call (make_map (f := f) I.kIn M.makes M.init (beq_iff_eq.mp M.fn) (codeAny_mono (F.run _ X.stack _ _ ⟨Value.ref (s.heap.objs.size + 1) :: us, []⟩ (Value.ref (s.heap.objs.size + 1) :: us) _ _ (XKo σ Ex) (hr.make C us [])
    (I2.env0.make C us []) hbb r2 hq) fun r s' hq' => ?_))
  cases r with
  | error e => exact W.pass pins σ _ _ e s' I2 hq'
  | ok fl =>
    cases fl with
    | ret u =>
      obtain ⟨v, H', I3, rv, ev, q3⟩ := I2.after hq'
      subst ev
      exact ⟨rv, ⟨V.ref (s.heap.objs.size + 1), H', I3, rfl, q3⟩⟩
    | next => exact False.elim hq'
    | brk => exact False.elim hq'
    | cont => exact False.elim hq'
end
structure OI2 (K : PySem.W.Frag) (a C dx : Addr) (H0 : Hp) (n : Nat) (names : List Str) (fd : List (Str × PyData)) (σ : St) (G : Gam) (fs : List (Str × V)) (H : Hp) : Prop where
  oi : OI K a C dx H0 n fd σ G fs H
  no : ∀ g, g ∉ names → fs.lookup g = none
section
variable {X : Cx} {G : Gam} {e : Expr} {pos pos' pos2 : Pos} {x f : Str} {d : PyData}
end
section
variable {X : Cx} {G : Gam} {a e c : Expr} {da : PyData} {pos p p2 p3 p4 p5 p6 q1 q2 : Pos} {k : Bool}
end
end L2
set_option maxRecDepth 100000
set_option maxHeartbeats 1000000
namespace L2
open PySem PySem.Spec PyProof.Rows Builtin Builtin.ObjectAttr
abbrev excO (C t : Addr) : Obj := { cls := .ref C, data := .fields #[.ref t, .none, .none, .none, .bool false, .none] }
abbrev tupO (vs : List Value) : Obj := { cls := .type "tuple", data := .seq vs.toArray }
section
variable {prog : Program} {w : World} {A : Around} {h : Heap} {g : Array GenState} {d : Drawn} {t : Nat} {os : OsState}
variable {nm q : Str} {C N fI : Addr} {bs bm bmB : List Value} {hdct : Bool} {sn : List Str} {sub : List Value} {ab : Bool} {col : Option Bool} {dd : Option Addr} {k0 k1 k2 k3 k5 : Option Value} {B newId initId : String}
theorem excI_body (F : ExcBaseFacts B newId initId bmB) (T : OwnTail h bmB bm) {rest : List Value} {Q : PySem.Fin → Shared → Prop} {E : Value → Shared → Prop} (hC : h.get? C = some (excClassObj nm q C N bs bm hdct sn sub ab col dd k0 k1 k2 k3 k5 newId))
    (L1 : PySem.W.Looks (model prog w) h (typeLookup (.ref C) "__init__") (some (.ref fI))) (L2 : ∀ self, PySem.W.Looks (model prog w) h (bindSpecial (.ref fI) self) (.ref fI, [self])) (hz : rest.length ≤ sizeLine)
    (hq : wpAny (model prog w) A (call (.ref fI) (.ref (h.objs.size + 1) :: rest)) (fun r s' => r = .none ∧ Q (.done (.ret (.ref (h.objs.size + 1)))) s') E ⟨(h.push (tupO rest)).push (excO C h.objs.size), g, d, t, os⟩) :
    wpAny (model prog w) A (Builtin.«type.__call__» ⟨.ref C :: rest, []⟩) Q E ⟨h, g, d, t, os⟩ := by
  repeat (first | with_reducible refine wpAny_madeBy_exc hC ?_ | with_reducible refine wpAny_loadPart_at hC ?_ | wp_step)
  refine codeAny_call_builtin_code (Code.quiet_builtin _ F.quiet) (wpAny_check_new_subT F T hC (codeAny_exc_new_subT F T hC ?_ hz))
  show wpAny _ _ _ _ _ _
  have k : ∀ b o, h.get? b = some o → ((h.push (tupO rest)).push (excO C h.objs.size)).get? b = some o := fun b o e => Heap.get?_push_of_some _ (Heap.get?_push_of_some _ e)
  have hC1 := k _ _ hC
  have hg : ((h.push (tupO rest)).push (excO C h.objs.size)).get? (h.objs.size + 1) = some (excO C h.objs.size) := by heap_get
  have own : (Value.ref C :: bm).contains (.ref C) = true := by simp
  unfold isInstance
  repeat (first | with_reducible refine wpAny_loadPart_at hg ?_ | (with_reducible refine wpAny_isSubtype_exc hC1 ?_; rw [own]) | wp_step)
  refine L1 _ _ _ _ k ?_
  refine wpAny_holding (wpAny_bind (L2 (.ref (h.objs.size + 1)) _ _ _ _ k (wpAny_bind (wpAny_mono hq (fun r s' hr => ?_) fun _ _ x => x))))
  obtain ⟨rfl, hQ⟩ := hr
  wp_walk
  exact hQ
theorem excI_call {E : Value → Shared → Prop} {rest : List Value} {Q : Value → Shared → Prop} (F : ExcBaseFacts B newId initId bmB) (T : OwnTail h bmB bm) (hC : h.get? C = some (excClassObj nm q C N bs bm hdct sn sub ab col dd k0 k1 k2 k3 k5 newId))
    (L1 : PySem.W.Looks (model prog w) h (typeLookup (.ref C) "__init__") (some (.ref fI))) (L2 : ∀ self, PySem.W.Looks (model prog w) h (bindSpecial (.ref fI) self) (.ref fI, [self])) (hz : rest.length ≤ sizeLine)
    (hq : wpAny (model prog w) (A.under (.builtin "type.__call__" ⟨.ref C :: rest, []⟩)) (call (.ref fI) (.ref (h.objs.size + 1) :: rest)) (fun r s' => r = .none ∧ Q (.ref (h.objs.size + 1)) s') E ⟨(h.push (tupO rest)).push (excO C h.objs.size), g, d, t, os⟩) :
    wpAny (model prog w) A (call (.ref C) rest) Q E ⟨h, g, d, t, os⟩ := by
  have l1 := tc_lookup
  have l2 := tc_bind (.ref C)
  have l3 : (⟨h, g, d, t, os⟩ : Shared).TypeIs (.ref C) "type" := ⟨_, hC, rfl⟩
  refine wpAny_call (codeAny_of_tree (show wpAny _ _ (callAny (.ref C) _) _ _ _ from ?_))
  repeat (any_goals (first | with_reducible refine wpAny_loadPart_at hC ?_ | assumption | wp_step))
  refine ⟨rfl, codeAny_call_builtin_at (Code.quiet_builtin _ (by decide +kernel)) entry_typeCall (wpAny_check_type_call_sub hC (excI_body F T hC L1 L2 hz hq))⟩
theorem excI_base (F : ExcBaseFacts B newId initId bmB) (T : OwnTail h bmB bm) {R : Result → Shared → Prop} {rest : List Value} {e t0 : Addr} (hC : h.get? C = some (excClassObj nm q C N bs bm hdct sn sub ab col dd k0 k1 k2 k3 k5 newId))
    (he : h.get? e = some (excO C t0)) (hz : rest.length ≤ sizeLine)
    (hq : ∀ h', (∀ b o, b ≠ e → h.get? b = some o → h'.get? b = some o) → h'.get? e = some (excO C h.objs.size) → R (.ok (.ret .none)) ⟨h', g, d, t, os⟩) :
    codeAny (model prog w) A (.call (.builtin initId) ⟨.ref e :: rest, []⟩) R ⟨h, g, d, t, os⟩ := by
  refine codeAny_call_builtin F.init.plain F.initEntry (wpAny_check_init_subT F T hC he rfl ?_)
  wp_walk
  refine hq _ (fun b o hb e' => ?_) ?_
  · rw [Heap.get?_update_other _ _ (Ne.symm hb)]
    exact Heap.get?_push_of_some _ e'
  · rw [Heap.get?_update_self _ (Heap.get?_push_of_some _ he) rfl]
    rfl
end
section
variable {prog : Program} {w : World} {A : Around} {E : Value → Shared → Prop} {h : Heap} {g : Array GenState} {d : Drawn} {t : Nat} {os : OsState} {e C t0 : Addr} {name : Str} {v : Value} {mro : List Value} {cd : ClassData} {oc : Value} {od : Option Addr} {sl : Array (Option Value)}
theorem excI_get {expr : Bool} {Q : Value → Shared → Prop} (T0 : PySem.W.Looks (model prog w) h (typeOf (.ref e)) (.ref C)) (L1 : PySem.W.Looks (model prog w) h (typeLookup (.ref C) "__getattribute__") (some (.builtin "BaseException.__getattribute__")))
    (L2 : PySem.W.Looks (model prog w) h (typeLookup (.ref C) "__getattr__") none) (L3 : PySem.W.Looks (model prog w) h (find (.ref e) (.ref C) name) (.value v)) (L4 : PySem.W.Looks (model prog w) h (isSubtype (.ref C) (.type "BaseException")) true) (L5 : PySem.W.Looks (model prog w) h (handedOut v) v)
    (hb : bindSpecial (.builtin "BaseException.__getattribute__") (.ref e) = pure (.builtin "BaseException.__getattribute__", [.ref e])) (pl : plainId "BaseException.__getattribute__" = true)
    (hq : Q v ⟨h, g, d, t + 1, os⟩) : wpAny (model prog w) A (getAttr (.ref e) name expr) Q E ⟨h, g, d, t, os⟩ := by
  have b1 : (Value.builtin "BaseException.__getattribute__" == Value.builtin "object.__getattribute__") = false := by decide +kernel
  have b2 : builtinKind "BaseException.__getattribute__" = some .slot := by decide +kernel
  have b3 : splitId "BaseException.__getattribute__" = some ("BaseException", "__getattribute__") := by decide +kernel
  have b4 := F.args_bexc_ga (.ref e) (.str name t)
  have kk : ∀ b o, h.get? b = some o → h.get? b = some o := fun _ _ z => z
  unfold getAttr getAttrBy
  refine wpAny_bind (wpAny_mkText (wpAny_holding (wpAny_bind (T0 _ _ _ _ kk (wpAny_bind (L1 _ _ _ _ kk ?_))))))
  dsimp only
  rw [b1, Bool.and_false, if_neg Bool.false_ne_true]
  unfold getAttrByItsOwn hookBefore
  rw [show onTheHeap (.ref C) = true from rfl, if_pos rfl]
  refine wpAny_bind (L2 _ _ _ _ kk (wpAny_bind (wpAny_attempt (wpAny_holding ?_))))
  unfold callGetattribute boundAndCalled
  rw [show (expr && onTheHeap (Value.builtin "BaseException.__getattribute__")) = false from by cases expr <;> rfl, if_neg (by decide)]
  refine wpAny_bind (wpAny_of_eq hb ?_)
  refine wpAny_call (codeAny_call_builtin pl F.entry_bexc_ga ?_)
  simp only [List.cons_append, List.nil_append, checkBuiltinCall, b2, b3]
  refine wpAny_bind ?_
  unfold isInstance
  refine wpAny_bind (T0 _ _ _ _ kk (L4 _ _ _ _ kk ?_))
  simp only [if_false, Bool.not_true, Bool.false_eq_true]
  wp_step
  refine wpAny_of_eq (show _ = pure () from b4) ?_
  unfold Builtin.«object.__getattribute__»
  refine wpAny_bind (wpAny_pure (wpAny_bind (wpAny_pure (wpAny_bind (T0 _ _ _ _ kk (wpAny_bind (L3 _ _ _ _ kk (wpAny_pure ?_))))))))
  exact L5 _ _ _ _ kk hq
theorem excI_put {Q : PySem.Fin → Shared → Prop} {tk : Tok} (hC : h.get? C = some ⟨oc, od, .cls cd, sl⟩) (hd : cd.hasDict = true) (he : h.get? e = some (excO C t0)) (Lm : PySem.W.Looks (model prog w) h (mroOf (.ref C)) mro) (hp : refuseLoop (.ref e) "__setattr__" mro = pure ())
    (L1 : PySem.W.Looks (model prog w) h (typeLookup (.ref C) name) none)
    (hq : ∀ h' tk', h'.get? e = some (excDO C t0 h.objs.size) → h'.Ns1 h.objs.size (fun y => if y = name then some v else none) → (∀ b o, b ≠ e → h.get? b = some o → h'.get? b = some o) → Q (.done (.ret .none)) ⟨h', g, d, tk', os⟩) :
    wpAny (model prog w) A (Builtin.«object.__setattr__» ⟨[.ref e, .str name tk, v], []⟩) Q E ⟨h, g, d, t, os⟩ := by
  have kk : ∀ b o, h.get? b = some o → h.get? b = some o := fun _ _ z => z
  have T0 : PySem.W.Looks (model prog w) h (typeOf (.ref e)) (.ref C) := fun A Q E s k q => wpAny_bind (wpAny_loadPart (k _ _ he) (wpAny_pure q))
  have hes : e ≠ h.objs.size := Nat.ne_of_lt (Heap.lt_size he)
  unfold Builtin.«object.__setattr__»
  dsimp only
  rw [refuse_eq]
  refine wpAny_bind (wpAny_bind (T0 _ _ _ _ kk (wpAny_bind (Lm _ _ _ _ kk ?_))))
  rw [hp]
  refine wpAny_pure (wpAny_bind (wpAny_pure (wpAny_bind (T0 _ _ _ _ kk (wpAny_bind (L1 _ _ _ _ kk (wpAny_bind (wpAny_pure ?_))))))))
  dsimp only
  unfold storeInOwnDict ownDictForStores instanceDict
  refine wpAny_bind (wpAny_pure ?_)
  dsimp only
  rw [if_neg (show ¬ (Value.ref C == Value.type "module") = true from fun z => by cases z)]
  refine wpAny_bind (wpAny_bind (wpAny_loadPart he ?_))
  dsimp only
  refine wpAny_bind (wpAny_bind (wpAny_load hC (wpAny_pure ?_)))
  rw [hd]
  simp only [Bool.not_true, Bool.false_eq_true, if_false, typeHasDict, Bool.or_false]
  have hx : (h.push { cls := .type "dict", data := .dict #[] }).get? e = some (excO C t0) := Heap.get?_push_of_some _ he
  refine wpAny_bind (wpAny_alloc' (wpAny_bind (wpAny_update' hx (wpAny_pure ?_))))
  have hgd : ((h.push { cls := .type "dict", data := .dict #[] }).update e fun o => { cls := o.cls, dict := some h.objs.size, data := o.data, slots := o.slots }).get? h.objs.size = some { cls := .type "dict", data := .dict #[] } := (Heap.get?_update_ne _ _ _ _ hes.symm).trans (Heap.get?_push_at rfl rfl)
  have hnd : ((h.push { cls := .type "dict", data := .dict #[] }).update e fun o => { cls := o.cls, dict := some h.objs.size, data := o.data, slots := o.slots }).Ns h.objs.size (fun _ => none) := ⟨_, #[], _, hgd, rfl, fun e he => absurd he (by simp), fun _ => rfl⟩
  show wpAny _ _ (storeInDict h.objs.size (.str name tk) name v) _ _ _
  unfold storeInDict newKeyGuard
  refine wpAny_bind (wpAny_pure (wpAny_bind (wpAny_nsSet1 (Heap.Ns1.of_empty hnd) fun h' hn' hs => ?_)))
  obtain ⟨oD, esD, epD, hoD, hdD, hcD⟩ := hn'.count (Within.cons name v Within.nil)
  refine wpAny_bind (wpAny_lookBehind hoD (by rw [hdD]; exact pastItsLine_dict (Nat.le_trans hcD (by rw [List.length_cons, List.length_nil, sizeLine_eq]; omega))) (wpAny_pure (hq h' _ ?_ hn' fun b o hb eb => ?_)))
  · exact (hs.2 e hes).trans (Heap.get?_update_self _ hx rfl)
  · exact (hs.2 b (Nat.ne_of_lt (Heap.lt_size eb))).trans ((Heap.get?_update_ne _ _ _ _ hb).trans (Heap.get?_push_of_some _ eb))
theorem refuse_tail (self : Value) {bmB bm : List Value} (T : OwnTail h bmB bm) (hp : refuseLoop self "__setattr__" bmB = pure ()) : refuseLoop self "__setattr__" bm = pure () := by
  induction T with
  | base => exact hp
  | own _ _ _ _ ih => rw [refuseLoop_ref]; exact ih
end
structure ExcI (K : PySem.W.Frag) (C f : Addr) : Prop where
  cls : ∃ (nm q : Str) (N : Addr) (bs bm : List Value) (sn : List Str) (sub : List Value) (ab : Bool) (col : Option Bool) (dd : Option Addr) (k0 k1 k2 k3 k5 : Option Value),
    K.lookup C = some (excClassObj nm q C N bs bm true sn sub ab col dd k0 k1 k2 k3 k5 "ValueError.__new__") ∧ PySem.W.tailIn K bmV bm = true
  init : PySem.W.findIn K (.ref C) "__init__" = some (some (.ref f))
  fn : PySem.W.isFn K (.ref f) = true
  kp : PySem.W.keepIn K (.ref C) = true
  sa : PySem.W.findIn K (.ref C) "__setattr__" = some (some (.builtin "object.__setattr__"))
  row : PySem.W.findIn K (.ref C) "row" = some none
  look : ExcLook K C
theorem Inv.laidN {X : Cx} {pins : List (Addr × Obj)} {σ : St} {H : Hp} {s : Shared} {h' : Heap} {t' : Nat} {a : Addr} {o : HO} (I : Inv X pins σ H s) (k : ∀ b u, s.heap.get? b = some u → h'.get? b = some u) (na : s.heap.get? a = none)
    (new : ObjOk X.prog X.w (upd H a o) h' a o) : Inv X pins σ (upd H a o) { s with heap := h', toks := t' } ∧ H a = none := by
  have ne : ∀ b u, s.heap.get? b = some u → b ≠ a := fun b u e z => by subst z; rw [na] at e; cases e
  have hn : H a = none := by
    cases q : H a with
    | none => rfl
    | some u => obtain ⟨ob, e⟩ := (I.hok a u q).ex; rw [na] at e; cases e
  have hk : ∀ b u, H b = some u → upd H a o b = some u := fun b u e => by rw [upd_ne (ne_of_none e hn)]; exact e
  refine ⟨I.step (g' := s.gens) (d' := s.drawn) (ch := []) (fun b hb => by cases hb) (fun b o _ _ hc e _ => k b o e) (fun b o _ _ hc e _ => ⟨o.slots, k b o e⟩) (fun b u _ e n => by rw [upd_ne (ne b u e)]; exact n) (fun b u hc e => ⟨u, k b u e⟩)
    (fun b xs e => hk b _ e) (fun b o u e => hk b _ e) (fun b ps e => ⟨#[], by rw [hk b _ e]; simp⟩) (fun m hm => ?_) (fun b u e => ?_) I.bare, hn⟩
  · obtain ⟨o, es, ep, ho, rr⟩ := hm
    exact ⟨o, es, ep, k _ o ho, rr⟩
  · by_cases hb : b = a
    · subst hb; rw [upd_same] at e; cases e; exact new
    · rw [upd_ne hb] at e
      exact (I.hok b u e).stay (fun c v hc q => k c v q) (fun c q => hk c _ q) fun c xs q => hk c _ q
section
variable {X : Cx} {G : Gam} {C f L : Addr} {e a1 a2 : Expr} {es : List Expr} {pos p p2 p3 apos : Pos} {x y : Str} {ds : List PyData}
theorem ext_ok {P : Program} {w : World} {H : Hp} {h : Heap} {a : Addr} {φ : Heap → Prop} {o : Obj} (hφ : φ h) (ho : h.get? a = some o) (st : ∀ h1 h2 : Heap, φ h1 → (∀ o, h1.get? a = some o → h2.get? a = some o) → φ h2) : ObjOk P w H h a (.ext φ) := ⟨hφ, ⟨o, ho⟩, st⟩
theorem ExcAt.st {a C : Addr} : ∀ h1 h2 : Heap, ExcAt a C h1 → (∀ o, h1.get? a = some o → h2.get? a = some o) → ExcAt a C h2 := fun h1 h2 ⟨o, ws, q1, q2, q3⟩ k => ⟨o, ws, k o q1, q2, q3⟩
theorem ExcDAt.st {a C dx : Addr} : ∀ h1 h2 : Heap, ExcDAt a C dx h1 → (∀ o, h1.get? a = some o → h2.get? a = some o) → ExcDAt a C dx h2 := fun h1 h2 ⟨o, ws, q1, q2, q3, q4⟩ k => ⟨o, ws, k o q1, q2, q3, q4⟩
def ExcN (a C : Addr) (h : Heap) : Prop := ∃ t, h.get? a = some (excO C t)
theorem ExcN.st {a C : Addr} : ∀ h1 h2 : Heap, ExcN a C h1 → (∀ o, h1.get? a = some o → h2.get? a = some o) → ExcN a C h2 := fun h1 h2 ⟨t, q⟩ k => ⟨t, k _ q⟩
def ExcE (a C dx : Addr) (h : Heap) : Prop := ∃ t, h.get? a = some (excDO C t dx)
theorem ExcE.st {a C dx : Addr} : ∀ h1 h2 : Heap, ExcE a C dx h1 → (∀ o, h1.get? a = some o → h2.get? a = some o) → ExcE a C dx h2 := fun h1 h2 ⟨t, q⟩ k => ⟨t, k _ q⟩
def spIE (C : Addr) : Sp := fun vs H Q _ => ∃ a n, vs = [.ref a, .int n] ∧ H a = some (.ext (ExcN a C)) ∧ ∀ dx, H dx = none → dx ≠ a → Q .non (upd (upd H dx (.xd [("row", .int n)])) a (.ext (ExcE a C dx)))
theorem pe_excI {k : Nat} {fd : FuncData} {ps : List Str} {n : Int} (O : ExcI X.K C f) (F : FnOk X.prog X.w X.K X.mg X.base CX0 k f fd ps (spIE C)) (hr : Room (k + 1) X.A) (hb : Binds X.K fd ps []) (hg : Gl X x) (hm : X.mg x = some (.ref C)) (ha : AV X G [e] [.int n]) (hdb : (x == ("__debug__" : Str)) = false := by decide)
    (he : starEach [e] X.env = (false, eval e X.env) :: starEach [] X.env := by rfl) (hpl : (backTo pos (starEach [] X.env)).any (·.1) = false := by rfl) : PE X (.Call (.Name x p) [e] [] pos) (fun σ H Q => SD X.K H σ G ∧ ∀ a dx H', Same H (les H' a) → H' a = some (.ext (ExcE a C dx)) → RowAt H' dx n → Q (.ref a) H') := by
  intro pins s0 σ H0 Q I0 ⟨h, q⟩
  obtain ⟨⟨nm, qn, N', bs, bm, sn, sub, ab, col, dd, k0, k1, k2, k3, k5, lk, ht⟩, hi, hf, kp, _, _, _⟩ := O
  refine wpAny_Call_Name_kw (ld_glob I0 hg hm ?_ hdb)
  refine PySem.W.callWith_K (h₀ := X.base) I0.ok.mod.kin kp (thn (ha pos pins s0 σ H0 (fun vs H1 => Same H0 H1 ∧ DVs X.K H1 vs [.int n]) I0 ⟨h, fun vs H1 s1 d1 => ⟨s1, d1⟩⟩) fun us s ⟨vs, H, I, r, sm, dv⟩ => ⟨I.kIn, ?_⟩) he hpl
  obtain ⟨v, rfl, dv1⟩ := dv.one
  have ev := dv1.of_int
  subst ev
  have hl : us.length ≤ sizeLine := by rw [← r.length, sizeLine_eq]; show 1 ≤ _; decide
  have T2 := PySem.W.tail_of_in I.kIn ht
  have hC2 := I.kIn _ _ lk
  have L1 := PySem.W.looks_findIn (M := model X.prog X.w) I.kIn hi
  have L2 := fun self => PySem.W.bind_fn (M := model X.prog X.w) I.kIn self (beq_iff_eq.mp hf)
  have e2 : ((s.heap.push (tupO us)).push (excO C s.heap.objs.size)).get? (s.heap.objs.size + 1) = some (excO C s.heap.objs.size) := by
    have := Heap.get?_push_size (s.heap.push (tupO us)) (o := excO C s.heap.objs.size) rfl
    rwa [Heap.size_push] at this
  obtain ⟨I2, hn⟩ := I.laidN (a := s.heap.objs.size + 1) (o := .ext (ExcN (s.heap.objs.size + 1) C)) (h' := (s.heap.push (tupO us)).push (excO C s.heap.objs.size)) (t' := s.toks) (fun b u z => Heap.get?_push_of_some _ (Heap.get?_push_of_some _ z)) (Heap.get?_none_of_le (Nat.le_succ _)) (ext_ok ⟨_, e2⟩ e2 ExcN.st)
  have r2 : Vals [V.ref (s.heap.objs.size + 1), .int n] (Value.ref (s.heap.objs.size + 1) :: us) := .cons rfl r
  have hq : spIE C [V.ref (s.heap.objs.size + 1), .int n] (upd H (s.heap.objs.size + 1) (.ext (ExcN (s.heap.objs.size + 1) C))) (fun v H2 => v = .non ∧ Q (.ref (s.heap.objs.size + 1)) H2) E0 := by
    refine ⟨_, n, rfl, upd_same, fun dx hdx hne => ⟨rfl, ?_⟩⟩
    have hd0 : H dx = none := by rw [upd_ne hne] at hdx; exact hdx
    refine q _ dx _ (sm.trans fun b o z => ?_) upd_same (by show upd _ _ _ _ = _; rw [upd_ne hne, upd_same])
    rw [les_ne (ne_of_none z hn), upd_ne (ne_of_none z hn), upd_ne (ne_of_none z hd0), upd_ne (ne_of_none z hn)]
    exact z
  have hlen : (Value.ref (s.heap.objs.size + 1) :: us ++ []).length = ps.length := by
    have z := r2.length
    rw [F.len _ _ _ _ hq] at z
    rw [List.append_nil]
    exact z.symm
  have hbb := hb _ (Value.ref (s.heap.objs.size + 1) :: us) I2.kIn hlen
  rw [List.append_nil] at hbb
  refine excI_call PySem.F.excBase_ValueError T2 hC2 L1 L2 hl (wpAny_call (codeAny_mono (F.run _ X.stack _ _ ⟨Value.ref (s.heap.objs.size + 1) :: us, []⟩ (Value.ref (s.heap.objs.size + 1) :: us) _ _ E0 (hr.make C us []) (I2.env0.make C us []) hbb r2 hq) fun r s' hq' => ?_))
  cases r with
  | error z => exact pass0 pins σ _ _ z s' I2 hq'
  | ok fl =>
    cases fl with
    | ret u =>
      obtain ⟨v, H', I3, rv, ev, q3⟩ := I2.after hq'
      subst ev
      exact ⟨rv, ⟨V.ref (s.heap.objs.size + 1), H', I3, rfl, q3⟩⟩
    | next => exact False.elim hq'
    | brk => exact False.elim hq'
    | cont => exact False.elim hq'
theorem ps_excBase {a : Addr} (O : ExcI X.K C f) (mc : Value) (hs : PySem.W.specialIn X.K (.ref L) "__getattribute__" = some (some (.builtin "type.__getattribute__"))) (hrd : PySem.W.readsIn X.K L mc = true) (hfc : PySem.W.findCls X.K (.ref L) mc "__init__" = some (.val (.builtin "ValueError.__init__")))
    (hg : Gl X y) (hm : X.mg y = some (.ref L)) (h1 : PE X a1 (tVar 0)) (h2 : PE X a2 (tVar 1)) (hdb : (y == ("__debug__" : Str)) = false := by decide) {pl : Sem Bool}
    (he : starEach [a1, a2] X.env = (false, eval a1 X.env) :: starEach [a2] X.env := by rfl) (he2 : starEach [a2] X.env = (false, eval a2 X.env) :: starEach [] X.env := by rfl) (hpl : (backTo pos (starEach [a2] X.env)).any (·.1) = false := by rfl)
    (ht : eval (.Call (.Attribute (.Name y p) "__init__" apos) [a1, a2] [] pos) X.env = (do
      let o ← eval (.Name y p) X.env
      standAt apos.atName
      let (fn, first) ← holding [o] (getMethod o "__init__" pl)
      callWith pos fn first (backTo pos (starEach [a1, a2] X.env)) (backToKw pos (keywordEach [] X.env))) := by rfl)
    (hsw : swapsWith (.Call (.Attribute (.Name y p) "__init__" apos) [a1, a2] [] pos) none p2.line X.env = pure false := by rfl) :
    PS X (.Expr (.Call (.Attribute (.Name y p) "__init__" apos) [a1, a2] [] pos) p2) (fun D σ H => (∃ v, σ[0]? = some (some (.ref a)) ∧ σ[1]? = some (some v)) ∧ H a = some (.ext (ExcN a C)) ∧ D.nx σ H) := by
  have pe : PE X (.Call (.Attribute (.Name y p) "__init__" apos) [a1, a2] [] pos) (fun σ H Q => (∃ v, σ[0]? = some (some (.ref a)) ∧ σ[1]? = some (some v)) ∧ H a = some (.ext (ExcN a C)) ∧ Q .non H) := by
    intro pins s σ H Q I ⟨⟨v, i0, i1⟩, ea, q⟩
    obtain ⟨⟨nm, qn, N', bs, bm, sn, sub, ab, col, dd, k0, k1, k2, k3, k5, lk, htl⟩, hi, hf, kp, _, _, _⟩ := O
    refine PySem.W.methodCall_KW (pl := pl) (ld_glob I hg hm ?_ hdb) ht
    refine PySem.W.method_cls I.kIn hs (PySem.W.cls_value I.kIn hrd hfc rfl ?_)
    have I1 := I.tok (s.toks + 1)
    refine PyProof.Rows.callWith_builtin1 ?_ he hpl
    refine thn (pa_cons h1 (pa_cons h2 pa_nil he2) he pos pins _ σ H (fun vs H' => vs = [.ref a, v] ∧ H' = H) I1 ⟨_, i0, _, i1, rfl, rfl⟩) fun us s2 ⟨vs, H2, I2, r, ev, eh⟩ => ?_
    subst ev eh
    obtain ⟨u, z, rfl, ru, rz⟩ := vals2 r
    cases ru
    obtain ⟨⟨t0, eo⟩, _, _⟩ := I2.hok a _ ea
    have T2 := PySem.W.tail_of_in I2.kIn htl
    have hC2 := I2.kIn _ _ lk
    obtain ⟨hp, gn, dr, tk, os⟩ := s2
    refine wpAny_call (excI_base PySem.F.excBase_ValueError T2 hC2 eo (by show 1 ≤ sizeLine; rw [sizeLine_eq]; decide) fun h' k' e' => ?_)
    have eH : upd H2 a (.ext (ExcN a C)) = H2 := by
      funext b
      by_cases hb : b = a
      · subst hb; rw [upd_same, ea]
      · rw [upd_ne hb]
    have I3 := I2.write (x := a) (e := a) (o := .ext (ExcN a C)) (h' := h') (t' := tk) (by rw [ea]; exact True.intro) (.inl rfl) (fun b u hb z => k' b u hb z) ⟨_, e'⟩ (ext_ok ⟨_, e'⟩ e' ExcN.st)
    rw [eH] at I3
    exact ⟨.non, H2, I3, rfl, q⟩
  exact (ps_expr pe hsw).imp fun D σ H ⟨a, b, c⟩ => ⟨a, b, c⟩
theorem ps_excFld {a : Addr} {n : Int} (O : ExcI X.K C f) (h1 : PE X a1 (tVar 0)) (h2 : PE X a2 (tVar 1)) (hs : swapsWith a2 (some (.Attribute a1 "row" p3)) pos.line X.env = pure false := by rfl) :
    PS X (.Assign [.Attribute a1 "row" p3] a2 pos) (fun D σ H => (σ[0]? = some (some (.ref a)) ∧ σ[1]? = some (some (.int n))) ∧ H a = some (.ext (ExcN a C)) ∧ ∀ dx, H dx = none → dx ≠ a → D.nx σ (upd (upd H dx (.xd [("row", .int n)])) a (.ext (ExcE a C dx)))) := by
  intro pins s σ H D I ⟨⟨i0, i1⟩, ea, q⟩
  obtain ⟨⟨nm, qn, N', bs, bm, sn, sub, ab, col, dd, k0, k1, k2, k3, k5, lk, htl⟩, hi, hf, kp, hsa, hro, lo⟩ := O
  refine plainObj_wpAny_Assign_Attribute (thn (h2 pins s σ H (fun v H' => v = .int n ∧ H' = H) I ⟨_, i1, rfl, rfl⟩) fun u s1 ⟨y1, H1, I1, ry, ey, eh⟩ => thn (h1 pins s1 σ H1 (fun v H' => v = .ref a ∧ H' = H1) I1 ⟨_, i0, rfl, rfl⟩) fun ov s2 ⟨x1, H2, I2, rx, ex, eh2⟩ => ?_) hs
  subst ey ex eh eh2
  cases rx
  obtain ⟨⟨t0, eo⟩, _, _⟩ := I2.hok a _ ea
  have T2 := PySem.W.tail_of_in I2.kIn htl
  have hC2 := I2.kIn _ _ lk
  have J : PySem.W.InstAt s2.heap a (excO C t0) C none := ⟨eo, rfl, rfl, trivial⟩
  have SF := PySem.F.store_object
  obtain ⟨cd, cin, hmro⟩ : ∃ cd : ClassData, PySem.W.clsIn X.K C = some cd ∧ cd.mro = .ref C :: bm := ⟨_, by unfold PySem.W.clsIn; rw [lk], rfl⟩
  have hm : PySem.W.mroIn X.K C (.type "object") = some true := lo.mo
  refine PySem.W.set_plain I2.kIn J hsa ?_
  have Lm : PySem.W.Looks (model X.prog X.w) s2.heap (mroOf (.ref C)) (.ref C :: bm) := hmro ▸ (PySem.W.looks_clsIn I2.kIn cin).andThen .now
  have sb : PySem.W.Looks (model X.prog X.w) s2.heap (isInstance (.ref a) (.type "object")) true := J.type.andThen (PySem.W.looks_mroIn I2.kIn hm)
  refine codeAny_call_builtin SF.slot.plain SF.entry (@PySem.W.check_slot (model X.prog X.w) _ _ { s2 with toks := s2.toks + 1 } "object.__setattr__" "object" "__setattr__" (.ref a) [.str "row" s2.toks, u] [] _ SF.kind SF.split sb (SF.args (.ref a) (.str "row" s2.toks) u) ?_)
  refine excI_put (h := s2.heap) (t := s2.toks + 1) hC2 rfl eo Lm (by rw [refuseLoop_ref]; exact refuse_tail _ T2 (PySem.F.store_ValueError.passes _)) (PySem.W.looks_findIn I2.kIn hro) fun h' tk' e1 n1 k1 => ?_
  have hes : a ≠ s2.heap.objs.size := Nat.ne_of_lt (Heap.lt_size eo)
  have hdn : H2 s2.heap.objs.size = none := I2.hok.fresh (Nat.le_refl _)
  have eF : (h'.update a fun _ => excO C t0).get? a = some (excO C t0) := Heap.get?_update_self _ e1 rfl
  have oF : ∀ b, b ≠ a → (h'.update a fun _ => excO C t0).get? b = h'.get? b := fun b hb => Heap.get?_update_ne _ _ _ _ hb
  have nF : (h'.update a fun _ => excO C t0).Ns1 s2.heap.objs.size (fun y => if y = "row" then some u else none) := by
    obtain ⟨o', es, ep, z1, z2⟩ := n1
    exact ⟨o', es, ep, by rw [oF _ hes.symm]; exact z1, z2⟩
  obtain ⟨I3, _⟩ := I2.laidN (a := s2.heap.objs.size) (o := .xd [("row", .int n)]) (h' := h'.update a fun _ => excO C t0) (t' := tk') (fun b o z => by
      by_cases hb : b = a
      · subst hb; rw [eo] at z; cases z; exact eF
      · rw [oF b hb]; exact k1 b o hb z) (Heap.get?_none_of_le (Nat.le_refl _)) ⟨_, nF, fun g => by
        by_cases hg : g = "row"
        · subst hg; rw [if_pos rfl]; exact ry
        · rw [if_neg hg]
          show RelO (List.lookup g [("row", V.int n)]) none
          rw [List.lookup_cons, show (g == "row") = false from by simpa using hg]
          exact True.intro⟩
  have ea3 : upd H2 s2.heap.objs.size (.xd [("row", .int n)]) a = some (.ext (ExcN a C)) := by rw [upd_ne hes]; exact ea
  have I4 := I3.write (x := a) (e := a) (o := .ext (ExcE a C s2.heap.objs.size)) (h' := h') (t' := tk') (by rw [ea3]; exact True.intro) (.inl rfl) (fun b o hb z => by rw [← oF b hb]; exact z) ⟨_, e1⟩ (ext_ok ⟨_, e1⟩ e1 ExcE.st)
  exact ⟨σ, _, I4, q _ hdn hes.symm⟩
theorem ev_row {n : Int} (O : ExcLook X.K C) (hr : PySem.W.findIn X.K (.ref C) "row" = some none) (hd : PySem.W.hasDictIn X.K C = true) (ha : EV X G e (excRD C n)) (hb : attributeBase e "row" X.env (eval e X.env) = eval e X.env := by rfl) : EV X G (.Attribute e "row" pos) (.int n) := by
  intro pins s σ H Q I ⟨h, q⟩
  refine attr_of hb (thn (ha pins s σ H (fun v H1 => Same H H1 ∧ DV X.K H1 v (excRD C n)) I ⟨h, fun v H1 s1 d1 => ⟨s1, d1⟩⟩) fun u s1 ⟨v, H1, I1, rv, sm, dv⟩ => ?_)
  obtain ⟨a, dx, rfl, e1, e2⟩ := dv.of_exr
  cases rv
  obtain ⟨⟨o, vs, o1, o2, o3, o4⟩, _, _⟩ := I1.hok a _ e1
  obtain ⟨mA, ns, rel⟩ := I1.hok dx _ e2
  obtain ⟨od, ho, hl⟩ := lookIn_ns ns
  have rr := rel "row"
  obtain ⟨u, hu, ru⟩ := RelO.some_of (v := .int n) (o := mA "row") rr
  have J : PySem.W.InstAt s1.heap a o C (some od) := ⟨o1, o2, by obtain ⟨oc, odi, oda, osl⟩ := o; simp only at o3; subst o3; rfl, by rw [o4]; exact ho⟩
  have L3 := PySem.W.looks_find (M := model X.prog X.w) I1.kIn J (PySem.W.findObj_own (v := u) hd hr rfl (by rw [hl, hu]))
  obtain ⟨hp, gn, dr, tk, os⟩ := s1
  exact excI_get J.type (PySem.W.looks_findIn I1.kIn O.ga) (PySem.W.looks_findIn I1.kIn O.hook) L3 (PySem.W.looks_mroIn I1.kIn O.mb) (PySem.W.Looks.of_pure (PySem.W.handedOut_of (handed_of ru))) (F.attr_ValueError.ga.bind (.ref a)) F.attr_ValueError.ga.plain ⟨.int n, H1, I1.tok _, ru, q _ _ sm (.int n)⟩
end
end L2
set_option maxRecDepth 100000
set_option maxHeartbeats 1000000
namespace L2
open PySem PySem.Spec PyProof.Rows
theorem raise_dict {M : Model} {A : Around} {E : Value → Shared → Prop} {env : Env} {s : Shared} {m : Sem Value} {Q : Flow → Shared → Prop} {C : Addr} {nm q : Str} {N : Addr} {bs bm : List Value} {hdct : Bool} {sn : List Str} {sub : List Value} {ab : Bool} {col : Option Bool} {dd : Option Addr} {k0 k1 k2 k3 k5 : Option Value} {newId : String}
    (tb : (Value.ref C :: bm).contains (.type "BaseException") = true) (hh : A.handled = none)
    (h : wpAny M A m (fun v s1 => ∃ a t dx, v = .ref a ∧ s1.heap.get? C = some (excClassObj nm q C N bs bm hdct sn sub ab col dd k0 k1 k2 k3 k5 newId) ∧ s1.heap.get? a = some (excDO C t dx) ∧ E (.ref a) s1) E s) :
    wpAny M A (raiseStmt env (some m) none) Q E s := by
  unfold raiseStmt
  refine wpAny_bind (wpAny_mono h (fun v s1 z => ?_) fun _ _ y => y)
  obtain ⟨a, t, dx, rfl, kC, ka, fin⟩ := z
  obtain ⟨h1, g1, d1, t1, o1⟩ := s1
  repeat (first
    | with_reducible refine wpAny_loadPart_at ka ?_
    | with_reducible refine wpAny_loadPart_at kC ?_
    | (with_reducible refine wpAny_isSubtype_exc kC ?_; rw [tb])
    | wp_step)
  exact wpAny_raiseNew_none hh fin
section
variable {P : Program} {w : World} {K : PySem.W.Frag} {mg : Str → Option Value} {base : Heap}
theorem sx_raiseI {N : List Str} {qual : Str} {scope : Scope} {f0 : Addr} {cd : Value} {A : Around} {outer : List Env} {s0 : Shared} {H0 : Hp} {E : XK} {G : Gam} {x : Str} {np cpos pos : Pos} {e : Expr} {C f : Addr} {k : Nat} {fd : FuncData} {ps : List Str} {n : Int}
    (X : Cx) (hX : X = cxR P w K mg base N qual scope f0 cd A outer s0 H0 E) (O : ExcI K C f) (F : FnOk P w K mg base CX0 k f fd ps (spIE C)) (hr : Room (k + 1) X.A) (hb : Binds K fd ps []) (hg : Gl X x) (hm : mg x = some (.ref C)) (ha : EV X G e (.int n)) (hdb : (x == ("__debug__" : Str)) = false := by decide)
    (he : starEach [e] X.env = (false, eval e X.env) :: starEach [] X.env := by rfl) (hpl : (backTo cpos (starEach [] X.env)).any (·.1) = false := by rfl) : SXv X (exR E) G (.Raise (some (.Call (.Name x np) [e] [] cpos)) none pos) G C n := by
  subst hX
  intro pins s σ H D I ⟨h, q⟩
  obtain ⟨nm, qn, N', bs, bm, sn, sub, ab, col, dd, k0, k1, k2, k3, k5, lk, htl⟩ := O.cls
  have T0 := PySem.W.tail_of_in I.kIn htl
  have tb : (Value.ref C :: bm).contains (.type "BaseException") = true := by rw [List.contains_cons, T0.hasType PySem.F.excBase_ValueError.hasBase, Bool.or_true]
  rw [arm_exec_Raise]
  refine wpAny_bind (wpAny_standAt (raise_dict (nm := nm) (q := qn) (N := N') (bs := bs) (hdct := true) (sn := sn) (sub := sub) (ab := ab) (col := col) (dd := dd) (k0 := k0) (k1 := k1) (k2 := k2) (k3 := k3) (k5 := k5) (newId := "ValueError.__new__") tb (I.ok.hd rfl) ?_))
  have z := pe_excI (pos := cpos) (p := np) O F hr hb hg hm (av_cons ha av_nil he) hdb he hpl pins s σ H (fun v H1 => ∃ a dx, v = .ref a ∧ Same H (les H1 a) ∧ H1 a = some (.ext (ExcE a C dx)) ∧ RowAt H1 dx n) I ⟨h, fun a dx H1 s1 e1 r1 => ⟨a, dx, rfl, s1, e1, r1⟩⟩
  refine wpAny_bind (wpAny_mono z (fun u s1 hq => wpAny_bind (wpAny_standAt (wpAny_pure ?_))) fun _ _ y => y)
  obtain ⟨v, H1, I1, rv, a, dx, ev, sm, ea, hrow⟩ := hq
  subst ev
  cases rv
  obtain ⟨⟨t, eo⟩, _, _⟩ := I1.hok a _ ea
  refine ⟨a, t, dx, rfl, I1.kIn _ _ lk, eo, ?_⟩
  have hne : dx ≠ a := fun z => by
    unfold RowAt at hrow
    rw [z, ea] at hrow; cases hrow
  exact raises_d I1 eo ea (q σ (les H1 a) sm (h.mono sm) dx (by unfold RowAt; rw [les_ne hne]; exact hrow))
end
end L2
set_option maxRecDepth 100000
set_option maxHeartbeats 1000000
namespace L2
open PySem PySem.Spec PyProof.Rows
section
variable {X : Cx} {Ex : St → Hp → Addr → Int → Prop} {G' : Gam} {C : Addr} {n : Int} {iter : Expr} {pos : Pos}
theorem sx_for {α : Type} {as : List α} {D : α → PyData} {tg : Expr} {body : List Stmt} {k : Nat} {g : TG} {B : PyData → Gam → Gam} (J : Nat → Gam) (j : Nat) {a0 : α} (hj : as[j]? = some a0) (hp : PassesOwn (model X.prog X.w) X.A X.env X.xe) (hcalm : X.calm = true) (hi : IV X (J 0) tg iter (as.map D)) (hg : PG X tg g) (hb : ∀ a ∈ as, BindD X.K k g B (D a))
    (hs : ∀ (i : Nat) a, i < j → as[i]? = some a → SVs X (B (D a) (J i)) body (.next (J (i + 1)))) (hr : SXvs X Ex (B (D a0) (J j)) body G' C n) (hfs : ∀ x, foldedSetIterable iter X.env x = pure x := by intro _; rfl) : SXv X Ex (J 0) (.For tg iter body [] pos) G' C n := by
  have hbody : PSs X body (fun Dn σ H => ∃ p : Nat × α, as[p.1]? = some p.2 ∧ ((p.1 < j ∧ tDS X.K (B (D p.2) (J p.1)) (.next (J (p.1 + 1))) Dn σ H) ∨ (p.1 = j ∧ tSX X.K Ex (B (D p.2) (J p.1)) G' C n Dn σ H))) := by
    intro pins s σ H Dn I ⟨p, hp, q⟩
    rcases q with ⟨hl, q⟩ | ⟨e, q⟩
    · exact hs p.1 p.2 hl hp pins s σ H Dn I q
    · obtain ⟨pi, pa⟩ := p
      simp only at e hp q
      subst e
      rw [hj] at hp
      cases hp
      exact hr pins s σ H Dn I q
  have hjl : j < as.length := (List.getElem?_eq_some_iff.mp hj).1
  refine (ps_for hp hcalm hi hg hbody hfs).imp fun Dn σ H ⟨h, q⟩ => ⟨h, fun It0 H1 s1 hJ => ?_⟩
  refine ⟨fun i m σ H => i ≤ j ∧ m = j - i ∧ Same H1 H ∧ SD X.K H σ (J i), ⟨_, Nat.zero_le _, rfl, Same.refl _, h.mono s1⟩, ?_⟩
  rintro i m σ H ⟨hi, rfl, sm, hσ⟩
  have hlt : i < as.length := Nat.lt_of_le_of_lt hi hjl
  have ea : as[i]? = some as[i] := List.getElem?_eq_getElem hlt
  have key : ∀ v H', It0.yld i H v H' → Same H H' ∧ DV X.K H' v (D as[i]) := fun v H' y => by
    obtain ⟨s2, d, ed, dv⟩ := hJ.yld i H v H' sm (by rw [List.length_map]; exact hlt) y
    have ed' : d = D as[i] := by
      rw [List.getElem?_map, ea] at ed
      exact (Option.some.inj ed).symm
    subst ed'
    exact ⟨s2, dv⟩
  by_cases hij : i < j
  · refine .inr ⟨hJ.go i H sm (by rw [List.length_map]; exact hlt), fun σ' H' => Same H1 H' ∧ SD X.K H' σ' (J (i + 1)), fun σ' H' ⟨a, b⟩ => ⟨j - (i + 1), by omega, hij, rfl, a, b⟩, fun v H' y => ?_⟩
    obtain ⟨s2, dv⟩ := key v H' y
    refine (hb _ (List.getElem_mem hlt)).to v _ H' _ _ (hσ.mono s2) dv fun σ2 h2 => ⟨(i, as[i]), ea, .inl ⟨hij, h2, fun σ3 H3 s3 h3 => ⟨(sm.trans s2).trans s3, h3⟩⟩⟩
  · have e : i = j := by omega
    refine .inr ⟨hJ.go i H sm (by rw [List.length_map]; exact hlt), fun _ _ => False, fun _ _ z => z.elim, fun v H' y => ?_⟩
    obtain ⟨s2, dv⟩ := key v H' y
    exact (hb _ (List.getElem_mem hlt)).to v _ H' _ _ (hσ.mono s2) dv fun σ2 h2 => ⟨(i, as[i]), ea, .inr ⟨e, h2, fun σ3 H3 s3 h3 => q σ3 H3 (((s1.trans sm).trans s2).trans s3) h3⟩⟩
end
theorem po_R {P : Program} {w : World} {K : PySem.W.Frag} {mg : Str → Option Value} {base : Heap} {N : List Str} {qual : Str} {sc : Scope} {f : Addr} {cdv : Value} {A : Around} {outer : List Env} {s : Shared} {H : Hp} {E : XK} :
    PassesOwn (model (cxR P w K mg base N qual sc f cdv A outer s H E).prog (cxR P w K mg base N qual sc f cdv A outer s H E).w) (cxR P w K mg base N qual sc f cdv A outer s H E).A (cxR P w K mg base N qual sc f cdv A outer s H E).env (cxR P w K mg base N qual sc f cdv A outer s H E).xe := PassesOwn.leaving (Q₁ := fun e s'' => CXr P w outer H s E e s'')
end L2
set_option maxRecDepth 100000
set_option maxHeartbeats 1000000
namespace L2
open PySem PySem.Spec PyProof.Rows
def GNot (K : PySem.W.Frag) (mg : Str → Option Value) (P : Params) (x s : Str) : Prop :=
  ∃ (a : Addr) (es : Array DictEntry) (n : Nat), mg x = some (.ref a) ∧ K.lookup a = some ⟨.type "dict", none, .dict es n, #[]⟩ ∧ PySem.W.KeysLit P es.toList ∧ PySem.W.nsIn K a s = some none ∧ (a == sysModules) = false
theorem gnot_mk {K : PySem.W.Frag} {mg : Str → Option Value} {h : Heap} {P : Params} (X : K.In h) (G : h.Ns mainGlobals mg) {x s : Str} {a : Addr} {es : Array DictEntry} {n : Nat}
    (z : PySem.W.nsIn K mainGlobals x = some (some (.ref a))) (l : K.lookup a = some ⟨.type "dict", none, .dict es n, #[]⟩) (hk : PySem.W.KeysLit P es.toList) (hn : PySem.W.nsIn K a s = some none) (hs : (a == sysModules) = false) : GNot K mg P x s := ⟨a, es, n, PySem.W.mg_of X G z, l, hk, hn, hs⟩
section
variable {X : Cx} {G : Gam} {a b e : Expr} {pos p p2 : Pos} {d : PyData} {x : Str}
theorem tv_gnotIn {s : Str} (T : GNot X.K X.mg X.w.params x s) (hg : Gl X x) (he : EV X G e (.str s)) (hd : (x == ("__debug__" : Str)) = false := by decide) (hmk : behindInMarks .NotIn (.Name x p) = false := by with_unfolding_all rfl) : TV X G (.Compare e [.NotIn] [.Name x p] pos) true := by
  obtain ⟨ad, es, n, hm, hk, hl, ht, hsm⟩ := T
  have ir : OpR X (compareOp .NotIn) (fun y z H Q => y = .str s ∧ z = .ref ad ∧ Q (.bl true) H) := by
    intro pins s1 σ H y z vy vz Q I ry rz ⟨e1, e2, q⟩
    subst e1 e2
    cases rz
    obtain ⟨t, rfl⟩ := ry
    have mo := PySem.W.mapOf_K (prog := X.prog) (w := X.w) I.kIn hk hl
    refine wpAny_notIn_of (strKind_is X.prog X.w s t) hsm mo ?_
    rw [PySem.W.find_K hk ht]
    exact ⟨.bl true, H, I.tok _, rfl, q⟩
  exact (pt_cmpR ir he (pe_glob (v := .ref ad) hg hm rfl hd) hmk).imp fun σ H Q ⟨h, q⟩ => ⟨h, fun y H1 s1 d1 => ⟨d1.of_str, rfl, true, rfl, q H1 s1⟩⟩
end
end L2
set_option maxRecDepth 100000
set_option maxHeartbeats 1000000
namespace L2
open PySem PySem.Spec PyProof.Rows
theorem first_bad {α : Type} : ∀ (as : List α) (ok : Nat → α → Bool), (∀ i a, as[i]? = some a → ok i a = true) ∨ ∃ j a, as[j]? = some a ∧ ok j a = false ∧ ∀ i b, i < j → as[i]? = some b → ok i b = true
  | [], ok => .inl fun i a h => by simp at h
  | x :: as, ok => by
    cases hx : ok 0 x with
    | false => exact .inr ⟨0, x, rfl, hx, fun i b hi => absurd hi (Nat.not_lt_zero _)⟩
    | true =>
      rcases first_bad as (fun i a => ok (i + 1) a) with h | ⟨j, a, h1, h2, h3⟩
      · refine .inl fun i a h' => ?_
        cases i with
        | zero => simp at h'; subst h'; exact hx
        | succ i => exact h i a (by simpa using h')
      · refine .inr ⟨j + 1, a, by simpa using h1, h2, fun i b hi h' => ?_⟩
        cases i with
        | zero => simp at h'; subst h'; exact hx
        | succ i => exact h3 i b (by omega) (by simpa using h')
section
variable {X : Cx} {G : Gam} {c iter : Expr} {sts A : List Stmt} {pos : Pos} {o : Out} {d r : PyData}
theorem svs_guard {k : Bool} (hc : TV X G c k) (h1 : k = true → ∃ d, o = .ret d ∧ SVs X G A (.ret d)) (h2 : k = false → SVs X G sts o) : SVs X G (.If c A [] pos :: sts) o := by
  cases k with
  | true =>
    obtain ⟨d, rfl, h⟩ := h1 rfl
    exact svs_ret (sv_if (k := true) hc (fun _ => h) (fun h => by cases h))
  | false => exact svs_cons (sv_if (k := false) hc (fun h => by cases h) (fun _ => svs_nil)) (h2 rfl)
theorem svs_forB {α : Type} {as : List α} {D : α → PyData} {tg : Expr} {body : List Stmt} {k : Nat} {g : TG} {B : PyData → Gam → Gam} (J : Nat → Gam) (ok : Nat → α → Bool) (hp : PassesOwn (model X.prog X.w) X.A X.env X.xe) (hcalm : X.calm = true) (hi : IV X (J 0) tg iter (as.map D)) (hg : PG X tg g) (hb : ∀ a ∈ as, BindD X.K k g B (D a))
    (hs : ∀ (i : Nat) a, as[i]? = some a → SVs X (B (D a) (J i)) body (if ok i a = true then .next (J (i + 1)) else .ret d)) (hfin : (∀ i a, as[i]? = some a → ok i a = true) → SVs X (J as.length) sts (.ret r)) (hbad : (∃ i a, as[i]? = some a ∧ ok i a = false) → r = d)
    (hfs : ∀ x, foldedSetIterable iter X.env x = pure x := by intro _; rfl) : SVs X (J 0) (.For tg iter body [] pos :: sts) (.ret r) := by
  rcases first_bad as ok with h | ⟨j, a, h1, h2, h3⟩
  · refine svs_cons (sv_for J hp hcalm hi hg hb (fun i a ha => ?_) hfs) (hfin h)
    have z := hs i a ha
    rw [if_pos (h i a ha)] at z
    exact z
  · rw [hbad ⟨j, a, h1, h2⟩]
    refine svs_ret (sv_forRet J j h1 hp hcalm hi hg hb (fun i b hi hb' => ?_) ?_ hfs)
    · have z := hs i b hb'
      rw [if_pos (h3 i b hi hb')] at z
      exact z
    · have z := hs j a h1
      rw [h2] at z
      exact z
end
end L2
set_option maxRecDepth 100000
set_option maxHeartbeats 1000000
namespace L2
open PySem PySem.Spec PyProof.Rows
def SR (X : Cx) (Ex : St → Hp → Addr → Int → Prop) (G : Gam) (sts : List Stmt) : Res → Prop
  | .ok d => SVs X G sts (.ret d) ∨ (d = .none ∧ ∃ G', SVs X G sts (.next G'))
  | .exc C n => ∃ G', SXvs X Ex G sts G' C n
section
variable {X : Cx} {Ex : St → Hp → Addr → Int → Prop} {G G1 : Gam} {c : Expr} {st : Stmt} {sts A : List Stmt} {pos : Pos} {r : Res}
theorem sr_cons (h1 : SV X G st (.next G1)) (h2 : SR X Ex G1 sts r) : SR X Ex G (st :: sts) r := by
  cases r with
  | ok d =>
    rcases h2 with h2 | ⟨e, G', h2⟩
    · exact .inl (svs_cons h1 h2)
    · exact .inr ⟨e, G', svs_cons h1 h2⟩
  | exc C n =>
    obtain ⟨G', h2⟩ := h2
    exact ⟨G', sx_cons h1 h2⟩
theorem sr_guard {k : Bool} (hc : TV X G c k) (h1 : k = true → ∃ C n, r = .exc C n ∧ ∃ G', SXvs X Ex G A G' C n) (h2 : k = false → SR X Ex G sts r) : SR X Ex G (.If c A [] pos :: sts) r := by
  cases k with
  | true =>
    obtain ⟨C, n, rfl, G', h⟩ := h1 rfl
    exact ⟨G', sx_head (sx_if (k := true) hc (fun _ => h) (fun h => by cases h))⟩
  | false => exact sr_cons (sv_if (k := false) hc (fun h => by cases h) (fun _ => svs_nil)) (h2 rfl)
end
end L2
set_option maxRecDepth 100000
set_option maxHeartbeats 1000000
namespace L2
open PySem PySem.Spec PyProof.Rows
theorem od_catT0 {X : Cx} {ys : List PyData} : OD X (binaryOp .Add) (.tuple []) (.tuple ys) (.tuple ys) := by
  intro pins s σ H x y v u Q I rx ry ⟨h1, h2, q⟩
  obtain ⟨l, us, rfl, hl, d1⟩ := h1.of_tup
  obtain ⟨m, ws, rfl, hm, d2⟩ := id h2.of_tup
  cases d1
  cases rx
  cases ry
  obtain ⟨its, r1, p1, _⟩ := I.tuple hl
  obtain ⟨its2, r2, p2, _⟩ := I.tuple hm
  have e0 : its = [] := r1.nil_iff.mpr rfl
  subst e0
  obtain ⟨⟨cls, dd, data, sl⟩, ho, hc, n, hd⟩ := id p1
  obtain ⟨⟨cls2, dd2, data2, sl2⟩, ho2, hc2, n2, hd2⟩ := id p2
  simp only at hc hd hc2 hd2
  subst hc hd hc2 hd2
  exact PySem.concat_meets ⟨_, ho, rfl⟩ ⟨_, ho2, rfl⟩ PySem.noFill_tuple_add PySem.seq_tuple_add PySem.F.slot_tuple_add PySem.F.entry_tuple_add (PySem.F.args_tuple_add_2 _ _)
    (tuple_addW0 l m #[] its2.toArray n n2 dd dd2 sl sl2 rfl) ⟨ho, ho2, ⟨.ref m, H, I, rfl, q _ H (Same.refl H) h2⟩⟩
theorem od_catTT {X : Cx} {xs ys : List PyData} (hz : xs.length + ys.length ≤ sizeLine) : OD X (binaryOp .Add) (.tuple xs) (.tuple ys) (.tuple (xs ++ ys)) := by
  by_cases h : xs = []
  · subst h; exact od_catT0
  · exact od_catT h hz
end L2
set_option maxRecDepth 100000
set_option maxHeartbeats 1000000
namespace L2
open PySem PySem.Spec PyProof.Rows
section
variable {Y : Cx} {pn : List (Addr × Obj)} {a : Addr} {G : Gam} {e : Expr} {es : List Expr} {pos p : Pos} {x qual : Str} {st : Stmt} {f : Addr} {fd : FuncData} {N ps : List Str} {k : Nat} {ds : List PyData} {d : PyData}
theorem ev_callH (hr : Room (k + 1) Y.A) (F0 : Fun Y.K x qual st f fd) (hm : Y.mg x = some (.ref f)) (hb : Binds Y.K fd ps []) (S : FnScope N ps (defScope st)) (hg : Gl (Y.hs pn a) x) (ha : AV (Y.hs pn a) G (e :: es) ds) (len : ds.length = ps.length)
    (hbody : ∀ (cdv : Value) (outer : List Env) (s : Shared) (H : Hp), SVs ((cxOf CX0 Y.prog Y.w Y.K Y.mg Y.base N qual (defScope st) f cdv Y.A outer s H E0).hs [] a) (startG N ds) (defBody st) (.ret d))
    (hdb : (x == ("__debug__" : Str)) = false := by decide)
    (he : starEach (e :: es) (Y.hs pn a).env = (false, eval e (Y.hs pn a).env) :: starEach es (Y.hs pn a).env := by rfl) (hpl : (backTo pos (starEach es (Y.hs pn a).env)).any (·.1) = false := by rfl) :
    EV (Y.hs pn a) G (.Call (.Name x p) (e :: es) [] pos) d := by
  obtain ⟨oc, od, kV, doc, pm, an, cdv, ct, osl, rfl, lk, hcd⟩ := F0.ex
  intro pins s σ H Q I ⟨h, q⟩
  refine wpAny_Call_Name_kw (ld_glob I hg hm ?_ hdb)
  refine PySem.W.callWith_K (h₀ := Y.base) I.ok.mod.kin F0.kp (thn (ha pos pins s σ H (fun vs H1 => Same H H1 ∧ DVs Y.K H1 vs ds) I ⟨h, fun vs H1 s1 d1 => ⟨s1, d1⟩⟩) fun us s1 ⟨vs, H1, I1, r, sm, dv⟩ => ⟨I1.kIn, ?_⟩) he hpl
  have hl : vs.length = ps.length := dv.length.trans len
  have KX : Y.K.In s1.heap := I1.kIn
  have lim : s1.heap.NoLimit := I1.nolimit
  have hlu : (us ++ []).length = ps.length := by rw [List.append_nil, ← r.length]; exact hl
  have hbb := hb s1 us I1.kIn hlu
  rw [List.append_nil] at hbb
  have hkind : ∀ y ∈ ps.zip us, (defScope st).names.lookup y.1 = some .local ∨ ((defScope st).names.lookup y.1 = some .cell ∧ ((cellsFrom (s1.heap.objs.size + 1) (defScope st).names []).lookup y.1).isSome = true) := fun ⟨n, v⟩ hy => by
    rcases S.par n (List.of_mem_zip hy).1 with q | q
    · exact .inl q
    · exact .inr ⟨q, PySem.W.cellsFrom_some _ _ _ (.inl q)⟩
  have core : codeAny (model Y.prog Y.w) (Y.hs pn a).A (.call (.ref f) ⟨us, []⟩) (CR CX0 (Y.hs pn a).stack Y.prog Y.w H1 s1 (fun v H' => Same H1 H' ∧ DV Y.K H' v d) E0) s1 := by
    refine codeAny_call_function hr.depth (KX _ _ lk) rfl S.co S.gen rfl (PySem.W.codeRec_of KX hcd) (hbb _ _ _ _ ?_)
    refine wpAny_newFunctionEnv_cells S.kind hkind fun env he s2 x2 => ?_
    subst he
    refine ⟨lim.keeps x2.toInCall.keep, codeAny_func ?_⟩
    have e0 := I1.env0
    have I0 : Inv (cxOf CX0 Y.prog Y.w Y.K Y.mg Y.base N qual (defScope st) f cdv Y.A (Y.hs pn a).stack s1 H1 E0) [] (start N vs) H1 s2 := inv_start S hr.hd ⟨e0.frames, e0.mod, e0.bs, e0.bsz, e0.funs, e0.frf, e0.hok, e0.bare⟩ hl r x2
    have J0 := (I0.bd (fun _ _ => False)).hs a
    refine wpAny_mono (hbody cdv (Y.hs pn a).stack s1 H1 [] s2 (start N vs) H1 ⟨fun _ _ => False, fun v H' => Same H1 H' ∧ DV Y.K H' v d, fun _ _ => False, fun _ _ => False⟩ J0 ⟨SD.start dv, fun v H' s' d' => ⟨s', d'⟩⟩) (fun fl s' hs => ?_) fun _ _ z => z.elim
    cases fl with
    | ret u =>
      obtain ⟨v, σ', H', J, rv, q⟩ := hs
      exact ⟨v, H', J.os, J.bare, J.base, J.hok, rv, q⟩
    | next => obtain ⟨_, _, _, z⟩ := hs; exact z.elim
    | brk => obtain ⟨_, _, _, z⟩ := hs; exact z.elim
    | cont => obtain ⟨_, _, _, z⟩ := hs; exact z.elim
  refine wpAny_call (codeAny_mono core fun rr s' hq => ?_)
  cases rr with
  | error z => exact pass0 pins σ _ _ z s' I1 hq
  | ok fl =>
    cases fl with
    | ret u =>
      obtain ⟨v, H', I3, rv, s3, d3⟩ := I1.after hq
      exact ⟨v, H', I3, rv, q v H' (sm.trans s3) d3⟩
    | next => exact False.elim hq
    | brk => exact False.elim hq
    | cont => exact False.elim hq
end
end L2
set_option maxRecDepth 100000
set_option maxHeartbeats 1000000
namespace L2
open PySem PySem.Spec PyProof.Rows
section
variable {prog : Program} {w : World} {A : Around} {E : Value → Shared → Prop} {s : Shared}
theorem draw_list {it t : Addr} {items : Array Value} (hne : t ≠ it) : ∀ (n i : Nat) (s : Shared) (Q : List Value → Shared → Prop), s.heap.IsListIter it t i → s.heap.IsList t items → i + n ≤ items.size →
    (∀ h', h'.IsListIter it t (i + n) → Heap.SameBut it s.heap h' → Q ((items.toList.drop i).take n) { s with heap := h' }) → wpAny (model prog w) A (draw (.ref it) n) Q E s
  | 0, i, s, Q, hit, _, _, hQ => by
    show wpAny _ _ (pure []) Q E s
    exact wpAny_pure (by simpa using hQ s.heap hit (Heap.SameBut.refl ..))
  | n + 1, i, s, Q, hit, ht, hle, hQ => by
    have hlt : i < items.size := by omega
    show wpAny _ _ (pyNext (.ref it) >>= _) Q E s
    refine wpAny_bind (wpAny_pyNext_list_item hit ht (x := items[i]) (by simp [hlt]) fun h₁ hit₁ hs₁ => ?_)
    refine wpAny_bind (wpAny_holding (draw_list hne n (i + 1) _ _ hit₁ (ht.extBut hs₁.extBut hne) (by omega) fun h₂ hit₂ hs₂ => wpAny_pure ?_))
    have hd : items.toList.drop i = items[i] :: items.toList.drop (i + 1) := by simp [List.drop_eq_getElem_cons, hlt]
    have := hQ h₂ (by rw [show i + (n + 1) = i + 1 + n by omega]; exact hit₂) (hs₁.trans hs₂)
    rw [hd, List.take_succ_cons] at this
    exact this
theorem unpackItems_list {t : Addr} {items : Array Value} {Q : List Value → Shared → Prop} (hh : A.handled = none) (ht : s.heap.IsList t items)
    (hQ : ∀ h', Heap.ExtBut s.heap.objs.size s.heap h' → Q items.toList { s with heap := h' }) : wpAny (model prog w) A (unpackItems (.ref t) items.size none) Q E s := by
  have hlt : t ≠ s.heap.objs.size := by obtain ⟨o, ho, _⟩ := ht; exact Nat.ne_of_lt (Heap.lt_size ho)
  unfold unpackItems
  refine wpAny_bind ?_
  · unfold notIterableAtAll
    refine wpAny_bind (wpAny_specialOf ht.typeIs PySem.F.slot_list_iter.lookup ?_)
    refine wpAny_pure ?_
    simp only [Bool.false_eq_true, if_false]
    refine wpAny_bind (wpAny_holding (wpAny_pyIter_list ht ?_))
    refine wpAny_bind (wpAny_holding (draw_list hlt items.size 0 _ _ ⟨_, Heap.get?_push_size _ rfl, rfl, rfl⟩ (ht.push _) (by omega) fun h₁ hit₁ hs₁ => ?_))
    have hall : List.take items.size (List.drop 0 items.toList) = items.toList := by
      rw [List.drop_zero]; exact List.take_of_length_le (by simp)
    rw [hall]
    rw [if_neg (by simp)]
    have ht₁ : h₁.IsList t items := (ht.push _).extBut hs₁.extBut hlt
    refine wpAny_bind (wpAny_holding (wpAny_pyNext_list_end hh hit₁ ht₁ (by simp) fun h₂ he₂ => ?_))
    simp only [Option.isSome_none, Bool.false_eq_true, if_false]
    refine wpAny_pure (hQ h₂ fun b o hb e => he₂ b o hb (hs₁.extBut b o hb (Heap.get?_push_of_some _ e)))
theorem assign_Tuple_list {env : Env} {elts : List Expr} {x1} {pos : Pos} {t : Addr} {items : Array Value} {Q : Unit → Shared → Prop} (hh : A.handled = none) (ht : s.heap.IsList t items)
    (hn : (assignEach elts env).length = items.size) (hstar : (assignEach elts env).findIdx? (·.1) = none)
    (h : ∀ h', Heap.ExtBut s.heap.objs.size s.heap h' → wpAny (model prog w) A (assignInOrder ((assignEach elts env).map (·.2)) items.toList) Q E { s with heap := h' }) :
    wpAny (model prog w) A (assign (.Tuple elts x1 pos) env (.ref t)) Q E s := by
  rw [assign_Tuple]
  refine wpAny_bind (wpAny_standAt ?_)
  unfold unpack
  rw [hn, hstar]
  exact wpAny_bind (wpAny_holding (unpackItems_list hh ht h))
end
section
variable {X : Cx} {pos : Pos}
def gLst (K : PySem.W.Frag) (n : Nat) (t : TGs) : TG := fun v σ H Q => ∃ a xs, v = .ref a ∧ SqL K H a xs ∧ xs.length = n ∧ t xs σ H Q
theorem pg_lst {es : List Expr} {k : Nat} {t : TGs} {n : Nat} (hc : X.calm = true) (h : PGs X es t)
    (hn : (assignEach es X.env).length = n := by rfl) (hst : (assignEach es X.env).findIdx? (·.1) = none := by rfl) : PG X (.Tuple es k pos) (gLst X.K n t) := by
  intro pins s σ H v u Q I r hw
  obtain ⟨a, xs, e1, hq, hl, hw⟩ := hw
  subst e1
  cases r
  obtain ⟨its, rv, pl, hz⟩ := I.list hq
  refine assign_Tuple_list (items := its.toArray) (I.ok.hd hc) pl.isList (by simp [hn, ← hl, rv.length]) hst fun h' hx => ?_
  have I1 : Inv X pins σ H { s with heap := h' } := I.kept (t' := s.toks) fun b o e => hx b o (Nat.ne_of_lt (Heap.lt_size e)) e
  exact h pins _ σ H xs _ Q I1 (by simpa using rv) hw
def bindLs (is : List Nat) (d : PyData) (G : Gam) : Gam := match d with
  | .list ds => bindN is ds G
  | _ => G
theorem bindDLs {K : PySem.W.Frag} {k : Nat} (is : List Nat) (ds : List PyData) (hl : is.length = ds.length) : BindD K k (gLst K is.length (gNames is)) (bindLs is) (.list ds) := ⟨fun v σ H G Q h dv q => by
  obtain ⟨l, us, rfl, hs, d1⟩ := dv.of_lst
  exact ⟨l, us, rfl, hs, by rw [d1.length, hl], bindN_to is ds us σ G Q hl h d1 q⟩⟩
end
end L2
set_option maxRecDepth 100000
set_option maxHeartbeats 1000000
namespace My
open PySem L2
local macro_rules | `(tactic| walk_at "dn") => `(tactic| first | decide | omega)
local macro_rules | `(tactic| walk_at "od") => `(tactic| first
  | exact od_add | exact od_sub | exact od_xor | exact od_lt | exact od_le | exact od_gt | exact od_ge
  | exact od_mod (by walk_at "dn") | exact od_fdiv ⟨by walk_at "dn", by walk_at "dn"⟩
  | exact od_mul (by first | exact Or.inl ⟨by walk_at "dn", by walk_at "dn"⟩ | exact Or.inr ⟨by walk_at "dn", by walk_at "dn"⟩)
  | exact od_pow ⟨by decide, by decide, by decide⟩
  | exact od_catL (by walk_at "sz") | exact od_catT (by simp) (by walk_at "sz")
  | exact od_in (.inl rfl) (by rfl) (by rfl) (by rfl) | exact od_in (.inr rfl) (by rfl) (by rfl) (by rfl)
  | exact od_notIn (.inl rfl) (by rfl) (by rfl) (by rfl) | exact od_notIn (.inr rfl) (by rfl) (by rfl) (by rfl)
  | exact od_eq (by walk_at "un") (by walk_at "cl") (by walk_at "cl") (by walk_at "dp") (by rfl)
  | exact od_ne (by walk_at "un") (by walk_at "cl") (by walk_at "cl") (by walk_at "dp") (by rfl))
local macro_rules | `(tactic| walk_at "sz") => `(tactic| first | decide | (rw [sizeLine_eq]; decide) | (rw [sizeLine_eq]; simp; done) | (rw [sizeLine_eq]; simp; omega) | (rw [sizeLine_eq]; omega))
local macro_rules | `(tactic| walk_at "bf") => `(tactic| (intro h; first | rfl | cases h))
local macro_rules | `(tactic| walk_at "rm") => `(tactic| exact Room.mono (by assumption) (by decide))
local macro_rules | `(tactic| walk_at "un") => `(tactic| exact Room.units (by assumption))
local macro_rules | `(tactic| walk_at "cl") => `(tactic| first | rfl | decide +kernel | (simp [PyData.canLay0, PyData.canLayAll0]; done))
local macro_rules | `(tactic| walk_at "dp") => `(tactic| first | (simp [PyData.depth, PyData.depthAll]; done) | decide)
local macro_rules | `(tactic| walk_at "rg") => `(tactic| first | decide | omega)
local macro_rules | `(tactic| walk_at "at") => `(tactic| first | rfl | exact atI_of (by walk_at "dn") (by rfl) | exact at_ints (by walk_at "dn") (by walk_at "dn"))
local macro_rules | `(tactic| walk_at "cd") => `(tactic| first | exact cd_lenL | exact cd_lenT | exact cd_lenS (by decide) | exact cd_all rfl | exact cd_tupleL | exact cd_listL | exact cd_listT | exact cd_intB | exact cd_max rfl | exact cd_min rfl | exact cd_sum rfl)
local macro_rules | `(tactic| walk_at "fn") => `(tactic| first | exact ⟨_, rfl, rfl⟩ | exact ⟨_, _, rfl, rfl⟩ | exact ⟨_, _, _, rfl, rfl⟩)
def top (i : Nat) : Stmt := PySem.Challenge.pw_likewise_k27_pieces_refused.main.body.getD i (.Pass ⟨0, 0, 0, 0⟩)
abbrev s_is_below : Stmt := top 6
abbrev s_is_word : Stmt := top 7
abbrev s_is_tuple : Stmt := top 15
abbrev s_are_pairs : Stmt := top 16
abbrev s_is_recipe : Stmt := top 17
abbrev s_is_question : Stmt := top 18
abbrev s_is_truth_recipe : Stmt := top 19
abbrev s_is_way : Stmt := top 20
abbrev s_is_test : Stmt := top 21
abbrev s_is_made_row : Stmt := top 22
abbrev s_check_piece : Stmt := top 23
abbrev s_law_whole : Stmt := top 26
abbrev s_law_cell : Stmt := top 27
abbrev s_law_recipe : Stmt := top 28
abbrev s_law_truth : Stmt := top 29
abbrev s_law_way : Stmt := top 30
abbrev s_law_row : Stmt := top 31
abbrev s_law_state : Stmt := top 32
abbrev s_law_text : Stmt := top 33
abbrev s_law_piece : Stmt := top 34
abbrev s_law_other : Stmt := top 35
abbrev s_law_bad_recipe : Stmt := top 36
abbrev s_law_bad_truth : Stmt := top 37
abbrev s_law_bad_way : Stmt := top 38
abbrev s_law_bad_row : Stmt := top 39
abbrev s_law_bad_whole : Stmt := top 40
abbrev s_law_refused : Stmt := top 41
abbrev s_law_spoiled : Stmt := top 42
abbrev s_law : Stmt := top 43
theorem sc_is_below : FnScope ["thing", "bound"] ["thing", "bound"] (defScope s_is_below) := ⟨rfl, rfl, rfl, by decide +kernel, rfl, by decide +kernel, by decide +kernel⟩
theorem sc_is_word : FnScope ["thing"] ["thing"] (defScope s_is_word) := ⟨rfl, rfl, rfl, by decide +kernel, rfl, by decide +kernel, by decide +kernel⟩
theorem sc_is_tuple : FnScope ["thing", "many"] ["thing", "many"] (defScope s_is_tuple) := ⟨rfl, rfl, rfl, by decide +kernel, rfl, by decide +kernel, by decide +kernel⟩
theorem sc_are_pairs : FnScope ["things", "bound", "least", "ahead", "pair"] ["things", "bound", "least"] (defScope s_are_pairs) := ⟨rfl, rfl, rfl, by decide +kernel, rfl, by decide +kernel, by decide +kernel⟩
theorem sc_is_recipe : FnScope ["thing"] ["thing"] (defScope s_is_recipe) := ⟨rfl, rfl, rfl, by decide +kernel, rfl, by decide +kernel, by decide +kernel⟩
theorem sc_is_question : FnScope ["kind", "s", "t"] ["kind", "s", "t"] (defScope s_is_question) := ⟨rfl, rfl, rfl, by decide +kernel, rfl, by decide +kernel, by decide +kernel⟩
theorem sc_is_truth_recipe : FnScope ["thing", "kind", "s", "t"] ["thing"] (defScope s_is_truth_recipe) := ⟨rfl, rfl, rfl, by decide +kernel, rfl, by decide +kernel, by decide +kernel⟩
theorem sc_is_way : FnScope ["thing", "done", "boxes", "truths", "place"] ["thing"] (defScope s_is_way) := ⟨rfl, rfl, rfl, by decide +kernel, rfl, by decide +kernel, by decide +kernel⟩
theorem sc_is_test : FnScope ["thing", "kind", "s", "t", "goes", "way"] ["thing"] (defScope s_is_test) := ⟨rfl, rfl, rfl, by decide +kernel, rfl, by decide +kernel, by decide +kernel⟩
theorem sc_is_made_row : FnScope ["thing", "parts"] ["thing"] (defScope s_is_made_row) := ⟨rfl, rfl, rfl, by decide +kernel, rfl, by decide +kernel, by decide +kernel⟩
theorem sc_check_piece : FnScope ["start", "text", "rows", "ways", "k", "way"] ["start", "text", "rows", "ways"] (defScope s_check_piece) := ⟨rfl, rfl, rfl, by decide +kernel, rfl, by decide +kernel, by decide +kernel⟩
theorem sc_law_whole : FnScope ["found"] ["found"] (defScope s_law_whole) := ⟨rfl, rfl, rfl, by decide +kernel, rfl, by decide +kernel, by decide +kernel⟩
theorem sc_law_cell : FnScope ["script", "k", "cell", "stir", "other", "more"] ["script", "k"] (defScope s_law_cell) := ⟨rfl, rfl, rfl, by decide +kernel, rfl, by decide +kernel, by decide +kernel⟩
theorem sc_law_recipe : FnScope ["cell", "n", "pairs", "spot", "k"] ["cell"] (defScope s_law_recipe) := ⟨rfl, rfl, rfl, by decide +kernel, rfl, by decide +kernel, by decide +kernel⟩
theorem sc_law_truth : FnScope ["cell", "kind", "s", "t"] ["cell"] (defScope s_law_truth) := ⟨rfl, rfl, rfl, by decide +kernel, rfl, by decide +kernel, by decide +kernel⟩
theorem sc_law_way : FnScope ["cell", "boxes", "k"] ["cell"] (defScope s_law_way) := ⟨rfl, rfl, rfl, by decide +kernel, rfl, by decide +kernel, by decide +kernel⟩
theorem sc_law_row : FnScope ["cell", "menu", "word", "r", "s", "t", "n", "kind"] ["cell", "menu"] (defScope s_law_row) := ⟨rfl, rfl, rfl, by decide +kernel, rfl, by decide +kernel, by decide +kernel⟩
theorem sc_law_state : FnScope ["script", "cell", "many", "pages", "k", "cells", "boxes"] ["script"] (defScope s_law_state) := ⟨rfl, rfl, rfl, by decide +kernel, rfl, by decide +kernel, by decide +kernel⟩
theorem sc_law_text : FnScope ["cells", "cell", "text", "k"] ["cells", "cell"] (defScope s_law_text) := ⟨rfl, rfl, rfl, by decide +kernel, rfl, by decide +kernel, by decide +kernel⟩
theorem sc_law_piece : FnScope ["script", "state", "menu", "most", "rows", "ways"] ["script", "state", "menu", "most"] (defScope s_law_piece) := ⟨rfl, rfl, rfl, by decide +kernel, rfl, by decide +kernel, by decide +kernel⟩
theorem sc_law_other : FnScope ["items", "at", "one", "made"] ["items", "at", "one"] (defScope s_law_other) := ⟨rfl, rfl, rfl, by decide +kernel, rfl, by decide +kernel, by decide +kernel⟩
theorem sc_law_bad_recipe : FnScope ["recipe", "cell", "some"] ["recipe", "cell"] (defScope s_law_bad_recipe) := ⟨rfl, rfl, rfl, by decide +kernel, rfl, by decide +kernel, by decide +kernel⟩
theorem sc_law_bad_truth : FnScope ["cell", "some"] ["cell"] (defScope s_law_bad_truth) := ⟨rfl, rfl, rfl, by decide +kernel, rfl, by decide +kernel, by decide +kernel⟩
theorem sc_law_bad_way : FnScope ["way", "cell", "sort", "at"] ["way", "cell"] (defScope s_law_bad_way) := ⟨rfl, rfl, rfl, by decide +kernel, rfl, by decide +kernel, by decide +kernel⟩
theorem sc_law_bad_row : FnScope ["way", "cell", "some"] ["way", "cell"] (defScope s_law_bad_row) := ⟨rfl, rfl, rfl, by decide +kernel, rfl, by decide +kernel, by decide +kernel⟩
theorem sc_law_bad_whole : FnScope ["piece", "cell", "start", "text", "rows", "ways", "sort"] ["piece", "cell"] (defScope s_law_bad_whole) := ⟨rfl, rfl, rfl, by decide +kernel, rfl, by decide +kernel, by decide +kernel⟩
theorem sc_law_refused : FnScope ["piece", "due", "told", "e"] ["piece", "due"] (defScope s_law_refused) := ⟨rfl, rfl, rfl, by decide +kernel, rfl, by decide +kernel, by decide +kernel⟩
theorem sc_law_spoiled : FnScope ["piece", "cell", "start", "text", "rows", "ways", "at", "to", "way", "row", "made"] ["piece", "cell"] (defScope s_law_spoiled) := ⟨rfl, rfl, rfl, by decide +kernel, rfl, by decide +kernel, by decide +kernel⟩
theorem sc_law : FnScope ["script", "state", "menu", "piece", "k", "bad", "due"] ["script"] (defScope s_law) := ⟨rfl, rfl, rfl, by decide +kernel, rfl, by decide +kernel, by decide +kernel⟩
def madeL : List (Str × Str) := [("set", "rn"), ("copy", "rs"), ("cut", "rs"), ("add", "rst"), ("sub", "rst"), ("mul", "rst"), ("and", "rst"), ("xor", "rst"), ("addn", "rsn"), ("load", "rsn"), ("store", "snt"), ("out", "s")]
def madePartT : List (Str × PyData) := madeL.map fun q => (q.1, .str q.2)
def madeBoundT : List (Str × PyData) := [("r", .int 12), ("s", .int 12), ("t", .int 12), ("n", .int 4096)]
structure Txt (K : PySem.W.Frag) (mg : Str → Option Value) (P : Params) : Prop where
  b_len : mg "len" = none
  b_isinstance : mg "isinstance" = none
  b_int : mg "int" = none
  b_bool : mg "bool" = none
  b_str : mg "str" = none
  b_all : mg "all" = none
  b_zip : mg "zip" = none
  b_tuple : mg "tuple" = none
  b_range : mg "range" = none
  b_max : mg "max" = none
  b_min : mg "min" = none
  b_enumerate : mg "enumerate" = none
  c_spots : ∃ t, mg "SPOTS" = some (.int 12 t)
  c_most_cells : ∃ t, mg "MOST_CELLS" = some (.int 60 t)
  c_most_rows : ∃ t, mg "MOST_ROWS" = some (.int 60 t)
  c_most_done : ∃ t, mg "MOST_DONE" = some (.int 99 t)
  t_made_parts : GDict K mg P "MADE_PARTS" madePartT
  t_made_bounds : GDict K mg P "MADE_BOUNDS" madeBoundT
theorem Txt.g_spots {X : Cx} {G : Gam} {pos : Pos} (T : Txt X.K X.mg X.w.params) (hg : Gl X "SPOTS") : EV X G (.Name "SPOTS" pos) (.int 12) := by
  obtain ⟨t, h⟩ := T.c_spots
  exact ev_globI hg h
theorem Txt.g_most_cells {X : Cx} {G : Gam} {pos : Pos} (T : Txt X.K X.mg X.w.params) (hg : Gl X "MOST_CELLS") : EV X G (.Name "MOST_CELLS" pos) (.int 60) := by
  obtain ⟨t, h⟩ := T.c_most_cells
  exact ev_globI hg h
theorem Txt.g_most_rows {X : Cx} {G : Gam} {pos : Pos} (T : Txt X.K X.mg X.w.params) (hg : Gl X "MOST_ROWS") : EV X G (.Name "MOST_ROWS" pos) (.int 60) := by
  obtain ⟨t, h⟩ := T.c_most_rows
  exact ev_globI hg h
theorem Txt.g_most_done {X : Cx} {G : Gam} {pos : Pos} (T : Txt X.K X.mg X.w.params) (hg : Gl X "MOST_DONE") : EV X G (.Name "MOST_DONE" pos) (.int 99) := by
  obtain ⟨t, h⟩ := T.c_most_done
  exact ev_globI hg h
section
variable {P : Program} {w : World} {K : PySem.W.Frag} {mg : Str → Option Value} {base : Heap}
def cF4 (a b : Int) : Int := (a * 2147483629 + b) * 2147483587 + (b + a) * (b + 7) % 2147483587
def cF3 (a b : Int) : Int := cF4 a (b * b % 2147483629)
def cF2 (a k : Int) : Int := cF3 a ((a + 69621 * (k + 1)) * 40692 % 998244353)
def cF1 (a k : Int) : Int := cF2 (a * a % 1000000007) k
def cF0 (c k : Int) : Int := cF1 ((c % 2147483647 + 977 * k + 1) * 48271 % 2147483647) k
def cIn (ns : List Int) (k : Nat) : Int := if 0 < ns.length then ns.getD (k % ns.length) 0 % 10 ^ 60 else 0
def cellN (ns : List Int) (k : Nat) : Int := if 10 ^ 18 ≤ cIn ns k ∧ k < ns.length then cIn ns k else cF0 (cIn ns k) k
theorem cIn_range (ns : List Int) (k : Nat) : 0 ≤ cIn ns k ∧ cIn ns k < 10 ^ 60 := by
  unfold cIn
  split
  · omega
  · omega
def F_cell (ds : List PyData) (d : PyData) : Prop := ∃ (ns : List Int) (k : Nat), ds = [.list (ns.map .int), .int (k : Int)] ∧ ns.length ≤ 63 ∧ k ≤ 1000 ∧ d = .int (cellN ns k)
theorem d_law_cell (T : Txt K mg w.params) {f : Addr} {fd : FuncData} (F : Fun K "_law_cell" "_law_cell" s_law_cell f fd) (hm : mg "_law_cell" = some (.ref f)) : DFn P w K mg base 1 "_law_cell" F_cell := by
  refine F.data hm (F.binds fun _ _ _ _ _ _ us hl => match us, hl with | [_, _], _ => rfl) sc_law_cell (fun ds d ⟨_, _, e, _⟩ => by rw [e]; rfl) fun cdv A outer s H E ds d hr ⟨ns, k, e, hns, hk, e2⟩ => ?_
  subst e e2
  have hlm : ((List.map PyData.int ns).length : Int) = ns.length := by rw [List.length_map]
  refine svs_cons (sv_set (i := 2) sc_law_cell.nd rfl (by first | exact Or.inl rfl | exact Or.inr rfl) ev_int) ?_
  refine svs_cons (G1 := [some (.list (ns.map PyData.int)), some (.int (k : Int)), some (.int (cIn ns k)), none, none, none]) ?_ ?_
  · by_cases hz : 0 < ns.length
    · have hp : 0 < ((List.map PyData.int ns).length : Int) := by omega
      have i0 : 0 ≤ (k : Int) % ((List.map PyData.int ns).length : Int) := Int.emod_nonneg _ (by omega)
      have i1 : (k : Int) % ((List.map PyData.int ns).length : Int) < ns.length := by rw [← hlm]; exact Int.emod_lt_of_pos _ hp
      have e : cIn ns k = ns.getD ((k : Int) % ((List.map PyData.int ns).length : Int)).toNat 0 % 10 ^ 60 := by
        unfold cIn
        rw [if_pos hz, hlm]
        congr 2
      refine sv_if (k := true) (tv_eq (tv_cmp (ev_callB2 "len" (av_cons (ev_var 0 (by rfl) (pv 0)) av_nil) (by walk_at "cd") rfl T.b_len (by decide +kernel)) ev_int (by walk_at "od") (nomark _)) (by simp; omega)) (fun _ => svs_cons (sv_set (i := 2) (d := .int (cIn ns k)) sc_law_cell.nd rfl (Or.inl rfl) (ev_eq (ev_bin (ev_ixL (ev_var 0 (by rfl) (pv 0)) (ev_bin (ev_var 1 (by rfl) (pv 1)) (ev_callB2 "len" (av_cons (ev_var 0 (by rfl) (pv 0)) av_nil) (by walk_at "cd") rfl T.b_len (by decide +kernel)) (by walk_at "od")) (at_ints i0 i1)) (ev_bin ev_int ev_int (by walk_at "od")) (by walk_at "od")) (by rw [e]; rfl))) svs_nil) (fun h => by cases h)
    · have e : cIn ns k = 0 := by unfold cIn; rw [if_neg hz]
      rw [e]
      exact sv_if (k := false) (tv_eq (tv_cmp (ev_callB2 "len" (av_cons (ev_var 0 (by rfl) (pv 0)) av_nil) (by walk_at "cd") rfl T.b_len (by decide +kernel)) ev_int (by walk_at "od") (nomark _)) (by simp; exact List.eq_nil_of_length_eq_zero (by omega))) (fun h => by cases h) (fun _ => svs_nil)
  have hc := cIn_range ns k
  unfold cellN
  generalize cIn ns k = c at hc
  by_cases hb : 10 ^ 18 ≤ c ∧ k < ns.length
  · rw [if_pos hb]
    refine svs_ret (sv_if (k := true) (tv_eq (tv_w (wv_and (tv_cmp (ev_var 2 (by rfl) (pv 2)) (ev_bin ev_int ev_int (by walk_at "od")) (by walk_at "od") (nomark _)) (fun _ => (wv_and1 (tv_cmp (ev_var 1 (by rfl) (pv 1)) (ev_callB2 "len" (av_cons (ev_var 0 (by rfl) (pv 0)) av_nil) (by walk_at "cd") rfl T.b_len (by decide +kernel)) (by walk_at "od") (nomark _)))))) ?_) (fun _ => svs_ret (sv_ret (ev_var 2 (by rfl) (pv 2)))) (fun h => by cases h))
    rw [hlm, decide_eq_true (show (k : Int) < ns.length by omega)]
    show (decide ((10 : Int) ^ 18 ≤ c) && true) = true
    rw [decide_eq_true hb.1]
    rfl
  · rw [if_neg hb]
    refine svs_cons (sv_if (k := false) (tv_eq (tv_w (wv_and (tv_cmp (ev_var 2 (by rfl) (pv 2)) (ev_bin ev_int ev_int (by walk_at "od")) (by walk_at "od") (nomark _)) (fun _ => (wv_and1 (tv_cmp (ev_var 1 (by rfl) (pv 1)) (ev_callB2 "len" (av_cons (ev_var 0 (by rfl) (pv 0)) av_nil) (by walk_at "cd") rfl T.b_len (by decide +kernel)) (by walk_at "od") (nomark _)))))) ?_) (fun h => by cases h) (fun _ => svs_nil)) ?_
    · rw [hlm]
      show (decide ((10 : Int) ^ 18 ≤ c) && decide ((k : Int) < ns.length)) = false
      by_cases h1 : (10 : Int) ^ 18 ≤ c
      · rw [decide_eq_false (show ¬ (k : Int) < ns.length by omega), Bool.and_false]
      · rw [decide_eq_false h1, Bool.false_and]
    unfold cF0
    refine svs_cons (sv_set (i := 3) (d := .int ((c % 2147483647 + 977 * (k : Int) + 1) * 48271 % 2147483647)) sc_law_cell.nd rfl (Or.inl rfl) (ev_eq (ev_bin (ev_bin (ev_bin (ev_bin (ev_bin (ev_var 2 (by rfl) (pv 2)) ev_int (by walk_at "od")) (ev_bin ev_int (ev_var 1 (by rfl) (pv 1)) (by walk_at "od")) (by walk_at "od")) ev_int (by walk_at "od")) ev_int (by walk_at "od")) ev_int (by walk_at "od")) rfl)) ?_
    have h1 : 0 ≤ (c % 2147483647 + 977 * (k : Int) + 1) * 48271 % 2147483647 ∧ (c % 2147483647 + 977 * (k : Int) + 1) * 48271 % 2147483647 < 2147483647 := by omega
    generalize (c % 2147483647 + 977 * (k : Int) + 1) * 48271 % 2147483647 = a at h1
    unfold cF1
    refine svs_cons (sv_set (i := 3) (d := .int (a * a % 1000000007)) sc_law_cell.nd rfl (Or.inl rfl) (ev_eq (ev_bin (ev_bin (ev_var 3 (by rfl) (pv 3)) (ev_var 3 (by rfl) (pv 3)) (by walk_at "od")) ev_int (by walk_at "od")) rfl)) ?_
    have h2 : 0 ≤ a * a % 1000000007 ∧ a * a % 1000000007 < 1000000007 := by omega
    generalize a * a % 1000000007 = a2 at h2
    unfold cF2
    refine svs_cons (sv_set (i := 4) (d := .int ((a2 + 69621 * ((k : Int) + 1)) * 40692 % 998244353)) sc_law_cell.nd rfl (Or.inl rfl) (ev_eq (ev_bin (ev_bin (ev_bin (ev_var 3 (by rfl) (pv 3)) (ev_bin ev_int (ev_bin (ev_var 1 (by rfl) (pv 1)) ev_int (by walk_at "od")) (by walk_at "od")) (by walk_at "od")) ev_int (by walk_at "od")) ev_int (by walk_at "od")) rfl)) ?_
    have h3 : 0 ≤ (a2 + 69621 * ((k : Int) + 1)) * 40692 % 998244353 ∧ (a2 + 69621 * ((k : Int) + 1)) * 40692 % 998244353 < 998244353 := by omega
    generalize (a2 + 69621 * ((k : Int) + 1)) * 40692 % 998244353 = b at h3
    unfold cF3
    refine svs_cons (sv_set (i := 4) (d := .int (b * b % 2147483629)) sc_law_cell.nd rfl (Or.inl rfl) (ev_eq (ev_bin (ev_bin (ev_var 4 (by rfl) (pv 4)) (ev_var 4 (by rfl) (pv 4)) (by walk_at "od")) ev_int (by walk_at "od")) rfl)) ?_
    have h4 : 0 ≤ b * b % 2147483629 ∧ b * b % 2147483629 < 2147483629 := by omega
    generalize b * b % 2147483629 = b2 at h4
    unfold cF4
    refine svs_cons (sv_set (i := 5) (d := .int ((b2 + a2) * (b2 + 7) % 2147483587)) sc_law_cell.nd rfl (Or.inl rfl) (ev_eq (ev_bin (ev_bin (ev_bin (ev_var 4 (by rfl) (pv 4)) (ev_var 3 (by rfl) (pv 3)) (by walk_at "od")) (ev_bin (ev_var 4 (by rfl) (pv 4)) ev_int (by walk_at "od")) (by walk_at "od")) ev_int (by walk_at "od")) rfl)) ?_
    exact svs_ret (sv_ret (ev_eq (ev_bin (ev_bin (ev_bin (ev_bin (ev_var 3 (by rfl) (pv 3)) ev_int (by walk_at "od")) (ev_var 4 (by rfl) (pv 4)) (by walk_at "od")) ev_int (by walk_at "od")) (ev_var 5 (by rfl) (pv 5)) (by walk_at "od")) rfl))
def belowB : PyData → Int → Bool
  | .int i, b => decide (0 ≤ i) && decide (i < b)
  | _, _ => false
def F_is_below (ds : List PyData) (d : PyData) : Prop := ∃ (i b : Int), ds = [.int i, .int b] ∧ d = .bool (belowB (.int i) b)
theorem d_is_below (T : Txt K mg w.params) {f : Addr} {fd : FuncData} (F : Fun K "is_below" "is_below" s_is_below f fd) (hm : mg "is_below" = some (.ref f)) : DFn P w K mg base 1 "is_below" F_is_below := by
  refine F.data hm (F.binds fun _ _ _ _ _ _ us hl => match us, hl with | [_, _], _ => rfl) sc_is_below (fun ds d ⟨_, _, e, _⟩ => by rw [e]; rfl) fun cdv A outer s H E ds d hr ⟨t, b, e, e2⟩ => ?_
  subst e e2
  exact svs_ret (sv_ret (ev_and (ev_isi (n := "int") (ev_var 0 (by rfl) (pv 0)) rfl T.b_isinstance rfl T.b_int (by decide +kernel) (by rfl)) (fun _ => (ev_and (ev_not (ev_isi (n := "bool") (ev_var 0 (by rfl) (pv 0)) rfl T.b_isinstance rfl T.b_bool (by decide +kernel) (by rfl))) (fun _ => (ev_one (ev_chain2 ev_int (ev_var 0 (by rfl) (pv 0)) (by walk_at "od") (ev_var 1 (by rfl) (pv 1)) (by walk_at "od")))) (by walk_at "bf"))) (by walk_at "bf")))
def F_is_word (ds : List PyData) (d : PyData) : Prop := ∃ i : Int, ds = [.int i] ∧ d = .bool (belowB (.int i) 4096)
theorem d_is_word {f : Addr} {fd : FuncData} (D_is_below : DFn P w K mg base 1 "is_below" F_is_below) (F : Fun K "is_word" "is_word" s_is_word f fd) (hm : mg "is_word" = some (.ref f)) : DFn P w K mg base 2 "is_word" F_is_word := by
  refine F.data hm (F.binds fun _ _ _ _ _ _ us hl => match us, hl with | [_], _ => rfl) sc_is_word (fun ds d ⟨_, e, _⟩ => by rw [e]; rfl) fun cdv A outer s H E ds d hr ⟨t, e, e2⟩ => ?_
  subst e e2
  exact svs_ret (sv_ret (ev_call D_is_below (by walk_at "rm") rfl (av_cons (ev_var 0 (by rfl) (pv 0)) (av_cons ev_int av_nil)) ⟨_, _, rfl, rfl⟩))
end
section
variable {P : Program} {w : World} {K : PySem.W.Frag} {mg : Str → Option Value} {base : Heap}
def pairD (q : Int × Int) : PyData := .tuple [.int q.1, .int q.2]
abbrev recD (n : Int) (ps : List (Int × Int)) : PyData := .tuple [.int n, .tuple (ps.map pairD)]
def okFrom (bound least : Int) : Int → List (Int × Int) → Prop
  | _, [] => True
  | a, q :: r => a < q.1 ∧ q.1 < bound ∧ least ≤ q.2 ∧ q.2 < 4096 ∧ okFrom bound least q.1 r
def lastP : Int → List (Int × Int) → Int
  | a, [] => a
  | _, q :: r => lastP q.1 r
theorem okFrom_snoc {b l : Int} {q : Int × Int} (h2 : q.1 < b) (h3 : l ≤ q.2) (h4 : q.2 < 4096) : ∀ (ps : List (Int × Int)) (a : Int), okFrom b l a ps → lastP a ps < q.1 → okFrom b l a (ps ++ [q])
  | [], a, _, h => ⟨h, h2, h3, h4, trivial⟩
  | p :: ps, a, ⟨x1, x2, x3, x4, x5⟩, h => ⟨x1, x2, x3, x4, okFrom_snoc h2 h3 h4 ps p.1 x5 h⟩
theorem lastP_snoc (q : Int × Int) : ∀ (ps : List (Int × Int)) (a : Int), lastP a (ps ++ [q]) = q.1
  | [], a => rfl
  | p :: ps, a => lastP_snoc q ps p.1
def manyOf (c : Int) : Int := [1, 4095, 1 + c / 16 % 4095].getD (c / 4 % 3).toNat 0
theorem manyOf_range (c : Int) : 1 ≤ manyOf c ∧ manyOf c < 4096 := by
  unfold manyOf
  have h : c / 4 % 3 = 0 ∨ c / 4 % 3 = 1 ∨ c / 4 % 3 = 2 := by omega
  rcases h with h | h | h <;> rw [h]
  · exact (by decide : (1 : Int) ≤ 1 ∧ (1 : Int) < 4096)
  · exact (by decide : (1 : Int) ≤ 4095 ∧ (4095 : Int) < 4096)
  · show 1 ≤ 1 + c / 16 % 4095 ∧ 1 + c / 16 % 4095 < 4096
    omega
def rPut (c sp : Int) (ps : List (Int × Int)) : List (Int × Int) := if sp < 12 then ps ++ [(sp, manyOf c)] else ps
def rStep (s : Int × Int × List (Int × Int)) : Int × Int × List (Int × Int) := (s.1 / 4 / 1000, s.2.1 + 1 + s.1 / 4 % 4, rPut (s.1 / 4) (s.2.1 + 1 + s.1 / 4 % 4) s.2.2)
def rIt (s : Int × Int × List (Int × Int)) : Nat → Int × Int × List (Int × Int)
  | 0 => s
  | k + 1 => rStep (rIt s k)
def recN (c : Int) : Int := [0, c / 4 % 4096, 4095, 1].getD (c % 4).toNat 0
def recPs (c : Int) : List (Int × Int) := (rIt (c / 16384, -1, []) (c / 16384 % 4).toNat).2.2
def recOf (c : Int) : PyData := recD (recN c) (recPs c)
theorem rIt_ok (c : Int) : ∀ k : Nat, okFrom 12 1 (-1) (rIt (c, -1, []) k).2.2 ∧ lastP (-1) (rIt (c, -1, []) k).2.2 ≤ (rIt (c, -1, []) k).2.1 ∧ (rIt (c, -1, []) k).2.2.length ≤ k
  | 0 => ⟨trivial, Int.le_refl _, Nat.le_refl _⟩
  | k + 1 => by
    obtain ⟨h1, h2, h3⟩ := rIt_ok c k
    show okFrom 12 1 (-1) (rStep (rIt (c, -1, []) k)).2.2 ∧ lastP (-1) (rStep (rIt (c, -1, []) k)).2.2 ≤ (rStep (rIt (c, -1, []) k)).2.1 ∧ (rStep (rIt (c, -1, []) k)).2.2.length ≤ k + 1
    generalize rIt (c, -1, []) k = s at h1 h2 h3
    obtain ⟨c', sp, ps⟩ := s
    simp only at h1 h2 h3
    show okFrom 12 1 (-1) (rPut (c' / 4) (sp + 1 + c' / 4 % 4) ps) ∧ lastP (-1) (rPut (c' / 4) (sp + 1 + c' / 4 % 4) ps) ≤ sp + 1 + c' / 4 % 4 ∧ (rPut (c' / 4) (sp + 1 + c' / 4 % 4) ps).length ≤ k + 1
    have hm := manyOf_range (c' / 4)
    unfold rPut
    split
    · refine ⟨okFrom_snoc (by assumption) hm.1 hm.2 ps _ h1 (by show _ < sp + 1 + c' / 4 % 4; omega), ?_, by rw [List.length_append]; show _ + 1 ≤ _; omega⟩
      rw [lastP_snoc]
      exact Int.le_refl _
    · exact ⟨h1, by omega, by omega⟩
theorem recN_range (c : Int) : 0 ≤ recN c ∧ recN c < 4096 := by
  unfold recN
  have h : c % 4 = 0 ∨ c % 4 = 1 ∨ c % 4 = 2 ∨ c % 4 = 3 := by omega
  rcases h with h | h | h | h <;> rw [h]
  · exact (by decide : (0 : Int) ≤ 0 ∧ (0 : Int) < 4096)
  · show 0 ≤ c / 4 % 4096 ∧ c / 4 % 4096 < 4096
    omega
  · exact (by decide : (0 : Int) ≤ 4095 ∧ (4095 : Int) < 4096)
  · exact (by decide : (0 : Int) ≤ 1 ∧ (1 : Int) < 4096)
def RecOk (d : PyData) : Prop := ∃ n ps, 0 ≤ n ∧ n < 4096 ∧ okFrom 12 1 (-1) ps ∧ ps.length ≤ 12 ∧ d = recD n ps
theorem recOf_ok (c : Int) : RecOk (recOf c) := by
  obtain ⟨h1, _, h3⟩ := rIt_ok (c / 16384) (c / 16384 % 4).toNat
  exact ⟨_, _, (recN_range c).1, (recN_range c).2, h1, by show (rIt _ _).2.2.length ≤ 12; omega, rfl⟩
theorem noLs_pairs : ∀ ps : List (Int × Int), noLs (ps.map pairD) = true
  | [] => rfl
  | q :: ps => by rw [List.map_cons]; unfold noLs; rw [noLs_pairs ps]; rfl
theorem noL_rec (n : Int) (ps : List (Int × Int)) : noL (recD n ps) = true := by
  show (true && (noLs (ps.map pairD) && true)) = true
  rw [noLs_pairs]
  rfl
theorem noL_recOf (c : Int) : noL (recOf c) = true := noL_rec _ _
def F_rec (ds : List PyData) (d : PyData) : Prop := ∃ c, ds = [.int c] ∧ d = recOf c
theorem d_law_recipe (T : Txt K mg w.params) {f : Addr} {fd : FuncData} (F : Fun K "_law_recipe" "_law_recipe" s_law_recipe f fd) (hm : mg "_law_recipe" = some (.ref f)) : DFn P w K mg base 1 "_law_recipe" F_rec := by
  refine F.data hm (F.binds fun _ _ _ _ _ _ us hl => match us, hl with | [_], _ => rfl) sc_law_recipe (fun ds d ⟨c, e, _⟩ => by rw [e]; rfl) fun cdv A outer s H E ds d hr ⟨c, e, e2⟩ => ?_
  subst e e2
  refine svs_cons (sv_set (i := 1) (d := .int (recN c)) sc_law_recipe.nd rfl (Or.inl rfl) (ev_ixL (ev_lst (av_cons ev_int (av_cons (ev_bin (ev_bin (ev_var 0 (by rfl) (pv 0)) ev_int (by walk_at "od")) ev_int (by walk_at "od")) (av_cons ev_int (av_cons ev_int av_nil)))) (by walk_at "sz")) (ev_bin (ev_var 0 (by rfl) (pv 0)) ev_int (by walk_at "od")) (at_ints (zs := [0, c / 4 % 4096, 4095, 1]) (by omega) (show c % 4 < (4 : Int) by omega)))) ?_
  refine svs_cons (sv_set (i := 0) (d := .int (c / 16384)) sc_law_recipe.nd rfl (Or.inl rfl) (ev_eq (ev_bin (ev_var 0 (by rfl) (pv 0)) ev_int (by walk_at "od")) rfl)) ?_
  have hok := rIt_ok (c / 16384)
  unfold recOf recPs
  generalize recN c = n
  generalize c / 16384 = c1 at hok
  refine svs_own (i := 2) sc_law_recipe.nd rfl (Or.inl rfl) (by show 2 < 5; decide) fun H0 p => ?_
  refine hrs_cons (Mid := fun G ds => G = [some (.int c1), some (.int n), none, some (.int (-1)), none] ∧ ds = []) (ht_set (j := 3) sc_law_recipe.nd rfl (by decide) (Or.inl rfl) ?_) ?_
  · rintro G ds ⟨rfl, rfl⟩
    exact ⟨.int (-1), ev_eq (ev_neg ev_int) rfl, rfl, rfl, rfl⟩
  refine hrs_cons (Mid := fun G ds => (∃ cc sp kk, G = [cc, some (.int n), none, sp, kk]) ∧ ds = (rIt (c1, -1, []) (c1 % 4).toNat).2.2.map pairD) ?_ (hrs_out ?_)
  · refine ht_forR (j := 4) (lo := 0) (n := (c1 % 4).toNat) (fun k G ds => ∃ kk, G = [some (.int (rIt (c1, -1, []) k).1), some (.int n), none, some (.int (rIt (c1, -1, []) k).2.1), kk] ∧ ds = (rIt (c1, -1, []) k).2.2.map pairD) PassesOwn.never rfl (by decide) (pg_name (i := 4) sc_law_recipe.nd rfl (Or.inl rfl)) ?_ ?_ ?_
    · rintro G ds ⟨rfl, rfl⟩
      exact ⟨⟨none, rfl, rfl⟩, pi_r1 (ev_bin (ev_var 0 (by rfl) (pv 0)) ev_int (by walk_at "od")) (by omega) (by omega) rfl T.b_range⟩
    · intro k hk
      have hk4 : k < 4 := by omega
      have hl := (hok k).2.2
      have es : rIt (c1, -1, []) (k + 1) = rStep (rIt (c1, -1, []) k) := rfl
      rw [es]
      generalize rIt (c1, -1, []) k = st at hl
      obtain ⟨cc, sp, ps⟩ := st
      simp only at hl ⊢
      refine hts_cons (Mid := fun G ds => ∃ kk, G = [some (.int (cc / 4)), some (.int n), none, some (.int sp), kk] ∧ ds = ps.map pairD) (ht_set (j := 0) sc_law_recipe.nd rfl (by decide) (Or.inl rfl) ?_) ?_
      · rintro G ds ⟨G', ⟨kk, rfl, h4⟩, rfl⟩
        exact ⟨_, (ev_bin (ev_var 0 (by rfl) (pv 0)) ev_int (by walk_at "od")), rfl, _, rfl, h4⟩
      refine hts_cons (Mid := fun G ds => ∃ kk, G = [some (.int (cc / 4)), some (.int n), none, some (.int (sp + 1 + cc / 4 % 4)), kk] ∧ ds = ps.map pairD) (ht_set (j := 3) sc_law_recipe.nd rfl (by decide) (Or.inl rfl) ?_) ?_
      · rintro G ds ⟨kk, rfl, h4⟩
        exact ⟨_, (ev_bin (ev_bin (ev_var 3 (by rfl) (pv 3)) ev_int (by walk_at "od")) (ev_bin (ev_var 0 (by rfl) (pv 0)) ev_int (by walk_at "od")) (by walk_at "od")), rfl, _, rfl, h4⟩
      show HTs _ _ _ _ _ _ (fun G ds => ∃ kk, G = [some (.int (cc / 4 / 1000)), some (.int n), none, some (.int (sp + 1 + cc / 4 % 4)), kk] ∧ ds = (rPut (cc / 4) (sp + 1 + cc / 4 % 4) ps).map pairD)
      generalize cc / 4 = c4
      generalize sp + 1 + c4 % 4 = sp'
      refine hts_cons (Mid := fun G ds => ∃ kk, G = [some (.int c4), some (.int n), none, some (.int sp'), kk] ∧ ds = (rPut c4 sp' ps).map pairD) ?_ ?_
      · by_cases hs : sp' < 12
        · refine ht_if (PreA := fun G ds => ∃ kk, G = [some (.int c4), some (.int n), none, some (.int sp'), kk] ∧ ds = ps.map pairD) (PreB := fun _ _ => False) ?_ (hts_cons (ht_append ?_ (pv 2)) (hts_nil fun _ _ h => h)) (fun pins s σ H D I ⟨⟨_, _, f, _⟩, _⟩ => f.elim)
          · rintro G ds ⟨kk, rfl, h4⟩
            exact .inl ⟨tv_eq (tv_cmp (ev_var 3 (by rfl) (pv 3)) ev_int (by walk_at "od") (nomark _)) (decide_eq_true hs), kk, rfl, h4⟩
          · rintro G ds ⟨kk, rfl, rfl⟩
            refine ⟨pairD (sp', manyOf c4), ev_tup (av_cons (ev_var 3 (by rfl) (pv 3)) (av_cons (ev_ixL (ev_lst (av_cons ev_int (av_cons ev_int (av_cons (ev_bin ev_int (ev_bin (ev_bin (ev_var 0 (by rfl) (pv 0)) ev_int (by walk_at "od")) ev_int (by walk_at "od")) (by walk_at "od")) av_nil))) (by walk_at "sz")) (ev_bin (ev_bin (ev_var 0 (by rfl) (pv 0)) ev_int (by walk_at "od")) ev_int (by walk_at "od")) (at_ints (zs := [1, 4095, 1 + c4 / 16 % 4095]) (by omega) (show c4 / 4 % 3 < (3 : Int) by omega))) av_nil)) (by walk_at "sz"), rfl, by rw [List.length_map, sizeLine_eq]; omega, kk, rfl, ?_⟩
            unfold rPut
            rw [if_pos hs, List.map_append]
            rfl
        · refine ht_if (PreA := fun _ _ => False) (PreB := fun G ds => ∃ kk, G = [some (.int c4), some (.int n), none, some (.int sp'), kk] ∧ ds = ps.map pairD) ?_ (fun pins s σ H D I ⟨⟨_, _, f, _⟩, _⟩ => f.elim) (hts_nil ?_)
          · rintro G ds ⟨kk, rfl, h4⟩
            exact .inr ⟨tv_eq (tv_cmp (ev_var 3 (by rfl) (pv 3)) ev_int (by walk_at "od") (nomark _)) (decide_eq_false hs), kk, rfl, h4⟩
          · rintro G ds ⟨kk, e, rfl⟩
            refine ⟨kk, e, ?_⟩
            unfold rPut
            rw [if_neg hs]
      refine hts_cons (ht_set (j := 0) sc_law_recipe.nd rfl (by decide) (Or.inl rfl) ?_) (hts_nil fun _ _ h => h)
      rintro G ds ⟨kk, rfl, h4⟩
      exact ⟨_, (ev_bin (ev_var 0 (by rfl) (pv 0)) ev_int (by walk_at "od")), rfl, _, rfl, h4⟩
    · rintro G ds ⟨kk, e, h4⟩
      exact ⟨⟨_, _, _, e⟩, h4⟩
  · rintro G ds ⟨⟨cc, sp, kk, rfl⟩, rfl⟩
    exact svs_ret (sv_ret (ev_tup (av_cons (ev_var 1 (by rfl) (pv 1)) (av_cons (ev_callTy2 "tuple" (av_cons (ev_var 2 (by rfl) (pv 2)) av_nil) (by walk_at "cd") rfl T.b_tuple (by decide +kernel)) av_nil)) (by walk_at "sz")))
end
section
variable {P : Program} {w : World} {K : PySem.W.Frag} {mg : Str → Option Value} {base : Heap}
def kindS : Nat → Str
  | 0 => "known"
  | 1 => "truth"
  | 2 => "same"
  | _ => "less"
abbrev truD (yes : Bool) (j : Nat) (s t : Int) : PyData := .tuple [.bool yes, .str (kindS j), .int s, .int t]
theorem kinds4 {j : Nat} (h : j < 4) : j = 0 ∨ j = 1 ∨ j = 2 ∨ j = 3 := by omega
theorem kindS_lay (j : Nat) : PyData.canLay0 (.str (kindS j)) = true := by
  match j with
  | 0 => decide +kernel
  | 1 => decide +kernel
  | 2 => decide +kernel
  | n + 3 => exact (by decide +kernel : PyData.canLay0 (.str "less") = true)
def sT (j : Nat) (c : Int) : Int := c / 8 % 12 * (if j = 0 then 0 else 1)
def tT (j : Nat) (c : Int) : Int := c / 96 % 12 * (if j < 2 then 0 else 1)
theorem sT_range (j : Nat) (c : Int) : 0 ≤ sT j c ∧ sT j c < 12 := by unfold sT; split <;> omega
theorem tT_range (j : Nat) (c : Int) : 0 ≤ tT j c ∧ tT j c < 12 := by unfold tT; split <;> omega
def F_truth (ds : List PyData) (d : PyData) : Prop := ∃ (c : Int) (j : Nat), ds = [.int c] ∧ c % 4 = (j : Int) ∧ d = truD (c / 4 % 2 == 1) j (sT j c) (tT j c)
theorem d_law_truth (T : Txt K mg w.params) {f : Addr} {fd : FuncData} (F : Fun K "_law_truth" "_law_truth" s_law_truth f fd) (hm : mg "_law_truth" = some (.ref f)) : DFn P w K mg base 1 "_law_truth" F_truth := by
  refine F.data hm (F.binds fun _ _ _ _ _ _ us hl => match us, hl with | [_], _ => rfl) sc_law_truth (fun ds d ⟨_, _, e, _⟩ => by rw [e]; rfl) fun cdv A outer s H E ds d hr ⟨c, j, e, hj, e2⟩ => ?_
  subst e e2
  have j4 : j < 4 := by omega
  refine svs_cons (sv_set (i := 1) (d := .str (kindS j)) sc_law_truth.nd rfl (Or.inl rfl) (ev_ixL (ev_lst (av_cons ev_str (av_cons ev_str (av_cons ev_str (av_cons ev_str av_nil)))) (by walk_at "sz")) (ev_bin (ev_var 0 (by rfl) (pv 0)) ev_int (by walk_at "od")) (atI_of (by omega) ?_))) ?_
  · rw [hj]
    rcases kinds4 j4 with rfl | rfl | rfl | rfl <;> rfl
  refine svs_cons (sv_set (i := 2) (d := .int (sT j c)) sc_law_truth.nd rfl (Or.inl rfl) ?_) ?_
  · rcases kinds4 j4 with rfl | rfl | rfl | rfl <;> exact ev_eq (ev_bin (ev_bin (ev_bin (ev_var 0 (by rfl) (pv 0)) ev_int (by walk_at "od")) ev_int (by walk_at "od")) (ev_callTy2 "int" (av_cons (ev_cmp (ev_var 1 (by rfl) (pv 1)) ev_str (by walk_at "od") (nomark _)) av_nil) (by walk_at "cd") rfl T.b_int (by decide +kernel)) (by walk_at "od")) rfl
  refine svs_cons (sv_set (i := 3) (d := .int (tT j c)) sc_law_truth.nd rfl (Or.inl rfl) ?_) ?_
  · rcases kinds4 j4 with rfl | rfl | rfl | rfl <;> exact ev_eq (ev_bin (ev_bin (ev_bin (ev_var 0 (by rfl) (pv 0)) ev_int (by walk_at "od")) ev_int (by walk_at "od")) (ev_callTy2 "int" (av_cons (ev_cmp (ev_var 1 (by rfl) (pv 1)) (ev_lst (av_cons ev_str (av_cons ev_str av_nil)) (by walk_at "sz")) (by walk_at "od") (by with_unfolding_all rfl)) av_nil) (by walk_at "cd") rfl T.b_int (by decide +kernel)) (by walk_at "od")) rfl
  exact svs_ret (sv_ret (ev_eq (ev_tup (av_cons (ev_cmp (ev_bin (ev_bin (ev_var 0 (by rfl) (pv 0)) ev_int (by walk_at "od")) ev_int (by walk_at "od")) ev_int (by walk_at "od") (nomark _)) (av_cons (ev_var 1 (by rfl) (pv 1)) (av_cons (ev_var 2 (by rfl) (pv 2)) (av_cons (ev_var 3 (by rfl) (pv 3)) av_nil)))) (by walk_at "sz")) rfl))
def TruthOk (d : PyData) : Prop := ∃ yes j s t, j < 4 ∧ (0 ≤ s ∧ s < 12) ∧ (0 ≤ t ∧ t < 12) ∧ (j = 0 → s = 0) ∧ (j < 2 → t = 0) ∧ d = truD yes j s t
def tOf (c : Int) : PyData := truD (c / 4 % 2 == 1) (c % 4).toNat (sT (c % 4).toNat c) (tT (c % 4).toNat c)
theorem tOf_ok (c : Int) : TruthOk (tOf c) := by
  refine ⟨_, _, _, _, (show (c % 4).toNat < 4 by omega), sT_range _ _, tT_range _ _, fun h => ?_, fun h => ?_, rfl⟩
  · unfold sT; rw [if_pos h]; omega
  · unfold tT; rw [if_pos h]; omega
theorem tOf_F (c : Int) : F_truth [.int c] (tOf c) := ⟨c, (c % 4).toNat, rfl, by omega, rfl⟩
def WayOk (d : PyData) : Prop := ∃ done bs t1 t2 pl, 0 ≤ done ∧ done < 100 ∧ bs.length = 4 ∧ (∀ b ∈ bs, RecOk b) ∧ TruthOk t1 ∧ TruthOk t2 ∧ RecOk pl ∧ d = .tuple [.int done, .tuple bs, .tuple [t1, t2], pl]
def cIt (c : Int) : Nat → Int
  | 0 => c
  | k + 1 => cIt c k / 97
def boxOf (c : Int) (j : Nat) : PyData := recOf (cIt c j + 48271 * (0 + (j : Int)) * (0 + (j : Int)))
def wayOf (c : Int) : PyData := .tuple [.int (cIt c 4 % 100), .tuple ((List.range 4).map (boxOf c)), .tuple [tOf (cIt c 4 / 7), tOf (cIt c 4 / 1009)], recOf (cIt c 4 / 3)]
theorem wayOf_ok (c : Int) : WayOk (wayOf c) := by
  refine ⟨_, _, _, _, _, (show 0 ≤ cIt c 4 % 100 by omega), by omega, by rw [List.length_map, List.length_range], fun b hb => ?_, tOf_ok _, tOf_ok _, recOf_ok _, rfl⟩
  obtain ⟨j, _, rfl⟩ := List.mem_map.mp hb
  exact recOf_ok _
def F_way (ds : List PyData) (d : PyData) : Prop := ∃ c, ds = [.int c] ∧ d = wayOf c
theorem d_law_way (T : Txt K mg w.params) {f : Addr} {fd : FuncData} (D_law_recipe : DFn P w K mg base 1 "_law_recipe" F_rec) (D_law_truth : DFn P w K mg base 1 "_law_truth" F_truth) (F : Fun K "_law_way" "_law_way" s_law_way f fd) (hm : mg "_law_way" = some (.ref f)) : DFn P w K mg base 2 "_law_way" F_way := by
  refine F.data hm (F.binds fun _ _ _ _ _ _ us hl => match us, hl with | [_], _ => rfl) sc_law_way (fun ds d ⟨c, e, _⟩ => by rw [e]; rfl) fun cdv A outer s H E ds d hr ⟨c, e, e2⟩ => ?_
  subst e e2
  refine svs_own (i := 1) sc_law_way.nd rfl (Or.inl rfl) (by show 1 < 3; decide) fun H0 p => ?_
  refine hrs_cons (Mid := fun G ds => ∃ kk, G = [some (.int (cIt c 4)), none, kk] ∧ ds = (List.range 4).map (boxOf c)) ?_ (hrs_out ?_)
  · refine ht_forR (j := 2) (lo := 0) (n := (4 : Int).toNat) (fun k G ds => ∃ kk, G = [some (.int (cIt c k)), none, kk] ∧ ds = (List.range k).map (boxOf c)) PassesOwn.never rfl (by decide) (pg_name (i := 2) sc_law_way.nd rfl (Or.inl rfl)) ?_ ?_ fun G ds h => h
    · rintro G ds ⟨rfl, rfl⟩
      exact ⟨⟨none, rfl, rfl⟩, pi_r1 ev_int (by decide) (by decide) rfl T.b_range⟩
    · intro k hk
      have hk4 : k < 4 := hk
      refine hts_cons (Mid := fun G ds => ∃ kk, G = [some (.int (cIt c k)), none, kk] ∧ ds = (List.range (k + 1)).map (boxOf c)) (ht_append ?_ (pv 1)) (hts_cons (ht_set (j := 0) sc_law_way.nd rfl (by decide) (Or.inl rfl) ?_) (hts_nil fun _ _ h => h))
      · rintro G ds ⟨G', ⟨kk, rfl, rfl⟩, rfl⟩
        refine ⟨boxOf c k, ev_call D_law_recipe (by walk_at "rm") rfl (av_cons (ev_bin (ev_var 0 (by rfl) (pv 0)) (ev_bin (ev_bin ev_int (ev_var 2 (by rfl) (pv 2)) (by walk_at "od")) (ev_var 2 (by rfl) (pv 2)) (by walk_at "od")) (by walk_at "od")) av_nil) ⟨_, rfl, rfl⟩, noL_recOf _, by rw [List.length_map, List.length_range, sizeLine_eq]; omega, _, rfl, ?_⟩
        rw [List.range_succ, List.map_append]
        rfl
      · rintro G ds ⟨kk, rfl, h⟩
        exact ⟨_, (ev_bin (ev_var 0 (by rfl) (pv 0)) ev_int (by walk_at "od")), rfl, _, rfl, h⟩
  · rintro G ds ⟨kk, rfl, rfl⟩
    refine svs_ret (sv_ret (ev_tup (av_cons (ev_bin (ev_var 0 (by rfl) (pv 0)) ev_int (by walk_at "od")) (av_cons (ev_callTy2 "tuple" (av_cons (ev_var 1 (by rfl) (pv 1)) av_nil) (by walk_at "cd") rfl T.b_tuple (by decide +kernel)) (av_cons (ev_tup (av_cons (ev_call D_law_truth (by walk_at "rm") rfl (av_cons (ev_bin (ev_var 0 (by rfl) (pv 0)) ev_int (by walk_at "od")) av_nil) (tOf_F _)) (av_cons (ev_call D_law_truth (by walk_at "rm") rfl (av_cons (ev_bin (ev_var 0 (by rfl) (pv 0)) ev_int (by walk_at "od")) av_nil) (tOf_F _)) av_nil)) (by walk_at "sz")) (av_cons (ev_call D_law_recipe (by walk_at "rm") rfl (av_cons (ev_bin (ev_var 0 (by rfl) (pv 0)) ev_int (by walk_at "od")) av_nil) ⟨_, rfl, rfl⟩) av_nil)))) (by walk_at "sz")))
end
section
variable {P : Program} {w : World} {K : PySem.W.Frag} {mg : Str → Option Value} {base : Heap}
def menuL : List Str := ["set", "copy", "cut", "add", "sub", "mul", "and", "xor", "addn", "load", "store", "out", "test"]
theorem menu_get {c : Int} {j : Nat} (h : c % 13 = (j : Int)) : menuL[(c % 13).toNat]? = some (menuL.getD j "test") := by
  have hj : j < menuL.length := by show j < 13; omega
  rw [h, Int.toNat_natCast, List.getD_eq_getElem?_getD, List.getElem?_eq_getElem hj]
  rfl
def m6 (z : Int) : Int := [6, 12].getD z.toNat 0
theorem m6_pos {z : Int} (h0 : 0 ≤ z) (h1 : z < 2) : m6 z = 6 ∨ m6 z = 12 := by
  have h : z = 0 ∨ z = 1 := by omega
  rcases h with rfl | rfl
  · exact .inl rfl
  · exact .inr rfl
def nOf (c : Int) : Int := [c / 5 % 16, c / 5 % 4096, 0, 4095, 1].getD (c % 5).toNat 0
theorem nOf_range (c : Int) : 0 ≤ nOf c ∧ nOf c < 4096 := by
  unfold nOf
  have h : c % 5 = 0 ∨ c % 5 = 1 ∨ c % 5 = 2 ∨ c % 5 = 3 ∨ c % 5 = 4 := by omega
  rcases h with h | h | h | h | h <;> rw [h]
  · show 0 ≤ c / 5 % 16 ∧ c / 5 % 16 < 4096
    omega
  · show 0 ≤ c / 5 % 4096 ∧ c / 5 % 4096 < 4096
    omega
  · exact (by decide : (0 : Int) ≤ 0 ∧ (0 : Int) < 4096)
  · exact (by decide : (0 : Int) ≤ 4095 ∧ (4095 : Int) < 4096)
  · exact (by decide : (0 : Int) ≤ 1 ∧ (1 : Int) < 4096)
def tj (z : Int) : Nat := if z = 0 then 2 else if z = 1 then 3 else 1
def rowJ (j : Nat) (r s t n c : Int) : PyData := match j with
  | 0 => .tuple [.str "set", .int r, .int n]
  | 1 => .tuple [.str "copy", .int r, .int s]
  | 2 => .tuple [.str "cut", .int r, .int s]
  | 3 => .tuple [.str "add", .int r, .int s, .int t]
  | 4 => .tuple [.str "sub", .int r, .int s, .int t]
  | 5 => .tuple [.str "mul", .int r, .int s, .int t]
  | 6 => .tuple [.str "and", .int r, .int s, .int t]
  | 7 => .tuple [.str "xor", .int r, .int s, .int t]
  | 8 => .tuple [.str "addn", .int r, .int s, .int n]
  | 9 => .tuple [.str "load", .int r, .int s, .int (c / 5 % 16)]
  | 10 => .tuple [.str "store", .int s, .int (c / 5 % 16), .int t]
  | 11 => .tuple [.str "out", .int s]
  | _ => .tuple [.str "test", .str (kindS (tj (c % 3))), .int s, .int (if c % 3 = 2 then 0 else t), .bool (c / 3 % 2 == 1), wayOf (c / 6)]
def rr (c : Int) : Int := c / 100 % 12
def ss (c : Int) : Int := c / 100 / 12 % m6 (c / 100 / 144 % 2)
def tt (c : Int) : Int := c / 100 / 288 % m6 (c / 100 / 3456 % 2)
def rowOf (c : Int) : PyData := rowJ (c % 13).toNat (rr c) (ss c) (tt c) (nOf (c / 100 / 6912)) (c / 100 / 6912)
theorem ss_range (c : Int) : 0 ≤ ss c ∧ ss c < 12 := by
  unfold ss
  rcases m6_pos (z := c / 100 / 144 % 2) (by omega) (by omega) with h | h <;> rw [h] <;> omega
theorem tt_range (c : Int) : 0 ≤ tt c ∧ tt c < 12 := by
  unfold tt
  rcases m6_pos (z := c / 100 / 3456 % 2) (by omega) (by omega) with h | h <;> rw [h] <;> omega
def F_row (ds : List PyData) (d : PyData) : Prop := ∃ c, ds = [.int c, .list (menuL.map PyData.str)] ∧ d = rowOf c
set_option maxHeartbeats 8000000 in
theorem d_law_row (T : Txt K mg w.params) {f : Addr} {fd : FuncData} (D_law_way : DFn P w K mg base 2 "_law_way" F_way) (F : Fun K "_law_row" "_law_row" s_law_row f fd) (hm : mg "_law_row" = some (.ref f)) : DFn P w K mg base 3 "_law_row" F_row := by
  refine F.data hm (F.binds fun _ _ _ _ _ _ us hl => match us, hl with | [_, _], _ => rfl) sc_law_row (fun ds d ⟨c, e, _⟩ => by rw [e]; rfl) fun cdv A outer s H E ds d hr ⟨c, e, e2⟩ => ?_
  subst e e2
  obtain ⟨j, hj⟩ : ∃ j : Nat, c % 13 = (j : Int) := ⟨(c % 13).toNat, by omega⟩
  have hj13 : j < 13 := by omega
  have hlen : ((List.map PyData.str menuL).length : Int) = 13 := rfl
  have hmg := menu_get hj
  refine svs_cons (sv_set (i := 2) (d := .str (menuL.getD j "test")) sc_law_row.nd rfl (Or.inl rfl) (ev_ixL (ev_var 1 (by rfl) (pv 1)) (ev_eq (ev_bin (ev_var 0 (by rfl) (pv 0)) (ev_callB2 "len" (av_cons (ev_var 1 (by rfl) (pv 1)) av_nil) (by walk_at "cd") rfl T.b_len (by decide +kernel)) (od_mod (by rw [hlen]; decide))) (show _ = PyData.int (c % 13) by rw [hlen])) (atI_of (by omega) (by rw [List.getElem?_map, hmg]; rfl)))) ?_
  refine svs_cons (sv_set (i := 0) (d := .int (c / 100)) sc_law_row.nd rfl (Or.inl rfl) (ev_eq (ev_bin (ev_var 0 (by rfl) (pv 0)) ev_int (by walk_at "od")) rfl)) ?_
  refine svs_cons (sv_set (i := 3) (d := .int (rr c)) sc_law_row.nd rfl (Or.inl rfl) (ev_eq (ev_bin (ev_var 0 (by rfl) (pv 0)) ev_int (by walk_at "od")) rfl)) ?_
  have p1 : 0 < m6 (c / 100 / 144 % 2) := by rcases m6_pos (z := c / 100 / 144 % 2) (by omega) (by omega) with h | h <;> omega
  have p2 : 0 < m6 (c / 100 / 3456 % 2) := by rcases m6_pos (z := c / 100 / 3456 % 2) (by omega) (by omega) with h | h <;> omega
  refine svs_cons (sv_set (i := 4) (d := .int (ss c)) sc_law_row.nd rfl (Or.inl rfl) (ev_bin (ev_bin (ev_var 0 (by rfl) (pv 0)) ev_int (by walk_at "od")) (ev_ixL (ev_lst (av_cons ev_int (av_cons ev_int av_nil)) (by walk_at "sz")) (ev_bin (ev_bin (ev_var 0 (by rfl) (pv 0)) ev_int (by walk_at "od")) ev_int (by walk_at "od")) (at_ints (zs := [6, 12]) (by omega) (show c / 100 / 144 % 2 < (2 : Int) by omega))) (od_mod p1))) ?_
  refine svs_cons (sv_set (i := 5) (d := .int (tt c)) sc_law_row.nd rfl (Or.inl rfl) (ev_bin (ev_bin (ev_var 0 (by rfl) (pv 0)) ev_int (by walk_at "od")) (ev_ixL (ev_lst (av_cons ev_int (av_cons ev_int av_nil)) (by walk_at "sz")) (ev_bin (ev_bin (ev_var 0 (by rfl) (pv 0)) ev_int (by walk_at "od")) ev_int (by walk_at "od")) (at_ints (zs := [6, 12]) (by omega) (show c / 100 / 3456 % 2 < (2 : Int) by omega))) (od_mod p2))) ?_
  refine svs_cons (sv_set (i := 0) (d := .int (c / 100 / 6912)) sc_law_row.nd rfl (Or.inl rfl) (ev_eq (ev_bin (ev_var 0 (by rfl) (pv 0)) ev_int (by walk_at "od")) rfl)) ?_
  unfold rowOf
  rw [hj, Int.toNat_natCast]
  generalize ss c = s0
  generalize tt c = t0
  generalize rr c = r0
  generalize c / 100 / 6912 = c2
  refine svs_cons (sv_set (i := 6) (d := .int (nOf c2)) sc_law_row.nd rfl (Or.inl rfl) (ev_ixL (ev_lst (av_cons (ev_bin (ev_bin (ev_var 0 (by rfl) (pv 0)) ev_int (by walk_at "od")) ev_int (by walk_at "od")) (av_cons (ev_bin (ev_bin (ev_var 0 (by rfl) (pv 0)) ev_int (by walk_at "od")) ev_int (by walk_at "od")) (av_cons ev_int (av_cons ev_int (av_cons ev_int av_nil))))) (by walk_at "sz")) (ev_bin (ev_var 0 (by rfl) (pv 0)) ev_int (by walk_at "od")) (at_ints (zs := [c2 / 5 % 16, c2 / 5 % 4096, 0, 4095, 1]) (by omega) (show c2 % 5 < (5 : Int) by omega)))) ?_
  generalize nOf c2 = n0
  have hc : j = 0 ∨ j = 1 ∨ j = 2 ∨ j = 3 ∨ j = 4 ∨ j = 5 ∨ j = 6 ∨ j = 7 ∨ j = 8 ∨ j = 9 ∨ j = 10 ∨ j = 11 ∨ j = 12 := by omega
  rcases hc with rfl | rfl | rfl | rfl | rfl | rfl | rfl | rfl | rfl | rfl | rfl | rfl | rfl
  · exact svs_ret (sv_if (k := true) (tv_eq (tv_cmp (ev_var 2 (by rfl) (pv 2)) ev_str (by walk_at "od") (nomark _)) (by decide +kernel)) (fun _ => svs_ret (sv_ret (ev_eq (ev_tup (av_cons (ev_var 2 (by rfl) (pv 2)) (av_cons (ev_var 3 (by rfl) (pv 3)) (av_cons (ev_var 6 (by rfl) (pv 6)) av_nil))) (by walk_at "sz")) rfl))) (fun h => by cases h))
  · refine svs_cons (sv_if (k := false) (tv_eq (tv_cmp (ev_var 2 (by rfl) (pv 2)) ev_str (by walk_at "od") (nomark _)) (by decide +kernel)) (fun h => by cases h) (fun _ => svs_nil)) ?_
    exact svs_ret (sv_if (k := true) (tv_eq (tv_cmp (ev_var 2 (by rfl) (pv 2)) (ev_lst (av_cons ev_str (av_cons ev_str av_nil)) (by walk_at "sz")) (by walk_at "od") (by with_unfolding_all rfl)) (by decide +kernel)) (fun _ => svs_ret (sv_ret (ev_eq (ev_tup (av_cons (ev_var 2 (by rfl) (pv 2)) (av_cons (ev_var 3 (by rfl) (pv 3)) (av_cons (ev_var 4 (by rfl) (pv 4)) av_nil))) (by walk_at "sz")) rfl))) (fun h => by cases h))
  · refine svs_cons (sv_if (k := false) (tv_eq (tv_cmp (ev_var 2 (by rfl) (pv 2)) ev_str (by walk_at "od") (nomark _)) (by decide +kernel)) (fun h => by cases h) (fun _ => svs_nil)) ?_
    exact svs_ret (sv_if (k := true) (tv_eq (tv_cmp (ev_var 2 (by rfl) (pv 2)) (ev_lst (av_cons ev_str (av_cons ev_str av_nil)) (by walk_at "sz")) (by walk_at "od") (by with_unfolding_all rfl)) (by decide +kernel)) (fun _ => svs_ret (sv_ret (ev_eq (ev_tup (av_cons (ev_var 2 (by rfl) (pv 2)) (av_cons (ev_var 3 (by rfl) (pv 3)) (av_cons (ev_var 4 (by rfl) (pv 4)) av_nil))) (by walk_at "sz")) rfl))) (fun h => by cases h))
  · refine svs_cons (sv_if (k := false) (tv_eq (tv_cmp (ev_var 2 (by rfl) (pv 2)) ev_str (by walk_at "od") (nomark _)) (by decide +kernel)) (fun h => by cases h) (fun _ => svs_nil)) ?_
    refine svs_cons (sv_if (k := false) (tv_eq (tv_cmp (ev_var 2 (by rfl) (pv 2)) (ev_lst (av_cons ev_str (av_cons ev_str av_nil)) (by walk_at "sz")) (by walk_at "od") (by with_unfolding_all rfl)) (by decide +kernel)) (fun h => by cases h) (fun _ => svs_nil)) ?_
    refine svs_cons (sv_if (k := false) (tv_eq (tv_cmp (ev_var 2 (by rfl) (pv 2)) (ev_lst (av_cons ev_str (av_cons ev_str av_nil)) (by walk_at "sz")) (by walk_at "od") (by with_unfolding_all rfl)) (by decide +kernel)) (fun h => by cases h) (fun _ => svs_nil)) ?_
    refine svs_cons (sv_if (k := false) (tv_eq (tv_cmp (ev_var 2 (by rfl) (pv 2)) ev_str (by walk_at "od") (nomark _)) (by decide +kernel)) (fun h => by cases h) (fun _ => svs_nil)) ?_
    refine svs_cons (sv_if (k := false) (tv_eq (tv_cmp (ev_var 2 (by rfl) (pv 2)) ev_str (by walk_at "od") (nomark _)) (by decide +kernel)) (fun h => by cases h) (fun _ => svs_nil)) ?_
    refine svs_cons (sv_if (k := false) (tv_eq (tv_cmp (ev_var 2 (by rfl) (pv 2)) ev_str (by walk_at "od") (nomark _)) (by decide +kernel)) (fun h => by cases h) (fun _ => svs_nil)) ?_
    exact svs_ret (sv_ret (ev_eq (ev_tup (av_cons (ev_var 2 (by rfl) (pv 2)) (av_cons (ev_var 3 (by rfl) (pv 3)) (av_cons (ev_var 4 (by rfl) (pv 4)) (av_cons (ev_var 5 (by rfl) (pv 5)) av_nil)))) (by walk_at "sz")) rfl))
  · refine svs_cons (sv_if (k := false) (tv_eq (tv_cmp (ev_var 2 (by rfl) (pv 2)) ev_str (by walk_at "od") (nomark _)) (by decide +kernel)) (fun h => by cases h) (fun _ => svs_nil)) ?_
    refine svs_cons (sv_if (k := false) (tv_eq (tv_cmp (ev_var 2 (by rfl) (pv 2)) (ev_lst (av_cons ev_str (av_cons ev_str av_nil)) (by walk_at "sz")) (by walk_at "od") (by with_unfolding_all rfl)) (by decide +kernel)) (fun h => by cases h) (fun _ => svs_nil)) ?_
    refine svs_cons (sv_if (k := false) (tv_eq (tv_cmp (ev_var 2 (by rfl) (pv 2)) (ev_lst (av_cons ev_str (av_cons ev_str av_nil)) (by walk_at "sz")) (by walk_at "od") (by with_unfolding_all rfl)) (by decide +kernel)) (fun h => by cases h) (fun _ => svs_nil)) ?_
    refine svs_cons (sv_if (k := false) (tv_eq (tv_cmp (ev_var 2 (by rfl) (pv 2)) ev_str (by walk_at "od") (nomark _)) (by decide +kernel)) (fun h => by cases h) (fun _ => svs_nil)) ?_
    refine svs_cons (sv_if (k := false) (tv_eq (tv_cmp (ev_var 2 (by rfl) (pv 2)) ev_str (by walk_at "od") (nomark _)) (by decide +kernel)) (fun h => by cases h) (fun _ => svs_nil)) ?_
    refine svs_cons (sv_if (k := false) (tv_eq (tv_cmp (ev_var 2 (by rfl) (pv 2)) ev_str (by walk_at "od") (nomark _)) (by decide +kernel)) (fun h => by cases h) (fun _ => svs_nil)) ?_
    exact svs_ret (sv_ret (ev_eq (ev_tup (av_cons (ev_var 2 (by rfl) (pv 2)) (av_cons (ev_var 3 (by rfl) (pv 3)) (av_cons (ev_var 4 (by rfl) (pv 4)) (av_cons (ev_var 5 (by rfl) (pv 5)) av_nil)))) (by walk_at "sz")) rfl))
  · refine svs_cons (sv_if (k := false) (tv_eq (tv_cmp (ev_var 2 (by rfl) (pv 2)) ev_str (by walk_at "od") (nomark _)) (by decide +kernel)) (fun h => by cases h) (fun _ => svs_nil)) ?_
    refine svs_cons (sv_if (k := false) (tv_eq (tv_cmp (ev_var 2 (by rfl) (pv 2)) (ev_lst (av_cons ev_str (av_cons ev_str av_nil)) (by walk_at "sz")) (by walk_at "od") (by with_unfolding_all rfl)) (by decide +kernel)) (fun h => by cases h) (fun _ => svs_nil)) ?_
    refine svs_cons (sv_if (k := false) (tv_eq (tv_cmp (ev_var 2 (by rfl) (pv 2)) (ev_lst (av_cons ev_str (av_cons ev_str av_nil)) (by walk_at "sz")) (by walk_at "od") (by with_unfolding_all rfl)) (by decide +kernel)) (fun h => by cases h) (fun _ => svs_nil)) ?_
    refine svs_cons (sv_if (k := false) (tv_eq (tv_cmp (ev_var 2 (by rfl) (pv 2)) ev_str (by walk_at "od") (nomark _)) (by decide +kernel)) (fun h => by cases h) (fun _ => svs_nil)) ?_
    refine svs_cons (sv_if (k := false) (tv_eq (tv_cmp (ev_var 2 (by rfl) (pv 2)) ev_str (by walk_at "od") (nomark _)) (by decide +kernel)) (fun h => by cases h) (fun _ => svs_nil)) ?_
    refine svs_cons (sv_if (k := false) (tv_eq (tv_cmp (ev_var 2 (by rfl) (pv 2)) ev_str (by walk_at "od") (nomark _)) (by decide +kernel)) (fun h => by cases h) (fun _ => svs_nil)) ?_
    exact svs_ret (sv_ret (ev_eq (ev_tup (av_cons (ev_var 2 (by rfl) (pv 2)) (av_cons (ev_var 3 (by rfl) (pv 3)) (av_cons (ev_var 4 (by rfl) (pv 4)) (av_cons (ev_var 5 (by rfl) (pv 5)) av_nil)))) (by walk_at "sz")) rfl))
  · refine svs_cons (sv_if (k := false) (tv_eq (tv_cmp (ev_var 2 (by rfl) (pv 2)) ev_str (by walk_at "od") (nomark _)) (by decide +kernel)) (fun h => by cases h) (fun _ => svs_nil)) ?_
    refine svs_cons (sv_if (k := false) (tv_eq (tv_cmp (ev_var 2 (by rfl) (pv 2)) (ev_lst (av_cons ev_str (av_cons ev_str av_nil)) (by walk_at "sz")) (by walk_at "od") (by with_unfolding_all rfl)) (by decide +kernel)) (fun h => by cases h) (fun _ => svs_nil)) ?_
    refine svs_cons (sv_if (k := false) (tv_eq (tv_cmp (ev_var 2 (by rfl) (pv 2)) (ev_lst (av_cons ev_str (av_cons ev_str av_nil)) (by walk_at "sz")) (by walk_at "od") (by with_unfolding_all rfl)) (by decide +kernel)) (fun h => by cases h) (fun _ => svs_nil)) ?_
    refine svs_cons (sv_if (k := false) (tv_eq (tv_cmp (ev_var 2 (by rfl) (pv 2)) ev_str (by walk_at "od") (nomark _)) (by decide +kernel)) (fun h => by cases h) (fun _ => svs_nil)) ?_
    refine svs_cons (sv_if (k := false) (tv_eq (tv_cmp (ev_var 2 (by rfl) (pv 2)) ev_str (by walk_at "od") (nomark _)) (by decide +kernel)) (fun h => by cases h) (fun _ => svs_nil)) ?_
    refine svs_cons (sv_if (k := false) (tv_eq (tv_cmp (ev_var 2 (by rfl) (pv 2)) ev_str (by walk_at "od") (nomark _)) (by decide +kernel)) (fun h => by cases h) (fun _ => svs_nil)) ?_
    exact svs_ret (sv_ret (ev_eq (ev_tup (av_cons (ev_var 2 (by rfl) (pv 2)) (av_cons (ev_var 3 (by rfl) (pv 3)) (av_cons (ev_var 4 (by rfl) (pv 4)) (av_cons (ev_var 5 (by rfl) (pv 5)) av_nil)))) (by walk_at "sz")) rfl))
  · refine svs_cons (sv_if (k := false) (tv_eq (tv_cmp (ev_var 2 (by rfl) (pv 2)) ev_str (by walk_at "od") (nomark _)) (by decide +kernel)) (fun h => by cases h) (fun _ => svs_nil)) ?_
    refine svs_cons (sv_if (k := false) (tv_eq (tv_cmp (ev_var 2 (by rfl) (pv 2)) (ev_lst (av_cons ev_str (av_cons ev_str av_nil)) (by walk_at "sz")) (by walk_at "od") (by with_unfolding_all rfl)) (by decide +kernel)) (fun h => by cases h) (fun _ => svs_nil)) ?_
    refine svs_cons (sv_if (k := false) (tv_eq (tv_cmp (ev_var 2 (by rfl) (pv 2)) (ev_lst (av_cons ev_str (av_cons ev_str av_nil)) (by walk_at "sz")) (by walk_at "od") (by with_unfolding_all rfl)) (by decide +kernel)) (fun h => by cases h) (fun _ => svs_nil)) ?_
    refine svs_cons (sv_if (k := false) (tv_eq (tv_cmp (ev_var 2 (by rfl) (pv 2)) ev_str (by walk_at "od") (nomark _)) (by decide +kernel)) (fun h => by cases h) (fun _ => svs_nil)) ?_
    refine svs_cons (sv_if (k := false) (tv_eq (tv_cmp (ev_var 2 (by rfl) (pv 2)) ev_str (by walk_at "od") (nomark _)) (by decide +kernel)) (fun h => by cases h) (fun _ => svs_nil)) ?_
    refine svs_cons (sv_if (k := false) (tv_eq (tv_cmp (ev_var 2 (by rfl) (pv 2)) ev_str (by walk_at "od") (nomark _)) (by decide +kernel)) (fun h => by cases h) (fun _ => svs_nil)) ?_
    exact svs_ret (sv_ret (ev_eq (ev_tup (av_cons (ev_var 2 (by rfl) (pv 2)) (av_cons (ev_var 3 (by rfl) (pv 3)) (av_cons (ev_var 4 (by rfl) (pv 4)) (av_cons (ev_var 5 (by rfl) (pv 5)) av_nil)))) (by walk_at "sz")) rfl))
  · refine svs_cons (sv_if (k := false) (tv_eq (tv_cmp (ev_var 2 (by rfl) (pv 2)) ev_str (by walk_at "od") (nomark _)) (by decide +kernel)) (fun h => by cases h) (fun _ => svs_nil)) ?_
    refine svs_cons (sv_if (k := false) (tv_eq (tv_cmp (ev_var 2 (by rfl) (pv 2)) (ev_lst (av_cons ev_str (av_cons ev_str av_nil)) (by walk_at "sz")) (by walk_at "od") (by with_unfolding_all rfl)) (by decide +kernel)) (fun h => by cases h) (fun _ => svs_nil)) ?_
    exact svs_ret (sv_if (k := true) (tv_eq (tv_cmp (ev_var 2 (by rfl) (pv 2)) (ev_lst (av_cons ev_str (av_cons ev_str av_nil)) (by walk_at "sz")) (by walk_at "od") (by with_unfolding_all rfl)) (by decide +kernel)) (fun _ => svs_ret (sv_ret (ev_eq (ev_tup (av_cons (ev_var 2 (by rfl) (pv 2)) (av_cons (ev_var 3 (by rfl) (pv 3)) (av_cons (ev_var 4 (by rfl) (pv 4)) (av_cons (ev_ixL (ev_lst (av_cons (ev_var 6 (by rfl) (pv 6)) (av_cons (ev_bin (ev_bin (ev_var 0 (by rfl) (pv 0)) ev_int (by walk_at "od")) ev_int (by walk_at "od")) av_nil)) (by walk_at "sz")) (ev_eq (d' := .int 0) (ev_callTy2 "int" (av_cons (ev_cmp (ev_var 2 (by rfl) (pv 2)) ev_str (by walk_at "od") (nomark _)) av_nil) (by walk_at "cd") rfl T.b_int (by decide +kernel)) (congrArg PyData.int (by decide +kernel))) (atI_of (by decide) rfl)) av_nil)))) (by walk_at "sz")) rfl))) (fun h => by cases h))
  · refine svs_cons (sv_if (k := false) (tv_eq (tv_cmp (ev_var 2 (by rfl) (pv 2)) ev_str (by walk_at "od") (nomark _)) (by decide +kernel)) (fun h => by cases h) (fun _ => svs_nil)) ?_
    refine svs_cons (sv_if (k := false) (tv_eq (tv_cmp (ev_var 2 (by rfl) (pv 2)) (ev_lst (av_cons ev_str (av_cons ev_str av_nil)) (by walk_at "sz")) (by walk_at "od") (by with_unfolding_all rfl)) (by decide +kernel)) (fun h => by cases h) (fun _ => svs_nil)) ?_
    exact svs_ret (sv_if (k := true) (tv_eq (tv_cmp (ev_var 2 (by rfl) (pv 2)) (ev_lst (av_cons ev_str (av_cons ev_str av_nil)) (by walk_at "sz")) (by walk_at "od") (by with_unfolding_all rfl)) (by decide +kernel)) (fun _ => svs_ret (sv_ret (ev_eq (ev_tup (av_cons (ev_var 2 (by rfl) (pv 2)) (av_cons (ev_var 3 (by rfl) (pv 3)) (av_cons (ev_var 4 (by rfl) (pv 4)) (av_cons (ev_ixL (ev_lst (av_cons (ev_var 6 (by rfl) (pv 6)) (av_cons (ev_bin (ev_bin (ev_var 0 (by rfl) (pv 0)) ev_int (by walk_at "od")) ev_int (by walk_at "od")) av_nil)) (by walk_at "sz")) (ev_eq (d' := .int 1) (ev_callTy2 "int" (av_cons (ev_cmp (ev_var 2 (by rfl) (pv 2)) ev_str (by walk_at "od") (nomark _)) av_nil) (by walk_at "cd") rfl T.b_int (by decide +kernel)) (congrArg PyData.int (by decide +kernel))) (atI_of (by decide) rfl)) av_nil)))) (by walk_at "sz")) rfl))) (fun h => by cases h))
  · refine svs_cons (sv_if (k := false) (tv_eq (tv_cmp (ev_var 2 (by rfl) (pv 2)) ev_str (by walk_at "od") (nomark _)) (by decide +kernel)) (fun h => by cases h) (fun _ => svs_nil)) ?_
    refine svs_cons (sv_if (k := false) (tv_eq (tv_cmp (ev_var 2 (by rfl) (pv 2)) (ev_lst (av_cons ev_str (av_cons ev_str av_nil)) (by walk_at "sz")) (by walk_at "od") (by with_unfolding_all rfl)) (by decide +kernel)) (fun h => by cases h) (fun _ => svs_nil)) ?_
    refine svs_cons (sv_if (k := false) (tv_eq (tv_cmp (ev_var 2 (by rfl) (pv 2)) (ev_lst (av_cons ev_str (av_cons ev_str av_nil)) (by walk_at "sz")) (by walk_at "od") (by with_unfolding_all rfl)) (by decide +kernel)) (fun h => by cases h) (fun _ => svs_nil)) ?_
    exact svs_ret (sv_if (k := true) (tv_eq (tv_cmp (ev_var 2 (by rfl) (pv 2)) ev_str (by walk_at "od") (nomark _)) (by decide +kernel)) (fun _ => svs_ret (sv_ret (ev_eq (ev_tup (av_cons (ev_var 2 (by rfl) (pv 2)) (av_cons (ev_var 4 (by rfl) (pv 4)) (av_cons (ev_bin (ev_bin (ev_var 0 (by rfl) (pv 0)) ev_int (by walk_at "od")) ev_int (by walk_at "od")) (av_cons (ev_var 5 (by rfl) (pv 5)) av_nil)))) (by walk_at "sz")) rfl))) (fun h => by cases h))
  · refine svs_cons (sv_if (k := false) (tv_eq (tv_cmp (ev_var 2 (by rfl) (pv 2)) ev_str (by walk_at "od") (nomark _)) (by decide +kernel)) (fun h => by cases h) (fun _ => svs_nil)) ?_
    refine svs_cons (sv_if (k := false) (tv_eq (tv_cmp (ev_var 2 (by rfl) (pv 2)) (ev_lst (av_cons ev_str (av_cons ev_str av_nil)) (by walk_at "sz")) (by walk_at "od") (by with_unfolding_all rfl)) (by decide +kernel)) (fun h => by cases h) (fun _ => svs_nil)) ?_
    refine svs_cons (sv_if (k := false) (tv_eq (tv_cmp (ev_var 2 (by rfl) (pv 2)) (ev_lst (av_cons ev_str (av_cons ev_str av_nil)) (by walk_at "sz")) (by walk_at "od") (by with_unfolding_all rfl)) (by decide +kernel)) (fun h => by cases h) (fun _ => svs_nil)) ?_
    refine svs_cons (sv_if (k := false) (tv_eq (tv_cmp (ev_var 2 (by rfl) (pv 2)) ev_str (by walk_at "od") (nomark _)) (by decide +kernel)) (fun h => by cases h) (fun _ => svs_nil)) ?_
    exact svs_ret (sv_if (k := true) (tv_eq (tv_cmp (ev_var 2 (by rfl) (pv 2)) ev_str (by walk_at "od") (nomark _)) (by decide +kernel)) (fun _ => svs_ret (sv_ret (ev_eq (ev_tup (av_cons (ev_var 2 (by rfl) (pv 2)) (av_cons (ev_var 4 (by rfl) (pv 4)) av_nil)) (by walk_at "sz")) rfl))) (fun h => by cases h))
  · refine svs_cons (sv_if (k := false) (tv_eq (tv_cmp (ev_var 2 (by rfl) (pv 2)) ev_str (by walk_at "od") (nomark _)) (by decide +kernel)) (fun h => by cases h) (fun _ => svs_nil)) ?_
    refine svs_cons (sv_if (k := false) (tv_eq (tv_cmp (ev_var 2 (by rfl) (pv 2)) (ev_lst (av_cons ev_str (av_cons ev_str av_nil)) (by walk_at "sz")) (by walk_at "od") (by with_unfolding_all rfl)) (by decide +kernel)) (fun h => by cases h) (fun _ => svs_nil)) ?_
    refine svs_cons (sv_if (k := false) (tv_eq (tv_cmp (ev_var 2 (by rfl) (pv 2)) (ev_lst (av_cons ev_str (av_cons ev_str av_nil)) (by walk_at "sz")) (by walk_at "od") (by with_unfolding_all rfl)) (by decide +kernel)) (fun h => by cases h) (fun _ => svs_nil)) ?_
    refine svs_cons (sv_if (k := false) (tv_eq (tv_cmp (ev_var 2 (by rfl) (pv 2)) ev_str (by walk_at "od") (nomark _)) (by decide +kernel)) (fun h => by cases h) (fun _ => svs_nil)) ?_
    refine svs_cons (sv_if (k := false) (tv_eq (tv_cmp (ev_var 2 (by rfl) (pv 2)) ev_str (by walk_at "od") (nomark _)) (by decide +kernel)) (fun h => by cases h) (fun _ => svs_nil)) ?_
    refine svs_ret (sv_if (k := true) (tv_eq (tv_cmp (ev_var 2 (by rfl) (pv 2)) ev_str (by walk_at "od") (nomark _)) (by decide +kernel)) (fun _ => ?_) (fun h => by cases h))
    have h3 : c2 % 3 = 0 ∨ c2 % 3 = 1 ∨ c2 % 3 = 2 := by omega
    rcases h3 with h3 | h3 | h3
    · refine svs_cons (sv_set (i := 7) (d := .str "same") sc_law_row.nd rfl (Or.inl rfl) (ev_ixL (ev_lst (av_cons ev_str (av_cons ev_str (av_cons ev_str av_nil))) (by walk_at "sz")) (ev_bin (ev_var 0 (by rfl) (pv 0)) ev_int (by walk_at "od")) (atI_of (by omega) (by rw [h3]; rfl)))) ?_
      refine svs_ret (sv_ret (ev_eq (ev_tup (av_cons (ev_var 2 (by rfl) (pv 2)) (av_cons (ev_var 7 (by rfl) (pv 7)) (av_cons (ev_var 4 (by rfl) (pv 4)) (av_cons (ev_ixL (ev_lst (av_cons (ev_var 5 (by rfl) (pv 5)) (av_cons ev_int av_nil)) (by walk_at "sz")) (ev_eq (d' := .int 0) (ev_callTy2 "int" (av_cons (ev_cmp (ev_var 7 (by rfl) (pv 7)) ev_str (by walk_at "od") (nomark _)) av_nil) (by walk_at "cd") rfl T.b_int (by decide +kernel)) (congrArg PyData.int (by decide +kernel))) (atI_of (by decide) rfl)) (av_cons (ev_cmp (ev_bin (ev_bin (ev_var 0 (by rfl) (pv 0)) ev_int (by walk_at "od")) ev_int (by walk_at "od")) ev_int (by walk_at "od") (nomark _)) (av_cons (ev_call D_law_way (by walk_at "rm") rfl (av_cons (ev_bin (ev_var 0 (by rfl) (pv 0)) ev_int (by walk_at "od")) av_nil) ⟨_, rfl, rfl⟩) av_nil)))))) (by walk_at "sz")) ?_))
      show _ = PyData.tuple [.str "test", .str (kindS (tj (c2 % 3))), .int s0, .int (if c2 % 3 = 2 then 0 else t0), .bool (c2 / 3 % 2 == 1), wayOf (c2 / 6)]
      rw [h3]
      rfl
    · refine svs_cons (sv_set (i := 7) (d := .str "less") sc_law_row.nd rfl (Or.inl rfl) (ev_ixL (ev_lst (av_cons ev_str (av_cons ev_str (av_cons ev_str av_nil))) (by walk_at "sz")) (ev_bin (ev_var 0 (by rfl) (pv 0)) ev_int (by walk_at "od")) (atI_of (by omega) (by rw [h3]; rfl)))) ?_
      refine svs_ret (sv_ret (ev_eq (ev_tup (av_cons (ev_var 2 (by rfl) (pv 2)) (av_cons (ev_var 7 (by rfl) (pv 7)) (av_cons (ev_var 4 (by rfl) (pv 4)) (av_cons (ev_ixL (ev_lst (av_cons (ev_var 5 (by rfl) (pv 5)) (av_cons ev_int av_nil)) (by walk_at "sz")) (ev_eq (d' := .int 0) (ev_callTy2 "int" (av_cons (ev_cmp (ev_var 7 (by rfl) (pv 7)) ev_str (by walk_at "od") (nomark _)) av_nil) (by walk_at "cd") rfl T.b_int (by decide +kernel)) (congrArg PyData.int (by decide +kernel))) (atI_of (by decide) rfl)) (av_cons (ev_cmp (ev_bin (ev_bin (ev_var 0 (by rfl) (pv 0)) ev_int (by walk_at "od")) ev_int (by walk_at "od")) ev_int (by walk_at "od") (nomark _)) (av_cons (ev_call D_law_way (by walk_at "rm") rfl (av_cons (ev_bin (ev_var 0 (by rfl) (pv 0)) ev_int (by walk_at "od")) av_nil) ⟨_, rfl, rfl⟩) av_nil)))))) (by walk_at "sz")) ?_))
      show _ = PyData.tuple [.str "test", .str (kindS (tj (c2 % 3))), .int s0, .int (if c2 % 3 = 2 then 0 else t0), .bool (c2 / 3 % 2 == 1), wayOf (c2 / 6)]
      rw [h3]
      rfl
    · refine svs_cons (sv_set (i := 7) (d := .str "truth") sc_law_row.nd rfl (Or.inl rfl) (ev_ixL (ev_lst (av_cons ev_str (av_cons ev_str (av_cons ev_str av_nil))) (by walk_at "sz")) (ev_bin (ev_var 0 (by rfl) (pv 0)) ev_int (by walk_at "od")) (atI_of (by omega) (by rw [h3]; rfl)))) ?_
      refine svs_ret (sv_ret (ev_eq (ev_tup (av_cons (ev_var 2 (by rfl) (pv 2)) (av_cons (ev_var 7 (by rfl) (pv 7)) (av_cons (ev_var 4 (by rfl) (pv 4)) (av_cons (ev_ixL (ev_lst (av_cons (ev_var 5 (by rfl) (pv 5)) (av_cons ev_int av_nil)) (by walk_at "sz")) (ev_eq (d' := .int 1) (ev_callTy2 "int" (av_cons (ev_cmp (ev_var 7 (by rfl) (pv 7)) ev_str (by walk_at "od") (nomark _)) av_nil) (by walk_at "cd") rfl T.b_int (by decide +kernel)) (congrArg PyData.int (by decide +kernel))) (atI_of (by decide) rfl)) (av_cons (ev_cmp (ev_bin (ev_bin (ev_var 0 (by rfl) (pv 0)) ev_int (by walk_at "od")) ev_int (by walk_at "od")) ev_int (by walk_at "od") (nomark _)) (av_cons (ev_call D_law_way (by walk_at "rm") rfl (av_cons (ev_bin (ev_var 0 (by rfl) (pv 0)) ev_int (by walk_at "od")) av_nil) ⟨_, rfl, rfl⟩) av_nil)))))) (by walk_at "sz")) ?_))
      show _ = PyData.tuple [.str "test", .str (kindS (tj (c2 % 3))), .int s0, .int (if c2 % 3 = 2 then 0 else t0), .bool (c2 / 3 % 2 == 1), wayOf (c2 / 6)]
      rw [h3]
      rfl
end
section
variable {P : Program} {w : World} {K : PySem.W.Frag} {mg : Str → Option Value} {base : Heap}
def F_is_tuple (ds : List PyData) (d : PyData) : Prop := ∃ l n, ds = [.tuple l, .int n] ∧ d = .bool ((l.length : Int) == n)
theorem d_is_tuple (T : Txt K mg w.params) {f : Addr} {fd : FuncData} (F : Fun K "is_tuple" "is_tuple" s_is_tuple f fd) (hm : mg "is_tuple" = some (.ref f)) : DFn P w K mg base 1 "is_tuple" F_is_tuple := by
  refine F.data hm (F.binds fun _ _ _ _ _ _ us hl => match us, hl with | [_, _], _ => rfl) sc_is_tuple (fun ds d ⟨_, _, e, _⟩ => by rw [e]; rfl) fun cdv A outer s H E ds d hr ⟨l, n, e, e2⟩ => ?_
  subst e e2
  exact svs_ret (sv_ret (ev_and (k := true) (ev_isi (n := "tuple") (ev_var 0 (by rfl) (pv 0)) rfl T.b_isinstance rfl T.b_tuple (by decide +kernel) (by rfl)) (fun _ => ev_one (ev_eq (ev_cmp (ev_callB2 "len" (av_cons (ev_var 0 (by rfl) (pv 0)) av_nil) (by walk_at "cd") rfl T.b_len (by decide +kernel)) (ev_var 1 (by rfl) (pv 1)) (by walk_at "od") (nomark _)) rfl)) (fun h => by cases h)))
theorem below_true {i b : Int} (h0 : 0 ≤ i) (h1 : i < b) : belowB (.int i) b = true := by
  show (decide (0 ≤ i) && decide (i < b)) = true
  rw [decide_eq_true h0, decide_eq_true h1]
  rfl
def aheadP (a : Int) (ps : List (Int × Int)) (i : Nat) : Int := match i with
  | 0 => a
  | i + 1 => (ps.getD i (0, 0)).1
theorem ahead_cons (a : Int) (p : Int × Int) (ps : List (Int × Int)) (i : Nat) : aheadP a (p :: ps) (i + 1) = aheadP p.1 ps i := by
  cases i with
  | zero => rfl
  | succ i => rfl
def pair1B (b : Int) (q : Int × Int) : Bool := !belowB (.int q.1) b || !belowB (.int q.2) 4096
def pair2B (l a : Int) (q : Int × Int) : Bool := decide (q.1 ≤ a) || decide (q.2 < l)
def pairB (b l a : Int) (q : Int × Int) : Bool := !(pair1B b q || pair2B l a q)
def pairsB (b l : Int) : Int → List (Int × Int) → Bool
  | _, [] => true
  | a, q :: r => pairB b l a q && pairsB b l q.1 r
theorem pairsB_all {b l : Int} : ∀ {ps : List (Int × Int)} {a : Int}, (∀ (i : Nat) q, ps[i]? = some q → pairB b l (aheadP a ps i) q = true) → pairsB b l a ps = true
  | [], _, _ => rfl
  | p :: ps, a, z => by
    rw [show pairsB b l a (p :: ps) = (pairB b l a p && pairsB b l p.1 ps) from rfl, show pairB b l a p = true from z 0 p rfl, Bool.true_and]
    refine pairsB_all fun i q h => ?_
    have := z (i + 1) q (by simpa using h)
    rw [ahead_cons] at this
    exact this
theorem pairsB_not {b l : Int} : ∀ {ps : List (Int × Int)} {a : Int}, (∃ (i : Nat) (q : Int × Int), ps[i]? = some q ∧ pairB b l (aheadP a ps i) q = false) → pairsB b l a ps = false
  | [], _, ⟨i, q, h, _⟩ => by simp at h
  | p :: ps, a, ⟨i, q, h, z⟩ => by
    rw [show pairsB b l a (p :: ps) = (pairB b l a p && pairsB b l p.1 ps) from rfl]
    cases i with
    | zero =>
      simp at h
      subst h
      have z : pairB b l a p = false := z
      rw [z]; rfl
    | succ i =>
      rw [ahead_cons] at z
      rw [pairsB_not ⟨i, q, by simpa using h, z⟩, Bool.and_false]
theorem pairB_ok {b l a : Int} {q : Int × Int} (h0 : 0 ≤ q.1) (h1 : q.1 < b) (h2 : 0 ≤ q.2) (h3 : q.2 < 4096) (h4 : a < q.1) (h5 : l ≤ q.2) : pairB b l a q = true := by
  unfold pairB pair1B pair2B
  rw [below_true h0 h1, below_true h2 h3, decide_eq_false (show ¬ q.1 ≤ a by omega), decide_eq_false (show ¬ q.2 < l by omega)]
  rfl
theorem okFrom_B {b l : Int} (hl : 0 ≤ l) : ∀ {ps : List (Int × Int)} {a : Int}, -1 ≤ a → okFrom b l a ps → pairsB b l a ps = true
  | [], _, _, _ => rfl
  | q :: ps, a, ha, ⟨x1, x2, x3, x4, x5⟩ => by
    rw [show pairsB b l a (q :: ps) = (pairB b l a q && pairsB b l q.1 ps) from rfl, pairB_ok (by omega) x2 (by omega) x4 x1 x3, okFrom_B hl (by omega) x5]
    rfl
def F_are_pairs (ds : List PyData) (d : PyData) : Prop := ∃ ps b l, ds = [.tuple (ps.map pairD), .int b, .int l] ∧ d = .bool (pairsB b l (-1) ps)
theorem d_are_pairs (T : Txt K mg w.params) {f : Addr} {fd : FuncData} (D_is_tuple : DFn P w K mg base 1 "is_tuple" F_is_tuple) (D_is_below : DFn P w K mg base 1 "is_below" F_is_below) (D_is_word : DFn P w K mg base 2 "is_word" F_is_word) (F : Fun K "are_pairs" "are_pairs" s_are_pairs f fd) (hm : mg "are_pairs" = some (.ref f)) : DFn P w K mg base 3 "are_pairs" F_are_pairs := by
  refine F.data hm (F.binds fun _ _ _ _ _ _ us hl => match us, hl with | [_, _, _], _ => rfl) sc_are_pairs (fun ds d ⟨_, _, _, e, _⟩ => by rw [e]; rfl) fun cdv A outer s H E ds d hr ⟨ps, b, l, e, e2⟩ => ?_
  subst e e2
  refine svs_cons (sv_set (i := 3) (d := .int (aheadP (-1) ps 0)) sc_are_pairs.nd rfl (Or.inl rfl) (ev_eq (ev_neg ev_int) rfl)) ?_
  refine svs_forB (k := 0) (as := ps) (D := pairD) (g := gName 4) (B := bindAt 4) (d := .bool false) (fun i => [some (.tuple (ps.map pairD)), some (.int b), some (.int l), some (.int (aheadP (-1) ps i)), none]) (fun i q => pairB b l (aheadP (-1) ps i) q) PassesOwn.never rfl (iv_tup (ev_var 0 (by rfl) (pv 0))) (pg_name (i := 4) sc_are_pairs.nd rfl (Or.inl rfl)) (fun _ _ => bindDAt 4 _) ?_ (fun h => ?_) (fun h => by rw [pairsB_not h])
  · intro i q hq
    show SVs _ [some (.tuple (ps.map pairD)), some (.int b), some (.int l), some (.int (aheadP (-1) ps i)), some (pairD q)] _ _
    have en : aheadP (-1) ps (i + 1) = q.1 := by
      show (ps.getD i (0, 0)).1 = q.1
      rw [List.getD_eq_getElem?_getD, hq]
      rfl
    rw [en]
    generalize aheadP (-1) ps i = ah
    refine svs_guard (k := pair1B b q) (tv_w (wv_or (k := false) (k' := pair1B b q) (tv_not (k := true) (tv_val (ev_call D_is_tuple (by walk_at "rm") rfl (av_cons (ev_var 4 (by rfl) (pv 4)) (av_cons ev_int av_nil)) ⟨[.int q.1, .int q.2], 2, rfl, rfl⟩))) (fun _ => wv_or (k := !belowB (.int q.1) b) (k' := !belowB (.int q.2) 4096) (tv_not (tv_val (ev_call D_is_below (by walk_at "rm") rfl (av_cons (ev_ixT (ds := [.int q.1, .int q.2]) (ev_var 4 (by rfl) (pv 4)) ev_int (atI_of (by decide) rfl)) (av_cons (ev_var 1 (by rfl) (pv 1)) av_nil)) ⟨_, _, rfl, rfl⟩))) (fun _ => wv_or1 (tv_not (tv_val (ev_call D_is_word (by walk_at "rm") rfl (av_cons (ev_ixT (ds := [.int q.1, .int q.2]) (ev_var 4 (by rfl) (pv 4)) ev_int (atI_of (by decide) rfl)) av_nil) ⟨_, rfl, rfl⟩))))))) (fun h => ⟨.bool false, by unfold pairB; rw [h]; rfl, svs_ret (sv_ret ev_bl)⟩) fun h1 => ?_
    refine svs_guard (k := pair2B l ah q) (tv_w (wv_or (tv_cmp (ev_ixT (ds := [.int q.1, .int q.2]) (ev_var 4 (by rfl) (pv 4)) ev_int (atI_of (by decide) rfl)) (ev_var 3 (by rfl) (pv 3)) od_le (nomark _)) (fun _ => wv_or1 (tv_cmp (ev_ixT (ds := [.int q.1, .int q.2]) (ev_var 4 (by rfl) (pv 4)) ev_int (atI_of (by decide) rfl)) (ev_var 2 (by rfl) (pv 2)) od_lt (nomark _))))) (fun h => ⟨.bool false, by unfold pairB; rw [h1, h]; rfl, svs_ret (sv_ret ev_bl)⟩) fun h2 => ?_
    rw [if_pos (by unfold pairB; rw [h1, h2]; rfl)]
    refine svs_forget (G1 := [some (.tuple (ps.map pairD)), some (.int b), some (.int l), some (.int q.1), some (pairD q)]) ?_ rfl ?fg
    case fg =>
      intro j d e
      match j, e with
      | 0, e => exact e
      | 1, e => exact e
      | 2, e => exact e
      | 3, e => exact e
      | 4, e => cases e
      | n + 5, e => cases e
    exact svs_cons (sv_set (i := 3) (d := .int q.1) sc_are_pairs.nd rfl (Or.inl rfl) (ev_ixT (ds := [.int q.1, .int q.2]) (ev_var 4 (by rfl) (pv 4)) ev_int (atI_of (by decide) rfl))) svs_nil
  · rw [pairsB_all h]
    exact svs_ret (sv_ret ev_bl)
abbrev Rc := Int × List (Int × Int)
def Rc.D (r : Rc) : PyData := recD r.1 r.2
def rcB (r : Rc) : Bool := belowB (.int r.1) 4096 && pairsB 12 1 (-1) r.2
theorem rc_ok {d : PyData} (h : RecOk d) : ∃ r : Rc, d = r.D ∧ rcB r = true ∧ r.2.length ≤ 12 := by
  obtain ⟨n, ps, n0, n1, hok, hl, rfl⟩ := h
  exact ⟨(n, ps), rfl, by unfold rcB; rw [below_true n0 n1, okFrom_B (by decide) (by decide) hok]; rfl, hl⟩
def F_is_recipe (ds : List PyData) (d : PyData) : Prop := ∃ r : Rc, ds = [r.D] ∧ d = .bool (rcB r)
theorem d_is_recipe (T : Txt K mg w.params) {f : Addr} {fd : FuncData} (D_is_tuple : DFn P w K mg base 1 "is_tuple" F_is_tuple) (D_is_word : DFn P w K mg base 2 "is_word" F_is_word) (D_are_pairs : DFn P w K mg base 3 "are_pairs" F_are_pairs) (F : Fun K "is_recipe" "is_recipe" s_is_recipe f fd) (hm : mg "is_recipe" = some (.ref f)) : DFn P w K mg base 4 "is_recipe" F_is_recipe := by
  refine F.data hm (F.binds fun _ _ _ _ _ _ us hl => match us, hl with | [_], _ => rfl) sc_is_recipe (fun ds d ⟨_, e, _⟩ => by rw [e]; rfl) fun cdv A outer s H E ds d hr ⟨⟨n, ps⟩, e, e2⟩ => ?_
  subst e e2
  show SVs _ [some (recD n ps)] _ _
  refine svs_guard (k := !belowB (.int n) 4096) (tv_w (wv_or (k := false) (k' := !belowB (.int n) 4096) (tv_not (k := true) (tv_val (ev_call D_is_tuple (by walk_at "rm") rfl (av_cons (ev_var 0 (by rfl) (pv 0)) (av_cons ev_int av_nil)) ⟨_, 2, rfl, rfl⟩))) (fun _ => wv_or1 (tv_not (tv_val (ev_call D_is_word (by walk_at "rm") rfl (av_cons (ev_ixT (ds := [.int n, .tuple (ps.map pairD)]) (ev_var 0 (by rfl) (pv 0)) ev_int (atI_of (by decide) rfl)) av_nil) ⟨_, rfl, rfl⟩)))))) (fun h => ⟨.bool false, by unfold rcB; cases z : belowB (.int n) 4096 with | true => rw [z] at h; cases h | false => rfl, svs_ret (sv_ret ev_bl)⟩) fun h => ?_
  have hn : belowB (.int n) 4096 = true := by cases z : belowB (.int n) 4096 with | true => rfl | false => rw [z] at h; cases h
  unfold rcB
  rw [hn]
  refine svs_ret (sv_ret (ev_and (k := true) (ev_isi (n := "tuple") (ev_ixT (ds := [.int n, .tuple (ps.map pairD)]) (ev_var 0 (by rfl) (pv 0)) ev_int (atI_of (by decide) rfl)) rfl T.b_isinstance rfl T.b_tuple (by decide +kernel) (by rfl)) (fun _ => ev_one (ev_call D_are_pairs (by walk_at "rm") rfl (av_cons (ev_ixT (ds := [.int n, .tuple (ps.map pairD)]) (ev_var 0 (by rfl) (pv 0)) ev_int (atI_of (by decide) rfl)) (av_cons (T.g_spots rfl) (av_cons ev_int av_nil))) ⟨ps, 12, 1, rfl, rfl⟩)) (fun h => by cases h)))
end
section
variable {P : Program} {w : World} {K : PySem.W.Frag} {mg : Str → Option Value} {base : Heap}
def kd : Nat → Str
  | 0 => "known"
  | 1 => "truth"
  | 2 => "same"
  | 3 => "less"
  | _ => "more"
theorem kd_kindS {j : Nat} (h : j < 4) : kd j = kindS j := by
  rcases kinds4 h with rfl | rfl | rfl | rfl <;> rfl
theorem kinds5 {j : Nat} (h : j < 5) : j = 0 ∨ j = 1 ∨ j = 2 ∨ j = 3 ∨ j = 4 := by omega
def quB (j : Nat) (s t : Int) : Bool := if j = 1 then belowB (.int s) 12 && belowB (.int t) 1 else (j == 2 || j == 3) && (belowB (.int s) 12 && belowB (.int t) 12)
def F_question (ds : List PyData) (d : PyData) : Prop := ∃ j s t, j < 5 ∧ ds = [.str (kd j), .int s, .int t] ∧ d = .bool (quB j s t)
theorem d_is_question (T : Txt K mg w.params) {f : Addr} {fd : FuncData} (D_is_below : DFn P w K mg base 1 "is_below" F_is_below) (F : Fun K "is_question" "is_question" s_is_question f fd) (hm : mg "is_question" = some (.ref f)) : DFn P w K mg base 2 "is_question" F_question := by
  refine F.data hm (F.binds fun _ _ _ _ _ _ us hl => match us, hl with | [_, _, _], _ => rfl) sc_is_question (fun ds d ⟨_, _, _, _, e, _⟩ => by rw [e]; rfl) fun cdv A outer s H E ds d hr ⟨j, s0, t0, hj, e, e2⟩ => ?_
  subst e e2
  rcases kinds5 hj with rfl | rfl | rfl | rfl | rfl
  · refine svs_guard (k := false) (tv_eq (tv_cmp (ev_var 0 (by rfl) (pv 0)) ev_str (by walk_at "od") (nomark _)) (by decide +kernel)) (fun h => by cases h) fun _ => ?_
    exact svs_ret (sv_ret (ev_and (k := false) (ev_eq (ev_cmp (ev_var 0 (by rfl) (pv 0)) (ev_tup (av_cons ev_str (av_cons ev_str av_nil)) (by walk_at "sz")) (by walk_at "od") (by with_unfolding_all rfl)) (congrArg PyData.bool (by decide +kernel))) (fun h => by cases h) (fun _ => rfl)))
  · exact svs_guard (k := true) (tv_eq (tv_cmp (ev_var 0 (by rfl) (pv 0)) ev_str (by walk_at "od") (nomark _)) (by decide +kernel)) (fun _ => ⟨_, rfl, svs_ret (sv_ret (ev_and (k := belowB (.int s0) 12) (ev_call D_is_below (by walk_at "rm") rfl (av_cons (ev_var 1 (by rfl) (pv 1)) (av_cons (T.g_spots rfl) av_nil)) ⟨_, _, rfl, rfl⟩) (fun h => ev_eq (ev_one (ev_call D_is_below (by walk_at "rm") rfl (av_cons (ev_var 2 (by rfl) (pv 2)) (av_cons ev_int av_nil)) ⟨_, _, rfl, rfl⟩)) (by show _ = PyData.bool (belowB (.int s0) 12 && belowB (.int t0) 1); rw [h]; rfl)) (fun h => by show PyData.bool (belowB (.int s0) 12 && belowB (.int t0) 1) = _; rw [h]; rfl)))⟩) (fun h => by cases h)
  · refine svs_guard (k := false) (tv_eq (tv_cmp (ev_var 0 (by rfl) (pv 0)) ev_str (by walk_at "od") (nomark _)) (by decide +kernel)) (fun h => by cases h) fun _ => ?_
    exact svs_ret (sv_ret (ev_and (k := true) (ev_eq (ev_cmp (ev_var 0 (by rfl) (pv 0)) (ev_tup (av_cons ev_str (av_cons ev_str av_nil)) (by walk_at "sz")) (by walk_at "od") (by with_unfolding_all rfl)) (congrArg PyData.bool (by decide +kernel))) (fun _ => ev_and (k := belowB (.int s0) 12) (ev_call D_is_below (by walk_at "rm") rfl (av_cons (ev_var 1 (by rfl) (pv 1)) (av_cons (T.g_spots rfl) av_nil)) ⟨_, _, rfl, rfl⟩) (fun h => ev_eq (ev_one (ev_call D_is_below (by walk_at "rm") rfl (av_cons (ev_var 2 (by rfl) (pv 2)) (av_cons (T.g_spots rfl) av_nil)) ⟨_, _, rfl, rfl⟩)) (by show _ = PyData.bool (belowB (.int s0) 12 && belowB (.int t0) 12); rw [h]; rfl)) (fun h => by show PyData.bool (belowB (.int s0) 12 && belowB (.int t0) 12) = _; rw [h]; rfl)) (fun h => by cases h)))
  · refine svs_guard (k := false) (tv_eq (tv_cmp (ev_var 0 (by rfl) (pv 0)) ev_str (by walk_at "od") (nomark _)) (by decide +kernel)) (fun h => by cases h) fun _ => ?_
    exact svs_ret (sv_ret (ev_and (k := true) (ev_eq (ev_cmp (ev_var 0 (by rfl) (pv 0)) (ev_tup (av_cons ev_str (av_cons ev_str av_nil)) (by walk_at "sz")) (by walk_at "od") (by with_unfolding_all rfl)) (congrArg PyData.bool (by decide +kernel))) (fun _ => ev_and (k := belowB (.int s0) 12) (ev_call D_is_below (by walk_at "rm") rfl (av_cons (ev_var 1 (by rfl) (pv 1)) (av_cons (T.g_spots rfl) av_nil)) ⟨_, _, rfl, rfl⟩) (fun h => ev_eq (ev_one (ev_call D_is_below (by walk_at "rm") rfl (av_cons (ev_var 2 (by rfl) (pv 2)) (av_cons (T.g_spots rfl) av_nil)) ⟨_, _, rfl, rfl⟩)) (by show _ = PyData.bool (belowB (.int s0) 12 && belowB (.int t0) 12); rw [h]; rfl)) (fun h => by show PyData.bool (belowB (.int s0) 12 && belowB (.int t0) 12) = _; rw [h]; rfl)) (fun h => by cases h)))
  · refine svs_guard (k := false) (tv_eq (tv_cmp (ev_var 0 (by rfl) (pv 0)) ev_str (by walk_at "od") (nomark _)) (by decide +kernel)) (fun h => by cases h) fun _ => ?_
    exact svs_ret (sv_ret (ev_and (k := false) (ev_eq (ev_cmp (ev_var 0 (by rfl) (pv 0)) (ev_tup (av_cons ev_str (av_cons ev_str av_nil)) (by walk_at "sz")) (by walk_at "od") (by with_unfolding_all rfl)) (congrArg PyData.bool (by decide +kernel))) (fun h => by cases h) (fun _ => rfl)))
structure Tr where
  yes : Bool
  j : Nat
  s : Int
  t : Int
def Tr.D (r : Tr) : PyData := .tuple [.bool r.yes, .str (kd r.j), .int r.s, .int r.t]
def trB (r : Tr) : Bool := if r.j = 0 then belowB (.int r.s) 1 && belowB (.int r.t) 1 else quB r.j r.s r.t
theorem tr_ok {d : PyData} (h : TruthOk d) : ∃ r : Tr, d = r.D ∧ trB r = true ∧ r.j < 5 := by
  obtain ⟨yes, j, s, t, hj, hs, ht, h0, h1, rfl⟩ := h
  refine ⟨⟨yes, j, s, t⟩, by unfold Tr.D; rw [kd_kindS hj], ?_, by show j < 5; omega⟩
  unfold trB quB
  rcases kinds4 hj with rfl | rfl | rfl | rfl
  · rw [h0 rfl, h1 (by decide)]; rfl
  · rw [h1 (by decide)]
    show (belowB (.int s) 12 && belowB (.int 0) 1) = true
    rw [below_true hs.1 hs.2]; rfl
  · show (belowB (.int s) 12 && belowB (.int t) 12) = true
    rw [below_true hs.1 hs.2, below_true ht.1 ht.2]; rfl
  · show (belowB (.int s) 12 && belowB (.int t) 12) = true
    rw [below_true hs.1 hs.2, below_true ht.1 ht.2]; rfl
def F_is_truth (ds : List PyData) (d : PyData) : Prop := ∃ r : Tr, r.j < 5 ∧ ds = [r.D] ∧ d = .bool (trB r)
theorem kd_lay (j : Nat) : PyData.canLay0 (.str (kd j)) = true := by
  match j with
  | 0 => decide +kernel
  | 1 => decide +kernel
  | 2 => decide +kernel
  | 3 => decide +kernel
  | n + 4 => exact (by decide +kernel : PyData.canLay0 (.str "more") = true)
theorem kd_known {j : Nat} (h : j < 5) : PyData.eqv (.str (kd j)) (.str "known") = (j == 0) := by
  rcases kinds5 h with rfl | rfl | rfl | rfl | rfl <;> decide +kernel
theorem d_is_truth_recipe (T : Txt K mg w.params) {f : Addr} {fd : FuncData} (D_is_tuple : DFn P w K mg base 1 "is_tuple" F_is_tuple) (D_is_below : DFn P w K mg base 1 "is_below" F_is_below) (D_is_question : DFn P w K mg base 2 "is_question" F_question) (F : Fun K "is_truth_recipe" "is_truth_recipe" s_is_truth_recipe f fd) (hm : mg "is_truth_recipe" = some (.ref f)) : DFn P w K mg base 3 "is_truth_recipe" F_is_truth := by
  refine F.data hm (F.binds fun _ _ _ _ _ _ us hl => match us, hl with | [_], _ => rfl) sc_is_truth_recipe (fun ds d ⟨_, _, e, _⟩ => by rw [e]; rfl) fun cdv A outer s H E ds d hr ⟨⟨yes, j, s0, t0⟩, hj, e, e2⟩ => ?_
  subst e e2
  have hj : j < 5 := hj
  show SVs _ [some (.tuple [.bool yes, .str (kd j), .int s0, .int t0]), none, none, none] _ _
  refine svs_cons (sv_if (k := false) (tv_w (wv_or (k := false) (k' := false) (tv_not (k := true) (tv_val (ev_call D_is_tuple (by walk_at "rm") rfl (av_cons (ev_var 0 (by rfl) (pv 0)) (av_cons ev_int av_nil)) ⟨_, 4, rfl, rfl⟩))) (fun _ => wv_or1 (tv_not (k := true) (tv_val (ev_isi (n := "bool") (ev_ixT (ev_var 0 (by rfl) (pv 0)) ev_int (atI_of (by decide) rfl)) rfl T.b_isinstance rfl T.b_bool (by decide +kernel) (by rfl))))))) (fun h => by cases h) (fun _ => svs_nil)) ?_
  refine svs_cons (G1 := [some (.tuple [.bool yes, .str (kd j), .int s0, .int t0]), some (.str (kd j)), some (.int s0), some (.int t0)]) (sv_asg (k := 0) (d := .tuple [.str (kd j), .int s0, .int t0]) (B := bindT [1, 2, 3]) (ev_eq (ev_slT (ds := [.bool yes, .str (kd j), .int s0, .int t0]) (ev_var 0 (by rfl) (pv 0)) (ov_some ev_int) ov_none (fun h => by have := h.1; simp [HT.sIx] at this)) rfl) (pg_tup rfl (pgs_cons (pg_name (i := 1) sc_is_truth_recipe.nd rfl (by first | exact Or.inl rfl | exact Or.inr rfl)) (pgs_cons (pg_name (i := 2) sc_is_truth_recipe.nd rfl (by first | exact Or.inl rfl | exact Or.inr rfl)) (pgs_cons (pg_name (i := 3) sc_is_truth_recipe.nd rfl (by first | exact Or.inl rfl | exact Or.inr rfl)) pgs_nil)))) (bindDT [1, 2, 3] _ rfl) rfl) ?_
  refine svs_guard (k := (j == 0)) (tv_cmp (ev_var 1 (by rfl) (pv 1)) ev_str (od_eq (by walk_at "un") (kd_lay j) (by decide +kernel) (by walk_at "dp") (kd_known hj)) (nomark _)) (fun h => ?_) fun h => ?_
  · have h : j = 0 := by simpa using h
    subst h
    exact ⟨_, rfl, svs_ret (sv_ret (ev_and (k := belowB (.int s0) 1) (ev_call D_is_below (by walk_at "rm") rfl (av_cons (ev_var 2 (by rfl) (pv 2)) (av_cons ev_int av_nil)) ⟨_, _, rfl, rfl⟩) (fun h => ev_eq (ev_one (ev_call D_is_below (by walk_at "rm") rfl (av_cons (ev_var 3 (by rfl) (pv 3)) (av_cons ev_int av_nil)) ⟨_, _, rfl, rfl⟩)) (by show _ = PyData.bool (belowB (.int s0) 1 && belowB (.int t0) 1); rw [h]; rfl)) (fun h => by show PyData.bool (belowB (.int s0) 1 && belowB (.int t0) 1) = _; rw [h]; rfl)))⟩
  · have h : j ≠ 0 := by simpa using h
    have e : trB ⟨yes, j, s0, t0⟩ = quB j s0 t0 := by unfold trB; rw [if_neg h]
    rw [e]
    exact svs_ret (sv_ret (ev_call D_is_question (by walk_at "rm") rfl (av_cons (ev_var 1 (by rfl) (pv 1)) (av_cons (ev_var 2 (by rfl) (pv 2)) (av_cons (ev_var 3 (by rfl) (pv 3)) av_nil))) ⟨j, s0, t0, hj, rfl, rfl⟩))
structure Wy where
  dn : Int
  bs : List Rc
  t1 : Tr
  t2 : Tr
  pl : Rc
structure Wy.Sh (y : Wy) : Prop where
  b4 : y.bs.length = 4
  j1 : y.t1.j < 5
  j2 : y.t2.j < 5
def Wy.D (y : Wy) : PyData := .tuple [.int y.dn, .tuple (y.bs.map Rc.D), .tuple [y.t1.D, y.t2.D], y.pl.D]
def wyB (y : Wy) : Bool := belowB (.int y.dn) 100 && (((y.bs ++ [y.pl]).map rcB).all (fun z => z) && ([trB y.t1, trB y.t2].all (fun z => z)))
theorem recs_ok : ∀ {bs : List PyData}, (∀ b ∈ bs, RecOk b) → ∃ rs : List Rc, bs = rs.map Rc.D ∧ (∀ r ∈ rs, rcB r = true ∧ r.2.length ≤ 12)
  | [], _ => ⟨[], rfl, fun r h => by cases h⟩
  | b :: bs, h => by
    obtain ⟨r, e, h1, h2⟩ := rc_ok (h b List.mem_cons_self)
    obtain ⟨rs, e2, h3⟩ := recs_ok fun x hx => h x (List.mem_cons_of_mem _ hx)
    refine ⟨r :: rs, by rw [e, e2]; rfl, fun x hx => ?_⟩
    rcases List.mem_cons.mp hx with rfl | hx
    · exact ⟨h1, h2⟩
    · exact h3 x hx
theorem wy_ok {d : PyData} (h : WayOk d) : ∃ y : Wy, d = y.D ∧ wyB y = true ∧ y.Sh ∧ (0 ≤ y.dn ∧ y.dn < 100) ∧ (∀ r ∈ y.bs, rcB r = true ∧ r.2.length ≤ 12) ∧ (rcB y.pl = true ∧ y.pl.2.length ≤ 12) ∧ trB y.t1 = true ∧ trB y.t2 = true := by
  obtain ⟨dn, bs, t1, t2, pl, d0, d1, hl, hb, h1, h2, hp, rfl⟩ := h
  obtain ⟨rs, rfl, hr⟩ := recs_ok hb
  obtain ⟨r1, rfl, k1, j1⟩ := tr_ok h1
  obtain ⟨r2, rfl, k2, j2⟩ := tr_ok h2
  obtain ⟨rp, rfl, k3, l3⟩ := rc_ok hp
  refine ⟨⟨dn, rs, r1, r2, rp⟩, rfl, ?_, ⟨by rw [List.length_map] at hl; exact hl, j1, j2⟩, ⟨d0, d1⟩, hr, ⟨k3, l3⟩, k1, k2⟩
  show (belowB (.int dn) 100 && (((rs ++ [rp]).map rcB).all (fun z => z) && ([trB r1, trB r2].all (fun z => z)))) = true
  rw [below_true d0 d1, k1, k2, List.all_map]
  have : (rs ++ [rp]).all ((fun z => z) ∘ rcB) = true := List.all_eq_true.mpr fun x hx => by
    rcases List.mem_append.mp hx with h | h
    · exact (hr x h).1
    · rw [List.mem_singleton.mp h]; exact k3
  rw [this]
  rfl
def F_is_way (ds : List PyData) (d : PyData) : Prop := ∃ y : Wy, y.Sh ∧ ds = [y.D] ∧ d = .bool (wyB y)
theorem d_is_way (T : Txt K mg w.params) {f : Addr} {fd : FuncData} (D_is_tuple : DFn P w K mg base 1 "is_tuple" F_is_tuple) (D_is_below : DFn P w K mg base 1 "is_below" F_is_below) (D_is_recipe : DFn P w K mg base 4 "is_recipe" F_is_recipe) (D_is_truth_recipe : DFn P w K mg base 3 "is_truth_recipe" F_is_truth) (F : Fun K "is_way" "is_way" s_is_way f fd) (hm : mg "is_way" = some (.ref f)) : DFn P w K mg base 5 "is_way" F_is_way := by
  refine F.data hm (F.binds fun _ _ _ _ _ _ us hl => match us, hl with | [_], _ => rfl) sc_is_way (fun ds d ⟨_, _, e, _⟩ => by rw [e]; rfl) fun cdv A outer s H E ds d hr ⟨⟨dn, bs, t1, t2, pl⟩, ⟨b4, j1, j2⟩, e, e2⟩ => ?_
  subst e e2
  have b4 : bs.length = 4 := b4
  have hb : (bs.map Rc.D).length = 4 := by rw [List.length_map]; exact b4
  show SVs _ [some (.tuple [.int dn, .tuple (bs.map Rc.D), .tuple [t1.D, t2.D], pl.D]), none, none, none, none] _ _
  refine svs_cons (sv_if (k := false) (tv_not (k := true) (tv_val (ev_call D_is_tuple (by walk_at "rm") rfl (av_cons (ev_var 0 (by rfl) (pv 0)) (av_cons ev_int av_nil)) ⟨_, 4, rfl, rfl⟩))) (fun h => by cases h) (fun _ => svs_nil)) ?_
  refine svs_cons (G1 := [some (.tuple [.int dn, .tuple (bs.map Rc.D), .tuple [t1.D, t2.D], pl.D]), some (.int dn), some (.tuple (bs.map Rc.D)), some (.tuple [t1.D, t2.D]), some pl.D]) (sv_asg (k := 0) (B := bindT [1, 2, 3, 4]) (ev_var 0 (by rfl) (pv 0)) (pg_tup rfl (pgs_cons (pg_name (i := 1) sc_is_way.nd rfl (by first | exact Or.inl rfl | exact Or.inr rfl)) (pgs_cons (pg_name (i := 2) sc_is_way.nd rfl (by first | exact Or.inl rfl | exact Or.inr rfl)) (pgs_cons (pg_name (i := 3) sc_is_way.nd rfl (by first | exact Or.inl rfl | exact Or.inr rfl)) (pgs_cons (pg_name (i := 4) sc_is_way.nd rfl (by first | exact Or.inl rfl | exact Or.inr rfl)) pgs_nil))))) (bindDT [1, 2, 3, 4] _ rfl) rfl) ?_
  refine svs_guard (k := !belowB (.int dn) 100) (tv_eq (tv_w (wv_or (k := !belowB (.int dn) 100) (k' := false) (tv_not (tv_val (ev_call D_is_below (by walk_at "rm") rfl (av_cons (ev_var 1 (by rfl) (pv 1)) (av_cons (ev_bin (T.g_most_done rfl) ev_int (by walk_at "od")) av_nil)) ⟨_, _, rfl, rfl⟩))) (fun _ => wv_or (k := false) (k' := false) (tv_not (k := true) (tv_val (ev_eq (ev_call D_is_tuple (by walk_at "rm") rfl (av_cons (ev_var 2 (by rfl) (pv 2)) (av_cons ev_int av_nil)) ⟨bs.map Rc.D, 4, rfl, rfl⟩) (congrArg PyData.bool (by rw [hb]; rfl))))) (fun _ => wv_or1 (tv_not (k := true) (tv_val (ev_call D_is_tuple (by walk_at "rm") rfl (av_cons (ev_var 3 (by rfl) (pv 3)) (av_cons ev_int av_nil)) ⟨[t1.D, t2.D], 2, rfl, rfl⟩))))))) (Bool.or_false _)) (fun h => ⟨.bool false, ?g1, svs_ret (sv_ret ev_bl)⟩) fun h => ?_
  case g1 =>
    unfold wyB
    cases z : belowB (.int dn) 100 with
    | true => rw [z] at h; cases h
    | false => simp only [z]; rfl
  have hn : belowB (.int dn) 100 = true := by cases z : belowB (.int dn) 100 with | true => rfl | false => rw [z] at h; cases h
  have ew : wyB ⟨dn, bs, t1, t2, pl⟩ = (((bs ++ [pl]).map rcB).all (fun z => z) && ([trB t1, trB t2].all (fun z => z))) := by unfold wyB; simp only [hn]; rfl
  rw [ew]
  have hne : bs.map Rc.D ≠ [] := fun z => by rw [z] at hb; cases hb
  refine svs_ret (sv_ret (ev_and (k := ((bs ++ [pl]).map rcB).all (fun z => z)) (ev_callB2 "all" (ds := [.list (((bs ++ [pl]).map rcB).map PyData.bool)]) (av_cons (ev_eq (ev_comp (ix := []) (N := ["box"]) (B := bind1) (as := bs ++ [pl]) (D := Rc.D) (fun _ => true) (fun a => PyData.bool (rcB a)) rfl (of_decide_eq_true (by kernel_rfl)) (own_name (by decide)) (iv_tup (ev_eq (ev_bin (ev_var 2 (by rfl) (pv 2)) (ev_tup (av_cons (ev_var 4 (by rfl) (pv 4)) av_nil) (by walk_at "sz")) (od_catT hne (by rw [sizeLine_eq, hb]; show 4 + 1 ≤ 16777216; decide))) (by rw [List.map_append]; rfl))) (by rw [List.length_append, b4, sizeLine_eq]; show 4 + 1 ≤ 16777216; decide) (fun _ _ => bindD1 _) (fun _ _ _ _ _ => pg_name (i := 0) (show List.Nodup (["box"] : List Str) by decide +kernel) rfl (Or.inl rfl)) (fun a ha cl C s H fp => pf_D0) (fun a ha hP cl C s H fp => ev_call D_is_recipe (by walk_at "rm") rfl (av_cons (ev_var 0 (by rfl) (pv 0)) av_nil) ⟨a, rfl, rfl⟩)) ?q1) av_nil) (cd_all rfl) rfl T.b_all (by decide +kernel))
    (fun h => ev_eq (ev_one (ev_callB2 "all" (ds := [.list (([t1, t2].map trB).map PyData.bool)]) (av_cons (ev_eq (ev_comp (ix := []) (N := ["truth"]) (B := bind1) (as := [t1, t2]) (D := Tr.D) (fun _ => true) (fun a => PyData.bool (trB a)) rfl (of_decide_eq_true (by kernel_rfl)) (own_name (by decide)) (iv_tup (ev_var 3 (by rfl) (pv 3))) (by walk_at "sz") (fun _ _ => bindD1 _) (fun _ _ _ _ _ => pg_name (i := 0) (show List.Nodup (["truth"] : List Str) by decide +kernel) rfl (Or.inl rfl)) (fun a ha cl C s H fp => pf_D0) (fun a ha hP cl C s H fp => ev_call D_is_truth_recipe (by walk_at "rm") rfl (av_cons (ev_var 0 (by rfl) (pv 0)) av_nil) ⟨a, ?jj, rfl, rfl⟩)) rfl) av_nil) (cd_all rfl) rfl T.b_all (by decide +kernel))) (by rw [h]; rfl)) (fun h => by rw [h]; rfl)))
  case q1 => rw [filter_true, List.map_map]; rfl
  case jj =>
    rcases List.mem_cons.mp ha with rfl | ha
    · exact j1
    · rw [List.mem_singleton.mp ha]; exact j2
def F_is_test (ds : List PyData) (d : PyData) : Prop := ∃ (j : Nat) (s t : Int) (goes : Bool) (y : Wy), j < 5 ∧ y.Sh ∧ ds = [.tuple [.str "test", .str (kd j), .int s, .int t, .bool goes, y.D]] ∧ d = .bool (quB j s t && wyB y)
theorem d_is_test (T : Txt K mg w.params) {f : Addr} {fd : FuncData} (D_is_question : DFn P w K mg base 2 "is_question" F_question) (D_is_way : DFn P w K mg base 5 "is_way" F_is_way) (F : Fun K "is_test" "is_test" s_is_test f fd) (hm : mg "is_test" = some (.ref f)) : DFn P w K mg base 6 "is_test" F_is_test := by
  refine F.data hm (F.binds fun _ _ _ _ _ _ us hl => match us, hl with | [_], _ => rfl) sc_is_test (fun ds d ⟨_, _, _, _, _, _, _, e, _⟩ => by rw [e]; rfl) fun cdv A outer s H E ds d hr ⟨j, s0, t0, goes, y, hj, hy, e, e2⟩ => ?_
  subst e e2
  refine svs_cons (sv_if (k := false) (tv_eq (tv_cmp (ev_callB2 "len" (av_cons (ev_var 0 (by rfl) (pv 0)) av_nil) (by walk_at "cd") rfl T.b_len (by decide +kernel)) ev_int (by walk_at "od") (nomark _)) rfl) (fun h => by cases h) (fun _ => svs_nil)) ?_
  refine svs_cons (G1 := [some (.tuple [.str "test", .str (kd j), .int s0, .int t0, .bool goes, y.D]), some (.str (kd j)), some (.int s0), some (.int t0), some (.bool goes), some y.D]) (sv_asg (k := 0) (d := .tuple [.str (kd j), .int s0, .int t0, .bool goes, y.D]) (B := bindT [1, 2, 3, 4, 5]) (ev_eq (ev_slT (ds := [.str "test", .str (kd j), .int s0, .int t0, .bool goes, y.D]) (ev_var 0 (by rfl) (pv 0)) (ov_some ev_int) ov_none (fun h => by have := h.1; simp [HT.sIx] at this)) rfl) (pg_tup rfl (pgs_cons (pg_name (i := 1) sc_is_test.nd rfl (by first | exact Or.inl rfl | exact Or.inr rfl)) (pgs_cons (pg_name (i := 2) sc_is_test.nd rfl (by first | exact Or.inl rfl | exact Or.inr rfl)) (pgs_cons (pg_name (i := 3) sc_is_test.nd rfl (by first | exact Or.inl rfl | exact Or.inr rfl)) (pgs_cons (pg_name (i := 4) sc_is_test.nd rfl (by first | exact Or.inl rfl | exact Or.inr rfl)) (pgs_cons (pg_name (i := 5) sc_is_test.nd rfl (by first | exact Or.inl rfl | exact Or.inr rfl)) pgs_nil)))))) (bindDT [1, 2, 3, 4, 5] _ rfl) rfl) ?_
  exact svs_ret (sv_ret (ev_and (k := quB j s0 t0) (ev_call D_is_question (by walk_at "rm") rfl (av_cons (ev_var 1 (by rfl) (pv 1)) (av_cons (ev_var 2 (by rfl) (pv 2)) (av_cons (ev_var 3 (by rfl) (pv 3)) av_nil))) ⟨j, s0, t0, hj, rfl, rfl⟩) (fun h => ev_and (k := true) (ev_isi (n := "bool") (ev_var 4 (by rfl) (pv 4)) rfl T.b_isinstance rfl T.b_bool (by decide +kernel) (by rfl)) (fun _ => ev_eq (ev_one (ev_call D_is_way (by walk_at "rm") rfl (av_cons (ev_var 5 (by rfl) (pv 5)) av_nil) ⟨y, hy, rfl, rfl⟩)) (by rw [h]; rfl)) (fun h => by cases h)) (fun h => by rw [h]; rfl)))
end
section
variable {P : Program} {w : World} {K : PySem.W.Frag} {mg : Str → Option Value} {base : Heap}
def mbound (c : Nat) : Int := if c = 110 then 4096 else 12
def okMade (x : Str) (nums : List Int) : Prop := ∀ z ∈ x.cps.toList.zip nums, 0 ≤ z.2 ∧ z.2 < mbound z.1
def QOk (j : Nat) (s t : Int) : Prop := 1 ≤ j ∧ j < 4 ∧ (0 ≤ s ∧ s < 12) ∧ (0 ≤ t ∧ t < 12) ∧ (j = 1 → t = 0)
abbrev testD (j : Nat) (s t : Int) (goes : Bool) (way : PyData) : PyData := .tuple [.str "test", .str (kindS j), .int s, .int t, .bool goes, way]
def TestOk (d : PyData) : Prop := ∃ j s t goes way, QOk j s t ∧ WayOk way ∧ d = testD j s t goes way
def MadeOk (d : PyData) : Prop := ∃ q nums, q ∈ madeL ∧ nums.length = q.2.cps.size ∧ okMade q.2 nums ∧ d = .tuple (.str q.1 :: nums.map PyData.int)
def RowOk (d : PyData) : Prop := TestOk d ∨ MadeOk d
theorem made_letter : ∀ q ∈ madeL, ∀ c ∈ q.2.cps.toList, c = 114 ∨ c = 115 ∨ c = 116 ∨ c = 110 := by decide +kernel
theorem made_short : ∀ q ∈ madeL, q.2.cps.size ≤ 3 := by decide +kernel
theorem made_ascii : ∀ q ∈ madeL, strIterType q.2 = asciiI := by decide +kernel
theorem made_test : ∀ q ∈ madeL, PyData.eqv (.str q.1) (.str "test") = false := by decide +kernel
theorem made_lay : ∀ q ∈ madeL, PyData.canLay0 (.str q.1) = true := by decide +kernel
theorem mb_mem {c : Nat} (h : c = 114 ∨ c = 115 ∨ c = 116 ∨ c = 110) : ((⟨#[c]⟩ : Str), PyData.int (mbound c)) ∈ madeBoundT := by
  rcases h with rfl | rfl | rfl | rfl
  · exact List.mem_of_getElem? (i := 0) rfl
  · exact List.mem_of_getElem? (i := 1) rfl
  · exact List.mem_of_getElem? (i := 2) rfl
  · exact List.mem_of_getElem? (i := 3) rfl
theorem mp_mem {q : Str × Str} (h : q ∈ madeL) : (q.1, PyData.str q.2) ∈ madePartT := List.mem_map.mpr ⟨q, h, rfl⟩
theorem iv_eq {X : Cx} {G : Gam} {tg e : Expr} {ds ds' : List PyData} (h : IV X G tg e ds) (q : ds = ds') : IV X G tg e ds' := q ▸ h
def zpairD (q : Nat × Int) : PyData := .tuple [.str ⟨#[q.1]⟩, .int q.2]
theorem zip_pair (l : List Nat) (nums : List Int) : (l.zip (nums.map PyData.int)).map zipD = (l.zip nums).map zpairD := by
  rw [List.zip_map_right, List.map_map]
  rfl
theorem cut_row (name : Str) (nums : List Int) : cutD (.str name :: nums.map PyData.int) (some 1) none = nums.map PyData.int := by
  unfold cutD
  simp [HT.sIx]
  exact List.take_of_length_le (by simp)
inductive Rw where
  | tst (j : Nat) (s t : Int) (goes : Bool) (y : Wy)
  | mk (q : Str × Str) (nums : List Int)
  | non (nums : List Int)
def Rw.D : Rw → PyData
  | .tst j s t g y => .tuple [.str "test", .str (kd j), .int s, .int t, .bool g, y.D]
  | .mk q nums => .tuple (.str q.1 :: nums.map PyData.int)
  | .non nums => .tuple (.str "nothing" :: nums.map PyData.int)
def Rw.Sh : Rw → Prop
  | .tst j _ _ _ y => j < 5 ∧ y.Sh
  | .mk q _ => q ∈ madeL
  | .non _ => True
def zB (z : Nat × Int) : Bool := belowB (.int z.2) (mbound z.1)
def rwB : Rw → Bool
  | .tst j s t _ y => quB j s t && wyB y
  | .mk q nums => ((nums.length : Int) == q.2.cps.size) && ((q.2.cps.toList.zip nums).map zB).all (fun z => z)
  | .non _ => false
theorem qu_ok {j : Nat} {s t : Int} (h : QOk j s t) : quB j s t = true := by
  obtain ⟨j1, j4, hs, ht, h1⟩ := h
  unfold quB
  have hj : j = 1 ∨ j = 2 ∨ j = 3 := by omega
  rcases hj with rfl | rfl | rfl
  · rw [h1 rfl]
    show (belowB (.int s) 12 && belowB (.int 0) 1) = true
    rw [below_true hs.1 hs.2]; rfl
  · show (belowB (.int s) 12 && belowB (.int t) 12) = true
    rw [below_true hs.1 hs.2, below_true ht.1 ht.2]; rfl
  · show (belowB (.int s) 12 && belowB (.int t) 12) = true
    rw [below_true hs.1 hs.2, below_true ht.1 ht.2]; rfl
theorem rw_ok {d : PyData} (h : RowOk d) : ∃ r : Rw, d = r.D ∧ rwB r = true ∧ r.Sh := by
  rcases h with ⟨j, s, t, g, way, hq, hw, rfl⟩ | ⟨q, nums, hq, hl, hok, rfl⟩
  · obtain ⟨y, rfl, h1, h2, _⟩ := wy_ok hw
    refine ⟨.tst j s t g y, by show testD j s t g y.D = .tuple [.str "test", .str (kd j), .int s, .int t, .bool g, y.D]; rw [kd_kindS hq.2.1], ?_, ⟨by have := hq.2.1; omega, h2⟩⟩
    show (quB j s t && wyB y) = true
    rw [qu_ok hq, h1]; rfl
  · refine ⟨.mk q nums, rfl, ?_, hq⟩
    show (((nums.length : Int) == q.2.cps.size) && ((q.2.cps.toList.zip nums).map zB).all (fun z => z)) = true
    rw [hl, List.all_map]
    have : (q.2.cps.toList.zip nums).all ((fun z => z) ∘ zB) = true := List.all_eq_true.mpr fun x hx => below_true (hok x hx).1 (hok x hx).2
    rw [this]
    simp
def F_is_made (ds : List PyData) (d : PyData) : Prop := ∃ r : Rw, r.Sh ∧ ds = [r.D] ∧ d = .bool (rwB r)
theorem d_is_made_row (T : Txt K mg w.params) (TN : GNot K mg w.params "MADE_PARTS" "nothing") {f : Addr} {fd : FuncData} (D_is_below : DFn P w K mg base 1 "is_below" F_is_below) (D_is_test : DFn P w K mg base 6 "is_test" F_is_test) (F : Fun K "is_made_row" "is_made_row" s_is_made_row f fd) (hm : mg "is_made_row" = some (.ref f)) : DFn P w K mg base 7 "is_made_row" F_is_made := by
  refine F.data hm (F.binds fun _ _ _ _ _ _ us hl => match us, hl with | [_], _ => rfl) sc_is_made_row (fun ds d ⟨_, _, e, _⟩ => by rw [e]; rfl) fun cdv A outer s H E ds d hr ⟨r, hsh, e, e2⟩ => ?_
  subst e e2
  cases r with
  | tst j s0 t0 goes y =>
    show SVs _ [some (.tuple [.str "test", .str (kd j), .int s0, .int t0, .bool goes, y.D]), none] _ (.ret (.bool (quB j s0 t0 && wyB y)))
    refine svs_cons (sv_if (k := false) (tv_w (wv_or (k := false) (k' := false) (tv_not (k := true) (tv_val (ev_isi (n := "tuple") (ev_var 0 (by rfl) (pv 0)) rfl T.b_isinstance rfl T.b_tuple (by decide +kernel) (by rfl)))) (fun _ => wv_or (k := false) (k' := false) (tv_eq (tv_cmp (ev_callB2 "len" (av_cons (ev_var 0 (by rfl) (pv 0)) av_nil) (by walk_at "cd") rfl T.b_len (by decide +kernel)) ev_int (by walk_at "od") (nomark _)) rfl) (fun _ => wv_or1 (tv_not (k := true) (tv_val (ev_isi (n := "str") (ev_ixT (ev_var 0 (by rfl) (pv 0)) ev_int (atI_of (by decide) rfl)) rfl T.b_isinstance rfl T.b_str (by decide +kernel) (by rfl)))))))) (fun h => by cases h) (fun _ => svs_nil)) ?_
    exact svs_ret (sv_if (k := true) (tv_cmp (ev_ixT (ev_var 0 (by rfl) (pv 0)) ev_int (atI_of (by decide) rfl)) ev_str (od_eq (by walk_at "un") (by decide +kernel) (by decide +kernel) (by walk_at "dp") (by decide +kernel)) (nomark _)) (fun _ => svs_ret (sv_ret (ev_call D_is_test (by walk_at "rm") rfl (av_cons (ev_var 0 (by rfl) (pv 0)) av_nil) ⟨j, s0, t0, goes, y, hsh.1, hsh.2, rfl, rfl⟩))) (fun h => by cases h))
  | mk q nums =>
    have hq : q ∈ madeL := hsh
    have hs3 := made_short q hq
    show SVs _ [some (.tuple (.str q.1 :: nums.map PyData.int)), none] _ (.ret (.bool (((nums.length : Int) == q.2.cps.size) && ((q.2.cps.toList.zip nums).map zB).all (fun z => z))))
    refine svs_cons (sv_if (k := false) (tv_w (wv_or (k := false) (k' := false) (tv_not (k := true) (tv_val (ev_isi (n := "tuple") (ev_var 0 (by rfl) (pv 0)) rfl T.b_isinstance rfl T.b_tuple (by decide +kernel) (by rfl)))) (fun _ => wv_or (k := false) (k' := false) (tv_eq (tv_cmp (ev_callB2 "len" (av_cons (ev_var 0 (by rfl) (pv 0)) av_nil) (by walk_at "cd") rfl T.b_len (by decide +kernel)) ev_int (by walk_at "od") (nomark _)) (by show (((_ + 1 : Nat) : Int) == 0) = false; exact beq_eq_false_iff_ne.mpr (by omega))) (fun _ => wv_or1 (tv_not (k := true) (tv_val (ev_isi (n := "str") (ev_ixT (ev_var 0 (by rfl) (pv 0)) ev_int (atI_of (by decide) rfl)) rfl T.b_isinstance rfl T.b_str (by decide +kernel) (by rfl)))))))) (fun h => by cases h) (fun _ => svs_nil)) ?_
    refine svs_cons (sv_if (k := false) (tv_cmp (ev_ixT (ev_var 0 (by rfl) (pv 0)) ev_int (atI_of (by decide) rfl)) ev_str (od_eq (by walk_at "un") (made_lay q hq) (by decide +kernel) (by walk_at "dp") (made_test q hq)) (nomark _)) (fun h => by cases h) (fun _ => svs_nil)) ?_
    refine svs_cons (sv_if (k := false) (ev_gnotIn T.t_made_parts rfl (ev_ixT (ev_var 0 (by rfl) (pv 0)) ev_int (atI_of (by decide) rfl)) (mp_mem hq)) (fun h => by cases h) (fun _ => svs_nil)) ?_
    refine svs_cons (sv_set (i := 1) sc_is_made_row.nd rfl (Or.inl rfl) (ev_gdict T.t_made_parts rfl (ev_ixT (ev_var 0 (by rfl) (pv 0)) ev_int (atI_of (by decide) rfl)) (mp_mem hq))) ?_
    refine svs_guard (k := !((nums.length : Int) == q.2.cps.size)) (tv_cmp (ev_callB2 "len" (av_cons (ev_var 0 (by rfl) (pv 0)) av_nil) (by walk_at "cd") rfl T.b_len (by decide +kernel)) (ev_bin ev_int (ev_callB2 "len" (av_cons (ev_var 1 (by rfl) (pv 1)) av_nil) (cd_lenS (by rw [sizeLine_eq]; show q.2.cps.size ≤ _; omega)) rfl T.b_len (by decide +kernel)) od_add) (od_ne (by walk_at "un") rfl rfl (by walk_at "dp") ?ln) (nomark _)) (fun h => ⟨.bool false, ?g1, svs_ret (sv_ret ev_bl)⟩) fun h => ?_
    case ln =>
      rw [List.length_cons, List.length_map]
      show (!(((nums.length + 1 : Nat) : Int) == 1 + (q.2.cps.size : Int))) = !((nums.length : Int) == (q.2.cps.size : Int))
      congr 1
      rw [Bool.eq_iff_iff, beq_iff_eq, beq_iff_eq]
      omega
    case g1 =>
      cases z : ((nums.length : Int) == (q.2.cps.size : Int)) with
      | true => rw [z] at h; cases h
      | false => rfl
    have hn : ((nums.length : Int) == (q.2.cps.size : Int)) = true := by cases z : ((nums.length : Int) == (q.2.cps.size : Int)) with | true => rfl | false => rw [z] at h; cases h
    have hl : nums.length = q.2.cps.size := by have := beq_iff_eq.mp hn; omega
    rw [hn, Bool.true_and]
    refine svs_ret (sv_ret (ev_callB2 "all" (ds := [.list (((q.2.cps.toList.zip nums).map zB).map PyData.bool)]) (av_cons (ev_eq (ev_comp (ix := []) (N := ["part", "number"]) (B := bind2) (as := q.2.cps.toList.zip nums) (D := zpairD) (fun _ => true) (fun a => PyData.bool (zB a)) rfl (of_decide_eq_true (by kernel_rfl)) (own_tup (own_cons (own_name (by decide)) (own_cons (own_name (by decide)) own_nil)))
      (iv_eq (iv_zip (ev_var 1 (by rfl) (pv 1)) (ev_eq (ev_slT (ev_var 0 (by rfl) (pv 0)) (ov_some ev_int) ov_none (fun h => by have := h.1; simp [HT.sIx] at this)) (by rw [cut_row])) (made_ascii q hq) (by rw [List.length_map, hl]) rfl T.b_zip) (zip_pair _ _)) (by rw [List.length_zip, sizeLine_eq, Array.length_toList]; omega) (fun _ _ => bindD2 _ _) (fun _ _ _ _ _ => pg_tup rfl (pgs_cons (pg_name (i := 0) (show List.Nodup (["part", "number"] : List Str) by decide +kernel) rfl (Or.inl rfl)) (pgs_cons (pg_name (i := 1) (show List.Nodup (["part", "number"] : List Str) by decide +kernel) rfl (Or.inl rfl)) pgs_nil))) (fun a ha cl C s H fp => pf_D0)
      (fun a ha hP cl C s H fp => ev_call D_is_below (by walk_at "rm") rfl (av_cons (ev_var 1 (by rfl) (pv 1)) (av_cons (ev_gdict T.t_made_bounds rfl (ev_var 0 (by rfl) (pv 0)) (mb_mem (made_letter q hq a.1 (List.of_mem_zip ha).1))) av_nil)) ⟨_, _, rfl, rfl⟩)) ?q1) av_nil) (cd_all rfl) rfl T.b_all (by decide +kernel)))
    case q1 => rw [filter_true, List.map_map]; rfl
  | non nums =>
    show SVs _ [some (.tuple (.str "nothing" :: nums.map PyData.int)), none] _ (.ret (.bool false))
    refine svs_cons (sv_if (k := false) (tv_w (wv_or (k := false) (k' := false) (tv_not (k := true) (tv_val (ev_isi (n := "tuple") (ev_var 0 (by rfl) (pv 0)) rfl T.b_isinstance rfl T.b_tuple (by decide +kernel) (by rfl)))) (fun _ => wv_or (k := false) (k' := false) (tv_eq (tv_cmp (ev_callB2 "len" (av_cons (ev_var 0 (by rfl) (pv 0)) av_nil) (by walk_at "cd") rfl T.b_len (by decide +kernel)) ev_int (by walk_at "od") (nomark _)) (by show (((_ + 1 : Nat) : Int) == 0) = false; exact beq_eq_false_iff_ne.mpr (by omega))) (fun _ => wv_or1 (tv_not (k := true) (tv_val (ev_isi (n := "str") (ev_ixT (ev_var 0 (by rfl) (pv 0)) ev_int (atI_of (by decide) rfl)) rfl T.b_isinstance rfl T.b_str (by decide +kernel) (by rfl)))))))) (fun h => by cases h) (fun _ => svs_nil)) ?_
    refine svs_cons (sv_if (k := false) (tv_cmp (ev_ixT (ev_var 0 (by rfl) (pv 0)) ev_int (atI_of (by decide) rfl)) ev_str (od_eq (by walk_at "un") (by decide +kernel) (by decide +kernel) (by walk_at "dp") (by decide +kernel)) (nomark _)) (fun h => by cases h) (fun _ => svs_nil)) ?_
    exact svs_guard (k := true) (tv_gnotIn TN rfl (ev_ixT (ev_var 0 (by rfl) (pv 0)) ev_int (atI_of (by decide) rfl))) (fun _ => ⟨_, rfl, svs_ret (sv_ret ev_bl)⟩) (fun h => by cases h)
end
section
variable {P : Program} {w : World} {K : PySem.W.Frag} {mg : Str → Option Value} {base : Heap}
theorem enum_get {α : Type} {l : List α} {i : Nat} {q : Nat × α} (h : ((List.range l.length).zip l)[i]? = some q) : q.1 = i ∧ l[i]? = some q.2 := by
  rw [List.getElem?_zip_eq_some] at h
  obtain ⟨h1, h2⟩ := h
  have hi : i < l.length := (List.getElem?_eq_some_iff.mp h2).1
  rw [List.getElem?_range hi] at h1
  exact ⟨(Option.some.inj h1).symm, h2⟩
theorem enum_put {α : Type} {l : List α} {i : Nat} {x : α} (h : l[i]? = some x) : ((List.range l.length).zip l)[i]? = some (i, x) := by
  rw [List.getElem?_zip_eq_some]
  have hi : i < l.length := (List.getElem?_eq_some_iff.mp h).1
  exact ⟨by rw [List.getElem?_range hi], h⟩
def h1B (st : Int) (ps : List (Int × Int)) : Bool := !belowB (.int st) 4096 || (!(decide ((1 : Int) ≤ ps.length) && decide ((ps.length : Int) ≤ 60)) || !pairsB 4096 0 (-1) ps)
def h2B (rows : List Rw) (ways : List Wy) : Bool := decide ((rows.length : Int) > 60) || !((ways.length : Int) == (rows.length : Int) + 1)
def kB (rows : List Rw) (i : Nat) (y : Wy) : Bool := !wyB y || (decide ((i : Int) < rows.length) && !rwB (rows.getD i (.non [])))
structure PSh (rows : List Rw) (ways : List Wy) : Prop where
  r : ∀ x ∈ rows, x.Sh
  y : ∀ x ∈ ways, x.Sh
def chkR (C : Addr) (st : Int) (ps : List (Int × Int)) (rows : List Rw) (ways : List Wy) (r : Res) : Prop :=
  (r = .exc C (-1) ∧ (h1B st ps = true ∨ (h1B st ps = false ∧ h2B rows ways = true))) ∨
  (h1B st ps = false ∧ h2B rows ways = false ∧ ∃ (j : Nat) (y : Wy), r = .exc C j ∧ ways[j]? = some y ∧ kB rows j y = true ∧ ∀ i y', i < j → ways[i]? = some y' → kB rows i y' = false) ∨
  (h1B st ps = false ∧ h2B rows ways = false ∧ r = .ok .none ∧ ∀ i y, ways[i]? = some y → kB rows i y = false)
abbrev pcL (st : Int) (ps : List (Int × Int)) (rows : List Rw) (ways : List Wy) : List PyData := [.int st, .tuple (ps.map pairD), .tuple (rows.map Rw.D), .tuple (ways.map Wy.D)]
def F_check (C : Addr) (ds : List PyData) (r : Res) : Prop := ∃ st ps rows ways, PSh rows ways ∧ ds = pcL st ps rows ways ∧ chkR C st ps rows ways r
def forBody : Stmt → List Stmt
  | .For _ _ b _ _ => b
  | _ => []
def ifTest : Stmt → Expr
  | .If c _ _ _ => c
  | _ => .Constant .none 0 ⟨0, 0, 0, 0⟩
abbrev loopS : List Stmt := forBody ((defBody s_check_piece).getD 2 (.Pass ⟨0, 0, 0, 0⟩))
section
variable {f : Addr} {cdv : Value} {A : Around} {outer : List Env} {s : Shared} {H : Hp} {E : XK} {st : Int} {ps : List (Int × Int)} {rows : List Rw} {ways : List Wy} {i : Nat} {y : Wy}
theorem turnT (T : Txt K mg w.params) (D_is_way : DFn P w K mg base 5 "is_way" F_is_way) (D_is_made_row : DFn P w K mg base 7 "is_made_row" F_is_made) (hr : Room 7 (A.deeper (PyProof.Rows.envOfC "check_piece" (defScope s_check_piece) s.heap.objs.size f cdv))) (hsh : PSh rows ways) (hy : ways[i]? = some y) :
    TV (cxR P w K mg base ["start", "text", "rows", "ways", "k", "way"] "check_piece" (defScope s_check_piece) f cdv A outer s H E) [some (.int st), some (.tuple (ps.map pairD)), some (.tuple (rows.map Rw.D)), some (.tuple (ways.map Wy.D)), some (.int (i : Int)), some y.D] (ifTest (loopS.getD 0 (.Pass ⟨0, 0, 0, 0⟩))) (kB rows i y) := by
  have hlr : ((List.map Rw.D rows).length : Int) = rows.length := by rw [List.length_map]
  refine tv_w (wv_or (k := !wyB y) (k' := decide ((i : Int) < rows.length) && !rwB (rows.getD i (.non []))) (tv_not (tv_val (ev_call D_is_way (by walk_at "rm") rfl (av_cons (ev_var 5 (by rfl) (pv 5)) av_nil) ⟨y, hsh.y y (List.mem_of_getElem? hy), rfl, rfl⟩))) (fun _ => wv_or1 (tv_w (wv_and (k := decide ((i : Int) < rows.length)) (k' := !rwB (rows.getD i (.non []))) (tv_eq (tv_cmp (ev_var 4 (by rfl) (pv 4)) (ev_callB2 "len" (av_cons (ev_var 2 (by rfl) (pv 2)) av_nil) (by walk_at "cd") rfl T.b_len (by decide +kernel)) (by walk_at "od") (nomark _)) (by rw [hlr])) (fun h => ?_)))))
  have hi : i < rows.length := by have := of_decide_eq_true h; omega
  have hg : rows[i]? = some rows[i] := List.getElem?_eq_getElem hi
  have eg : rows.getD i (.non []) = rows[i] := by rw [List.getD_eq_getElem?_getD, hg]; rfl
  rw [eg]
  exact wv_and1 (tv_not (tv_val (ev_call D_is_made_row (by walk_at "rm") rfl (av_cons (ev_ixT (ev_var 2 (by rfl) (pv 2)) (ev_var 4 (by rfl) (pv 4)) (atI_of (by omega) (by rw [Int.toNat_natCast, List.getElem?_map, hg]; rfl))) av_nil) ⟨rows[i], hsh.r _ (List.getElem_mem hi), rfl, rfl⟩)))
theorem turnOk (T : Txt K mg w.params) (D_is_way : DFn P w K mg base 5 "is_way" F_is_way) (D_is_made_row : DFn P w K mg base 7 "is_made_row" F_is_made) (hr : Room 7 (A.deeper (PyProof.Rows.envOfC "check_piece" (defScope s_check_piece) s.heap.objs.size f cdv))) (hsh : PSh rows ways) (hy : ways[i]? = some y) (hk : kB rows i y = false) :
    SVs (cxR P w K mg base ["start", "text", "rows", "ways", "k", "way"] "check_piece" (defScope s_check_piece) f cdv A outer s H E) (bindT [4, 5] (enumD (i, y.D)) [some (.int st), some (.tuple (ps.map pairD)), some (.tuple (rows.map Rw.D)), some (.tuple (ways.map Wy.D)), none, none]) loopS (.next [some (.int st), some (.tuple (ps.map pairD)), some (.tuple (rows.map Rw.D)), some (.tuple (ways.map Wy.D)), none, none]) := by
  refine svs_forget (G1 := [some (.int st), some (.tuple (ps.map pairD)), some (.tuple (rows.map Rw.D)), some (.tuple (ways.map Wy.D)), some (.int (i : Int)), some y.D]) ?_ rfl ?fg
  case fg =>
    intro j d e
    match j, e with
    | 0, e => exact e
    | 1, e => exact e
    | 2, e => exact e
    | 3, e => exact e
    | 4, e => cases e
    | 5, e => cases e
    | n + 6, e => cases e
  exact svs_cons (sv_if (k := false) (tv_eq (turnT T D_is_way D_is_made_row hr hsh hy) hk) (fun h => by cases h) (fun _ => svs_nil)) svs_nil
end
theorem x_check_piece (T : Txt K mg w.params) {C fI f : Addr} {fd fdI : FuncData} {psI : List Str} (O : ExcI K C fI) (FI : FnOk P w K mg base CX0 1 fI fdI psI (spIE C)) (bI : Binds K fdI psI []) (hC : mg "BadPiece" = some (.ref C)) (D_is_word : DFn P w K mg base 2 "is_word" F_is_word) (D_are_pairs : DFn P w K mg base 3 "are_pairs" F_are_pairs) (D_is_way : DFn P w K mg base 5 "is_way" F_is_way) (D_is_made_row : DFn P w K mg base 7 "is_made_row" F_is_made) (F : Fun K "check_piece" "check_piece" s_check_piece f fd) (hm : mg "check_piece" = some (.ref f)) : XFn P w K mg base 8 "check_piece" (F_check C) := by
  refine F.dataX hm (F.binds fun _ _ _ _ _ _ us hl => match us, hl with | [_, _, _, _], _ => rfl) sc_check_piece (fun ds d ⟨_, _, _, _, _, e, _⟩ => by rw [e]; rfl) fun cdv A outer s H E ds r hr ⟨st, ps, rows, ways, hsh, e, hr2⟩ => ?_
  subst e
  have hlp : ((List.map pairD ps).length : Int) = ps.length := by rw [List.length_map]
  have hlr : ((List.map Rw.D rows).length : Int) = rows.length := by rw [List.length_map]
  have hlw : ((List.map Wy.D ways).length : Int) = ways.length := by rw [List.length_map]
  refine (?_ : SR _ (exR E) _ _ r)
  refine sr_guard (k := h1B st ps) (tv_w (wv_or (k := !belowB (.int st) 4096) (k' := !(decide ((1 : Int) ≤ ps.length) && decide ((ps.length : Int) ≤ 60)) || !pairsB 4096 0 (-1) ps) (tv_not (tv_val (ev_call D_is_word (by walk_at "rm") rfl (av_cons (ev_var 0 (by rfl) (pv 0)) av_nil) ⟨_, rfl, rfl⟩))) (fun _ => wv_or (k := !(decide ((1 : Int) ≤ ps.length) && decide ((ps.length : Int) ≤ 60))) (k' := !pairsB 4096 0 (-1) ps) (tv_not (tv_chainB ?c1 ?c2 ev_int (ev_callB2 "len" (av_cons (ev_var 1 (by rfl) (pv 1)) av_nil) (by walk_at "cd") rfl T.b_len (by decide +kernel)) (T.g_most_cells rfl))) (fun _ => wv_or1 (tv_not (tv_val (ev_call D_are_pairs (by walk_at "rm") rfl (av_cons (ev_var 1 (by rfl) (pv 1)) (av_cons ev_int (av_cons ev_int av_nil))) ⟨ps, 4096, 0, rfl, rfl⟩))))))) (fun h => ?r1) fun h1 => ?_
  case c1 => rw [hlp]; exact od_le
  case c2 => rw [hlp]; exact od_le
  case r1 =>
    rcases hr2 with ⟨rfl, _⟩ | ⟨z, _⟩ | ⟨z, _⟩
    · exact ⟨C, -1, rfl, _, sx_head (sx_raiseI _ rfl O FI (by walk_at "rm") bI rfl hC (ev_eq (ev_neg ev_int) rfl))⟩
    · rw [h] at z; cases z
    · rw [h] at z; cases z
  refine sr_guard (k := h2B rows ways) (tv_w (wv_or (k := decide ((rows.length : Int) > 60)) (k' := !((ways.length : Int) == (rows.length : Int) + 1)) (tv_eq (tv_cmp (ev_callB2 "len" (av_cons (ev_var 2 (by rfl) (pv 2)) av_nil) (by walk_at "cd") rfl T.b_len (by decide +kernel)) (T.g_most_rows rfl) (by walk_at "od") (nomark _)) (by rw [hlr])) (fun _ => wv_or1 (tv_eq (tv_cmp (ev_callB2 "len" (av_cons (ev_var 3 (by rfl) (pv 3)) av_nil) (by walk_at "cd") rfl T.b_len (by decide +kernel)) (ev_bin (ev_callB2 "len" (av_cons (ev_var 2 (by rfl) (pv 2)) av_nil) (by walk_at "cd") rfl T.b_len (by decide +kernel)) ev_int (by walk_at "od")) (by walk_at "od") (nomark _)) (by rw [hlr, hlw]; rfl))))) (fun h => ?r2) fun h2 => ?_
  case r2 =>
    rcases hr2 with ⟨rfl, _⟩ | ⟨_, z, _⟩ | ⟨_, z, _⟩
    · exact ⟨C, -1, rfl, _, sx_head (sx_raiseI _ rfl O FI (by walk_at "rm") bI rfl hC (ev_eq (ev_neg ev_int) rfl))⟩
    · rw [h] at z; cases z
    · rw [h] at z; cases z
  rcases hr2 with ⟨_, z | ⟨_, z⟩⟩ | ⟨_, _, j, y, rfl, hj, hb, hbs⟩ | ⟨_, _, rfl, hbs⟩
  · rw [h1] at z; cases z
  · rw [h2] at z; cases z
  · have hjl : ((List.range (ways.map Wy.D).length).zip (ways.map Wy.D))[j]? = some (j, y.D) := enum_put (by rw [List.getElem?_map, hj]; rfl)
    refine ⟨[some (.int st), some (.tuple (ps.map pairD)), some (.tuple (rows.map Rw.D)), some (.tuple (ways.map Wy.D)), some (.int (j : Int)), some y.D], sx_head (sx_for (k := 0) (as := (List.range (ways.map Wy.D).length).zip (ways.map Wy.D)) (D := enumD) (g := gTup K 2 (gNames [4, 5])) (B := bindT [4, 5]) (fun _ => [some (.int st), some (.tuple (ps.map pairD)), some (.tuple (rows.map Rw.D)), some (.tuple (ways.map Wy.D)), none, none]) j hjl po_R rfl (iv_enum (ev_var 3 (by rfl) (pv 3)) rfl T.b_enumerate) (pg_tup rfl (pgs_cons (pg_name (i := 4) sc_check_piece.nd rfl (by first | exact Or.inl rfl | exact Or.inr rfl)) (pgs_cons (pg_name (i := 5) sc_check_piece.nd rfl (by first | exact Or.inl rfl | exact Or.inr rfl)) pgs_nil))) (fun _ _ => bindDT [4, 5] _ rfl) ?b1 ?b2)⟩
    case b1 =>
      intro i q hi hq
      obtain ⟨e1, e2⟩ := enum_get hq
      obtain ⟨i', d⟩ := q
      simp only at e1 e2
      subst e1
      rw [List.getElem?_map] at e2
      obtain ⟨y', hy', rfl⟩ := Option.map_eq_some_iff.mp e2
      exact turnOk T D_is_way D_is_made_row hr hsh hy' (hbs _ _ hi hy')
    case b2 =>
      show SXvs _ _ [some (.int st), some (.tuple (ps.map pairD)), some (.tuple (rows.map Rw.D)), some (.tuple (ways.map Wy.D)), some (.int (j : Int)), some y.D] _ _ _ _
      exact sx_head (sx_if (k := true) (tv_eq (turnT T D_is_way D_is_made_row hr hsh hj) hb) (fun _ => sx_head (sx_raiseI _ rfl O FI (by walk_at "rm") bI rfl hC (ev_var 4 (by rfl) (pv 4)))) (fun h => by cases h))
  · refine .inr ⟨rfl, _, svs_cons (sv_for (k := 0) (as := (List.range (ways.map Wy.D).length).zip (ways.map Wy.D)) (D := enumD) (g := gTup K 2 (gNames [4, 5])) (B := bindT [4, 5]) (fun _ => [some (.int st), some (.tuple (ps.map pairD)), some (.tuple (rows.map Rw.D)), some (.tuple (ways.map Wy.D)), none, none]) po_R rfl (iv_enum (ev_var 3 (by rfl) (pv 3)) rfl T.b_enumerate) (pg_tup rfl (pgs_cons (pg_name (i := 4) sc_check_piece.nd rfl (by first | exact Or.inl rfl | exact Or.inr rfl)) (pgs_cons (pg_name (i := 5) sc_check_piece.nd rfl (by first | exact Or.inl rfl | exact Or.inr rfl)) pgs_nil))) (fun _ _ => bindDT [4, 5] _ rfl) ?b3) svs_nil⟩
    case b3 =>
      intro i q hq
      obtain ⟨e1, e2⟩ := enum_get hq
      obtain ⟨i', d⟩ := q
      simp only at e1 e2
      subst e1
      rw [List.getElem?_map] at e2
      obtain ⟨y', hy', rfl⟩ := Option.map_eq_some_iff.mp e2
      exact turnOk T D_is_way D_is_made_row hr hsh hy' (hbs _ _ hy')
end
section
variable {P : Program} {w : World} {K : PySem.W.Frag} {mg : Str → Option Value} {base : Heap}
abbrev s_init : Stmt := inClass (top 24) 0
theorem sc_init : FnScope ["self", "start", "text", "rows", "ways"] ["self", "start", "text", "rows", "ways"] (defScope s_init) := ⟨rfl, rfl, rfl, by decide +kernel, rfl, by decide +kernel, by decide +kernel⟩
structure ClsP (K : PySem.W.Frag) (mg : Str → Option Value) (C : Addr) : Prop where
  cl : Cls K C
  n1 : NoAttr K C "start"
  n2 : NoAttr K C "text"
  n3 : NoAttr K C "rows"
  n4 : NoAttr K C "ways"
  at_ : mg "Piece" = some (.ref C)
def spInit (K : PySem.W.Frag) (C CB : Addr) : Sp := fun vs H Q E => ∃ (a dx : Addr) (v1 v2 v3 v4 : V) (st : Int) (ps : List (Int × Int)) (rows : List Rw) (ways : List Wy) (r : Res), vs = [.ref a, v1, v2, v3, v4] ∧ H a = some (.ins C dx []) ∧ DVs K H [v1, v2, v3, v4] (pcL st ps rows ways) ∧ F_check CB (pcL st ps rows ways) r ∧ (match r with
  | .ok _ => ∀ fs H', H' a = some (.ins C dx fs) → (∀ b, b ≠ a → ∀ o, H b = some o → H' b = some o) → Flds K H' fs [("rows", .tuple (rows.map Rw.D))] → Q .non H'
  | .exc Cx n => ∀ H' dx', Same H H' → RowAt H' dx' n → E (.ref Cx) (some dx') H')
theorem cd_tupleT {X : Cx} {ds : List PyData} : CD X (.type "tuple") [.tuple ds] (.tuple ds) := call_tuple_of.imp fun xs H Q ⟨h, q⟩ => by
  obtain ⟨v, rfl, dv⟩ := h.one
  obtain ⟨l, us, rfl, hl, d1⟩ := id dv.of_tup
  exact ⟨l, us, rfl, .inr ⟨hl, q _ H (Same.refl H) dv⟩⟩
theorem ok_init (T : Txt K mg w.params) {C CB f : Addr} {fd : FuncData} (CP : ClsP K mg C) (D_check : XFn P w K mg base 8 "check_piece" (F_check CB)) (F : Fun K "__init__" "Piece.__init__" s_init f fd) : FnOk P w K mg base (CXr P w) 9 f fd ["self", "start", "text", "rows", "ways"] (spInit K C CB) := by
  refine F.okX sc_init (fun vs H Q E ⟨_, _, _, _, _, _, _, _, _, _, _, e, _⟩ => by rw [e]; rfl) fun cdv A outer s H vs Q E hr ⟨a, dx, v1, v2, v3, v4, st, ps, rows, ways, r, e, ha, dv, hcs, q⟩ => ?_
  subst e
  cases dv with
  | cons d1 t1 =>
  cases t1 with
  | cons d2 t2 =>
  cases t2 with
  | cons d3 t3 =>
  cases t3 with
  | cons d4 t4 =>
  have sd : SD K H (start ["self", "start", "text", "rows", "ways"] [.ref a, v1, v2, v3, v4]) [none, some (.int st), some (.tuple (ps.map pairD)), some (.tuple (rows.map Rw.D)), some (.tuple (ways.map Wy.D))] := ⟨rfl, fun i d z => by
    match i, z with
    | 0, z => cases z
    | 1, z => cases z; exact ⟨_, rfl, d1⟩
    | 2, z => cases z; exact ⟨_, rfl, d2⟩
    | 3, z => cases z; exact ⟨_, rfl, d3⟩
    | 4, z => cases z; exact ⟨_, rfl, d4⟩
    | n + 5, z => cases z⟩
  cases r with
  | exc Cx n =>
    have z : SXvs (cxR P w K mg base ["self", "start", "text", "rows", "ways"] "Piece.__init__" (defScope s_init) f cdv A outer s H E) (exR E) [none, some (.int st), some (.tuple (ps.map pairD)), some (.tuple (rows.map Rw.D)), some (.tuple (ways.map Wy.D))] (defBody s_init) [none, some (.int st), some (.tuple (ps.map pairD)), some (.tuple (rows.map Rw.D)), some (.tuple (ways.map Wy.D))] Cx n := sx_head (sx_expr (ex_call xw_cx D_check (by walk_at "rm") rfl (av_cons (ev_var 1 (by rfl) (pv 1)) (av_cons (ev_var 2 (by rfl) (pv 2)) (av_cons (ev_var 3 (by rfl) (pv 3)) (av_cons (ev_var 4 (by rfl) (pv 4)) av_nil)))) hcs))
    exact ⟨_, z, sd, fun σ' H' s' _ dx' r' => q H' dx' s' r'⟩
  | ok dd =>
    have hp0 : ∀ q ∈ ([] : List (Str × PyData)), q.1 ≠ "start" := fun q hq => by cases hq
    refine ⟨_, pss_cons (ps_exprD (a := a) (C := C) (dx := dx) (H0 := H) (n := 0) (fd := []) (G := [none, some (.int st), some (.tuple (ps.map pairD)), some (.tuple (rows.map Rw.D)), some (.tuple (ways.map Wy.D))]) (ev_callX D_check (by walk_at "rm") rfl (av_cons (ev_var 1 (by rfl) (pv 1)) (av_cons (ev_var 2 (by rfl) (pv 2)) (av_cons (ev_var 3 (by rfl) (pv 3)) (av_cons (ev_var 4 (by rfl) (pv 4)) av_nil)))) hcs))
      (pss_cons (ps_fldD (a := a) (dx := dx) (H0 := H) (n := 0) (fd := []) (d := .int st) (G := [none, some (.int st), some (.tuple (ps.map pairD)), some (.tuple (rows.map Rw.D)), some (.tuple (ways.map Wy.D))]) CP.cl CP.n1 (pv 0) (ev_var 1 (by rfl) (pv 1)) (by decide) hp0)
      (pss_cons (ps_fldD (a := a) (dx := dx) (H0 := H) (n := 1) (fd := [("start", .int st)]) (d := .tuple (ps.map pairD)) (G := [none, some (.int st), some (.tuple (ps.map pairD)), some (.tuple (rows.map Rw.D)), some (.tuple (ways.map Wy.D))]) CP.cl CP.n2 (pv 0) (ev_callTy2 "tuple" (av_cons (ev_var 2 (by rfl) (pv 2)) av_nil) cd_tupleT rfl T.b_tuple (by decide +kernel)) (by decide) ?f1)
      (pss_cons (ps_fldD (a := a) (dx := dx) (H0 := H) (n := 2) (fd := [("text", .tuple (ps.map pairD)), ("start", .int st)]) (d := .tuple (rows.map Rw.D)) (G := [none, some (.int st), some (.tuple (ps.map pairD)), some (.tuple (rows.map Rw.D)), some (.tuple (ways.map Wy.D))]) CP.cl CP.n3 (pv 0) (ev_callTy2 "tuple" (av_cons (ev_var 3 (by rfl) (pv 3)) av_nil) cd_tupleT rfl T.b_tuple (by decide +kernel)) (by decide) ?f2)
      (pss_cons (ps_fldD (a := a) (dx := dx) (H0 := H) (n := 3) (fd := [("rows", .tuple (rows.map Rw.D)), ("text", .tuple (ps.map pairD)), ("start", .int st)]) (d := .tuple (ways.map Wy.D)) (G := [none, some (.int st), some (.tuple (ps.map pairD)), some (.tuple (rows.map Rw.D)), some (.tuple (ways.map Wy.D))]) CP.cl CP.n4 (pv 0) (ev_callTy2 "tuple" (av_cons (ev_var 4 (by rfl) (pv 4)) av_nil) cd_tupleT rfl T.b_tuple (by decide +kernel)) (by decide) ?f3) pss_nil)))), ?_⟩
    case f1 =>
      intro q hq
      have := List.mem_singleton.mp hq
      subst this
      dsimp only
      decide +kernel
    case f2 =>
      intro q hq
      simp only [List.mem_cons, List.not_mem_nil, or_false] at hq
      rcases hq with rfl | rfl <;> (dsimp only; decide +kernel)
    case f3 =>
      intro q hq
      simp only [List.mem_cons, List.not_mem_nil, or_false] at hq
      rcases hq with rfl | rfl | rfl <;> (dsimp only; decide +kernel)
    have o0 : OI K a C dx H 0 [] (start ["self", "start", "text", "rows", "ways"] [.ref a, v1, v2, v3, v4]) [none, some (.int st), some (.tuple (ps.map pairD)), some (.tuple (rows.map Rw.D)), some (.tuple (ways.map Wy.D))] [] H := ⟨rfl, ha, sd, fun b _ o e => e, (fun q hq => by cases hq), Nat.le_refl _⟩
    exact ⟨⟨_, o0⟩, fun fs1 H1 o1 => ⟨⟨_, o1⟩, fun fs2 H2 o2 => ⟨⟨_, o2⟩, fun fs3 H3 o3 => ⟨⟨_, o3⟩, fun fs4 H4 o4 => ⟨⟨_, o4⟩, fun fs5 H5 o5 => q fs5 H5 o5.obj o5.keep (fun z hz => o5.flds z (by rw [List.mem_singleton.mp hz]; exact List.mem_cons_of_mem _ List.mem_cons_self))⟩⟩⟩⟩⟩
theorem dvs4 {K : PySem.W.Frag} {H : Hp} {vs : List V} {a b c d : PyData} (h : DVs K H vs [a, b, c, d]) : ∃ v1 v2 v3 v4, vs = [v1, v2, v3, v4] := by
  have := h.length
  match vs, this with
  | [v1, v2, v3, v4], _ => exact ⟨v1, v2, v3, v4, rfl⟩
theorem ex_piece {X : Cx} {Ex : St → Hp → Addr → Int → Prop} {G : Gam} {C CB Cx fI : Addr} {rn : Int} {fdI : FuncData} {st : Int} {ps : List (Int × Int)} {rows : List Rw} {ways : List Wy} {a1 a2 a3 a4 : Expr} {p1 p2 : Pos} (CP : ClsP X.K X.mg C) (M : Mk X.K C fI) (bI : Binds X.K fdI ["self", "start", "text", "rows", "ways"] []) (FI : FnOk X.prog X.w X.K X.mg X.base (CXr X.prog X.w) 9 fI fdI ["self", "start", "text", "rows", "ways"] (spInit X.K C CB))
    (hr : Room 10 X.A) (g1 : Gl X "Piece") (W : XW X Ex) (ha : AV X G [a1, a2, a3, a4] (pcL st ps rows ways)) (hF : F_check CB (pcL st ps rows ways) (.exc Cx rn))
    (e1 : starEach [a1, a2, a3, a4] X.env = (false, eval a1 X.env) :: starEach [a2, a3, a4] X.env := by rfl) (e2 : (backTo p2 (starEach [a2, a3, a4] X.env)).any (·.1) = false := by rfl) :
    EXv X Ex G (.Call (.Name "Piece" p1) [a1, a2, a3, a4] [] p2) Cx rn := by
  refine ex_make M FI hr g1 CP.at_ bI W ha (fun vs H y dy Q E dv hy hdy hne hE => ?_) (by decide) e1 e2
  obtain ⟨v1, v2, v3, v4, rfl⟩ := dvs4 dv
  have sm : Same H (upd (upd H dy (.own y)) y (.ins C dy [])) := fun b o e => by
    rw [upd_ne (ne_of_none e hy), upd_ne (ne_of_none e hdy)]
    exact e
  exact ⟨y, dy, v1, v2, v3, v4, st, ps, rows, ways, .exc Cx rn, rfl, upd_same, dv.mono sm, hF, fun H' dx' s' r' => hE H' dx' (sm.trans s') r'⟩
theorem ev_rows {X : Cx} {G : Gam} {C CB fI : Addr} {fdI : FuncData} {st : Int} {ps : List (Int × Int)} {rows : List Rw} {ways : List Wy} {a1 a2 a3 a4 : Expr} {p1 p2 p3 : Pos} (CP : ClsP X.K X.mg C) (M : Mk X.K C fI) (bI : Binds X.K fdI ["self", "start", "text", "rows", "ways"] []) (FI : FnOk X.prog X.w X.K X.mg X.base (CXr X.prog X.w) 9 fI fdI ["self", "start", "text", "rows", "ways"] (spInit X.K C CB))
    (hr : Room 10 X.A) (g1 : Gl X "Piece") (ha : AV X G [a1, a2, a3, a4] (pcL st ps rows ways)) (hF : F_check CB (pcL st ps rows ways) (.ok .none))
    (e1 : starEach [a1, a2, a3, a4] X.env = (false, eval a1 X.env) :: starEach [a2, a3, a4] X.env := by rfl) (e2 : (backTo p2 (starEach [a2, a3, a4] X.env)).any (·.1) = false := by rfl)
    (hb : attributeBase (.Call (.Name "Piece" p1) [a1, a2, a3, a4] [] p2) "rows" X.env (eval (.Call (.Name "Piece" p1) [a1, a2, a3, a4] [] p2) X.env) = eval (.Call (.Name "Piece" p1) [a1, a2, a3, a4] [] p2) X.env := by rfl) :
    EV X G (.Attribute (.Call (.Name "Piece" p1) [a1, a2, a3, a4] [] p2) "rows" p3) (.tuple (rows.map Rw.D)) := by
  refine (pe_fld (pe_make M FI hr g1 CP.at_ bI .nil (E := fun _ _ _ => False) (fun _ _ _ _ _ _ _ ⟨_, _, _, _, _, _, _, _, _, _, _, _, z⟩ => z.elim) ha (by decide) e1 e2) hb).imp fun σ H Q ⟨h, qq⟩ => ⟨h, fun vs H1 s1 dvs x dx hx hdx hne => ?_⟩
  obtain ⟨v1, v2, v3, v4, rfl⟩ := dvs4 dvs
  have sm : Same H1 (upd (upd H1 dx (.own x)) x (.ins C dx [])) := fun b o e => by
    rw [upd_ne (ne_of_none e hx), upd_ne (ne_of_none e hdx)]
    exact e
  refine ⟨x, dx, v1, v2, v3, v4, st, ps, rows, ways, .ok .none, rfl, upd_same, dvs.mono sm, hF, fun fs H2 o2 keep2 fl2 => ⟨rfl, ?_⟩⟩
  have s2 : Same H1 H2 := fun b o e => keep2 b (ne_of_none e hx) o (sm b o e)
  obtain ⟨v, hl, dv⟩ := fl2 _ List.mem_cons_self
  exact ⟨x, C, dx, fs, v, rfl, o2, CP.cl, CP.n3, hl, qq v H2 (s1.trans s2) dv⟩
end
section
variable {P : Program} {w : World} {K : PySem.W.Frag} {mg : Str → Option Value} {base : Heap}
def LayD (d : PyData) (n : Nat) : Prop := d.canLay0 = true ∧ d.depth ≤ n
theorem layAll {l : List PyData} {n : Nat} (h : ∀ d ∈ l, LayD d n) : PyData.canLayAll0 l = true ∧ PyData.depthAll l ≤ n := by
  have e : l.map (fun d => d) = l := List.map_id' l
  exact ⟨by rw [← e]; exact canLayAll_map l fun d hd => (h d hd).1, by rw [← e]; exact depthAll_map l fun d hd => (h d hd).2⟩
theorem lay_tup {l : List PyData} {n : Nat} (h : ∀ d ∈ l, LayD d n) : LayD (.tuple l) (n + 1) := by
  obtain ⟨h1, h2⟩ := layAll h
  refine ⟨by simpa [PyData.canLay0] using h1, ?_⟩
  simp [PyData.depth]
  omega
theorem lay_int (i : Int) (n : Nat) : LayD (.int i) (n + 1) := ⟨rfl, by simp [PyData.depth]⟩
theorem lay_bool (i : Bool) (n : Nat) : LayD (.bool i) (n + 1) := ⟨rfl, by simp [PyData.depth]⟩
theorem LayD.up {d : PyData} {n m : Nat} (h : LayD d n) (hm : n ≤ m) : LayD d m := ⟨h.1, Nat.le_trans h.2 hm⟩
theorem lay_kind (j n : Nat) : LayD (.str (kindS j)) (n + 1) := ⟨kindS_lay j, by simp [PyData.depth]⟩
theorem lay_pair (q : Int × Int) : LayD (pairD q) 2 := lay_tup fun d hd => by
  simp only [List.mem_cons, List.not_mem_nil, or_false] at hd
  rcases hd with rfl | rfl
  · exact lay_int _ 0
  · exact lay_int _ 0
theorem lay_ptup (ps : List (Int × Int)) : LayD (.tuple (ps.map pairD)) 3 := lay_tup fun d hd => by
  obtain ⟨q, _, rfl⟩ := List.mem_map.mp hd
  exact lay_pair q
theorem RecOk.lay {d : PyData} (h : RecOk d) : LayD d 4 := by
  obtain ⟨n, ps, _, _, _, _, rfl⟩ := h
  refine lay_tup fun d hd => ?_
  simp only [List.mem_cons, List.not_mem_nil, or_false] at hd
  rcases hd with rfl | rfl
  · exact lay_int _ 2
  · exact lay_ptup ps
theorem TruthOk.lay {d : PyData} (h : TruthOk d) : LayD d 2 := by
  obtain ⟨yes, j, s, t, _, _, _, _, _, rfl⟩ := h
  refine lay_tup fun d hd => ?_
  simp only [List.mem_cons, List.not_mem_nil, or_false] at hd
  rcases hd with rfl | rfl | rfl | rfl
  · exact lay_bool _ 0
  · exact lay_kind _ 0
  · exact lay_int _ 0
  · exact lay_int _ 0
theorem WayOk.lay {d : PyData} (h : WayOk d) : LayD d 6 := by
  obtain ⟨dn, bs, t1, t2, pl, _, _, _, hbs, ht1, ht2, hpl, rfl⟩ := h
  refine lay_tup fun d hd => ?_
  simp only [List.mem_cons, List.not_mem_nil, or_false] at hd
  rcases hd with rfl | rfl | rfl | rfl
  · exact lay_int _ 4
  · exact lay_tup fun d hd => (hbs d hd).lay
  · refine (lay_tup (n := 2) fun d hd => ?_).up (by decide)
    simp only [List.mem_cons, List.not_mem_nil, or_false] at hd
    rcases hd with rfl | rfl
    · exact ht1.lay
    · exact ht2.lay
  · exact hpl.lay.up (by decide)
theorem RowOk.lay {d : PyData} (h : RowOk d) : LayD d 7 := by
  rcases h with ⟨j, s, t, goes, way, _, hw, rfl⟩ | ⟨q, nums, hq, _, _, rfl⟩
  · refine lay_tup fun d hd => ?_
    simp only [List.mem_cons, List.not_mem_nil, or_false] at hd
    rcases hd with rfl | rfl | rfl | rfl | rfl | rfl
    · exact ⟨by decide +kernel, by simp [PyData.depth]⟩
    · exact lay_kind _ 5
    · exact lay_int _ 5
    · exact lay_int _ 5
    · exact lay_bool _ 5
    · exact hw.lay
  · refine lay_tup fun d hd => ?_
    rcases List.mem_cons.mp hd with rfl | hd
    · exact ⟨made_lay q hq, by simp [PyData.depth]⟩
    · obtain ⟨z, _, rfl⟩ := List.mem_map.mp hd
      exact lay_int _ 5
end
section
variable {P : Program} {w : World} {K : PySem.W.Frag} {mg : Str → Option Value} {base : Heap}
theorem made1 {x : Str} {a : Nat} {i : Int} (e : x.cps.toList = [a]) (h1 : 0 ≤ i ∧ i < mbound a) : okMade x [i] := by
  intro z hz
  rw [e] at hz
  simp only [List.zip_cons_cons, List.zip_nil_right, List.mem_cons, List.not_mem_nil, or_false] at hz
  subst hz
  exact h1
theorem made2 {x : Str} {a b : Nat} {i j : Int} (e : x.cps.toList = [a, b]) (h1 : 0 ≤ i ∧ i < mbound a) (h2 : 0 ≤ j ∧ j < mbound b) : okMade x [i, j] := by
  intro z hz
  rw [e] at hz
  simp only [List.zip_cons_cons, List.zip_nil_right, List.mem_cons, List.not_mem_nil, or_false] at hz
  rcases hz with rfl | rfl
  · exact h1
  · exact h2
theorem made3 {x : Str} {a b c : Nat} {i j k : Int} (e : x.cps.toList = [a, b, c]) (h1 : 0 ≤ i ∧ i < mbound a) (h2 : 0 ≤ j ∧ j < mbound b) (h3 : 0 ≤ k ∧ k < mbound c) : okMade x [i, j, k] := by
  intro z hz
  rw [e] at hz
  simp only [List.zip_cons_cons, List.zip_nil_right, List.mem_cons, List.not_mem_nil, or_false] at hz
  rcases hz with rfl | rfl | rfl
  · exact h1
  · exact h2
  · exact h3
theorem rowJ_ok {j : Nat} {r s t n c : Int} (hr : 0 ≤ r ∧ r < 12) (hs : 0 ≤ s ∧ s < 12) (ht : 0 ≤ t ∧ t < 12) (hn : 0 ≤ n ∧ n < 4096) : RowOk (rowJ j r s t n c) := by
  have h16 : 0 ≤ c / 5 % 16 ∧ c / 5 % 16 < 4096 := by omega
  match j with
  | 0 => exact .inr ⟨("set", "rn"), [r, n], List.mem_of_getElem? (i := 0) rfl, rfl, made2 (a := 114) (b := 110) rfl hr hn, rfl⟩
  | 1 => exact .inr ⟨("copy", "rs"), [r, s], List.mem_of_getElem? (i := 1) rfl, rfl, made2 (a := 114) (b := 115) rfl hr hs, rfl⟩
  | 2 => exact .inr ⟨("cut", "rs"), [r, s], List.mem_of_getElem? (i := 2) rfl, rfl, made2 (a := 114) (b := 115) rfl hr hs, rfl⟩
  | 3 => exact .inr ⟨("add", "rst"), [r, s, t], List.mem_of_getElem? (i := 3) rfl, rfl, made3 (a := 114) (b := 115) (c := 116) rfl hr hs ht, rfl⟩
  | 4 => exact .inr ⟨("sub", "rst"), [r, s, t], List.mem_of_getElem? (i := 4) rfl, rfl, made3 (a := 114) (b := 115) (c := 116) rfl hr hs ht, rfl⟩
  | 5 => exact .inr ⟨("mul", "rst"), [r, s, t], List.mem_of_getElem? (i := 5) rfl, rfl, made3 (a := 114) (b := 115) (c := 116) rfl hr hs ht, rfl⟩
  | 6 => exact .inr ⟨("and", "rst"), [r, s, t], List.mem_of_getElem? (i := 6) rfl, rfl, made3 (a := 114) (b := 115) (c := 116) rfl hr hs ht, rfl⟩
  | 7 => exact .inr ⟨("xor", "rst"), [r, s, t], List.mem_of_getElem? (i := 7) rfl, rfl, made3 (a := 114) (b := 115) (c := 116) rfl hr hs ht, rfl⟩
  | 8 => exact .inr ⟨("addn", "rsn"), [r, s, n], List.mem_of_getElem? (i := 8) rfl, rfl, made3 (a := 114) (b := 115) (c := 110) rfl hr hs hn, rfl⟩
  | 9 => exact .inr ⟨("load", "rsn"), [r, s, c / 5 % 16], List.mem_of_getElem? (i := 9) rfl, rfl, made3 (a := 114) (b := 115) (c := 110) rfl hr hs h16, rfl⟩
  | 10 => exact .inr ⟨("store", "snt"), [s, c / 5 % 16, t], List.mem_of_getElem? (i := 10) rfl, rfl, made3 (a := 115) (b := 110) (c := 116) rfl hs h16 ht, rfl⟩
  | 11 => exact .inr ⟨("out", "s"), [s], List.mem_of_getElem? (i := 11) rfl, rfl, made1 (a := 115) rfl hs, rfl⟩
  | m + 12 =>
    refine .inl ⟨tj (c % 3), s, (if c % 3 = 2 then 0 else t), _, _, ⟨?_, ?_, hs, ?_, ?_⟩, wayOf_ok (c / 6), rfl⟩
    · unfold tj; split
      · decide
      · split <;> decide
    · unfold tj; split
      · decide
      · split <;> decide
    · split
      · decide
      · exact ht
    · intro h
      unfold tj at h
      by_cases h0 : c % 3 = 0
      · rw [if_pos h0] at h; cases h
      · rw [if_neg h0] at h
        by_cases h1 : c % 3 = 1
        · rw [if_pos h1] at h; cases h
        · rw [if_pos (by omega)]
theorem rowOf_ok (c : Int) : RowOk (rowOf c) := rowJ_ok (by unfold rr; omega) (ss_range c) (tt_range c) (nOf_range _)
def stateF (ds : List PyData) (d : PyData) : Prop := ∃ (a b t : PyData) (cs : List Int) (pl : Int), 16 ≤ cs.length ∧ cs.length ≤ 128 ∧ (∀ c ∈ cs, 0 ≤ c ∧ c < 4096) ∧ 0 ≤ pl ∧ pl < 4096 ∧ d = .list [a, .list (cs.map PyData.int), b, t, .int pl]
def statePre (ds : List PyData) : Prop := ∃ ns : List Int, ds = [.list (ns.map PyData.int)] ∧ ns.length ≤ 63
theorem hrs_outRR {X : Cx} {H0 : Hp} {p : Addr} {i : Nat} {Pre : Gam → List PyData → Prop} {R : PyData → Prop} {sts : List Stmt} (h : ∀ G ds, Pre G ds → RVs X (plusL G i ds) sts R) : HRs X H0 p i Pre sts R := by
  intro pins s σ H D I ⟨⟨G, ds, a, o⟩, q⟩
  refine h G ds a pins s σ H D I ⟨o.sd, fun d v H' r s' dv => q d v H' r ?_ dv⟩
  obtain ⟨Hb, vs, rfl, hn, s0, _⟩ := o
  exact (s0.trans (Same.new hn)).trans s'
theorem r_law_state (T : Txt K mg w.params) {f : Addr} {fd : FuncData} (D_law_cell : DFn P w K mg base 1 "_law_cell" F_cell) (F : Fun K "_law_state" "_law_state" s_law_state f fd) (hm : mg "_law_state" = some (.ref f)) : RFn P w K mg base 2 "_law_state" stateF statePre := by
  refine F.dataR hm (F.binds fun _ _ _ _ _ _ us hl => match us, hl with | [_], _ => rfl) sc_law_state (fun ds ⟨_, e, _⟩ => by rw [e]; rfl) fun cdv A outer s H E ds hr ⟨ns, e, hns⟩ => ?_
  subst e
  refine rvs_cons (sv_set (i := 1) (d := .int (cellN ns 0)) sc_law_state.nd rfl (Or.inl rfl) (ev_call D_law_cell (by walk_at "rm") rfl (av_cons (ev_var 0 (by rfl) (pv 0)) (av_cons ev_int av_nil)) ⟨ns, 0, rfl, hns, by decide, rfl⟩)) ?_
  generalize cellN ns 0 = c0
  obtain ⟨m, hm8, hme⟩ : ∃ m : Int, (1 ≤ m ∧ m ≤ 8) ∧ atI [PyData.int 1, PyData.int 2, PyData.int 3, PyData.int 8] (c0 % 4) = some (PyData.int m) := by
    have h : c0 % 4 = 0 ∨ c0 % 4 = 1 ∨ c0 % 4 = 2 ∨ c0 % 4 = 3 := by omega
    rcases h with h | h | h | h <;> rw [h]
    · exact ⟨1, by decide, rfl⟩
    · exact ⟨2, by decide, rfl⟩
    · exact ⟨3, by decide, rfl⟩
    · exact ⟨8, by decide, rfl⟩
  refine rvs_cons (sv_set (i := 2) (d := .int m) sc_law_state.nd rfl (Or.inl rfl) (ev_ixL (ev_lst (av_cons ev_int (av_cons ev_int (av_cons ev_int (av_cons ev_int av_nil)))) (by walk_at "sz")) (ev_bin (ev_var 1 (by rfl) (pv 1)) ev_int (by walk_at "od")) hme)) ?_
  refine rvs_own (i := 3) sc_law_state.nd rfl (Or.inl rfl) (by show 3 < 7; decide) fun H0 p => ?_
  refine hrs_cons (Mid := fun G ds => (∃ a b, G = [some (.list (ns.map PyData.int)), a, some (.int m), none, b, none, none]) ∧ ds.length ≤ 8) ?_ (hrs_outRR ?_)
  · refine ht_forR (j := 4) (lo := 0) (n := m.toNat) (fun k G ds => (∃ c b, G = [some (.list (ns.map PyData.int)), some (.int c), some (.int m), none, b, none, none]) ∧ ds.length ≤ k) PassesOwn.never rfl (by decide) (pg_name (i := 4) sc_law_state.nd rfl (Or.inl rfl)) ?_ ?_ ?_
    · rintro G ds ⟨rfl, rfl⟩
      exact ⟨⟨⟨_, _, rfl⟩, Nat.le_refl _⟩, pi_r1 (ev_var 2 (by rfl) (pv 2)) (by omega) (by omega) rfl T.b_range⟩
    · intro k hk
      have hk8 : k < 8 := by omega
      refine hts_cons (Mid := fun G ds => (∃ c b, G = [some (.list (ns.map PyData.int)), some (.int c), some (.int m), none, b, none, none]) ∧ ds.length ≤ k + 1) (ht_append ?_ (pv 3)) (hts_cons (ht_set (j := 1) sc_law_state.nd rfl (by decide) (Or.inl rfl) ?_) (hts_nil fun _ _ h => h))
      · rintro G ds ⟨G', ⟨⟨c, b, rfl⟩, hl⟩, rfl⟩
        exact ⟨_, (ev_tup (av_cons (ev_cmp (ev_bin (ev_bin (ev_var 1 (by rfl) (pv 1)) ev_int (by walk_at "od")) ev_int (by walk_at "od")) ev_int (by walk_at "od") (nomark _)) (av_cons (ev_cmp (ev_bin (ev_bin (ev_var 1 (by rfl) (pv 1)) ev_int (by walk_at "od")) ev_int (by walk_at "od")) ev_int (by walk_at "od") (nomark _)) (av_cons (ev_cmp (ev_bin (ev_bin (ev_var 1 (by rfl) (pv 1)) ev_int (by walk_at "od")) ev_int (by walk_at "od")) ev_int (by walk_at "od") (nomark _)) av_nil))) (by walk_at "sz")), rfl, by rw [sizeLine_eq]; omega, ⟨_, _, rfl⟩, by rw [List.length_append]; show _ + 1 ≤ _; omega⟩
      · rintro G ds ⟨⟨c, b, rfl⟩, hl⟩
        exact ⟨_, (ev_bin (ev_var 1 (by rfl) (pv 1)) ev_int (by walk_at "od")), rfl, ⟨_, _, rfl⟩, hl⟩
    · rintro G ds ⟨⟨c, b, e⟩, hl⟩
      exact ⟨⟨_, _, e⟩, by omega⟩
  rintro G pg ⟨⟨a, b, rfl⟩, hpg⟩
  obtain ⟨n16, hn16⟩ : ∃ n : Nat, 16 * m = (n : Int) := ⟨(16 * m).toNat, by omega⟩
  refine rvs_cons (sv_setComp (ix := [0]) (N := ["k", "script"]) (B := bind1) (as := List.range (n16 : Int).toNat) (D := fun (i : Nat) => PyData.int (0 + (i : Int))) (fun _ => true) (fun (k : Nat) => PyData.int (cellN ns (k % 7) / (1 + 77 * (k : Int) * (k : Int)) % 4096)) rfl sc_law_state.nd (i := 5) rfl rfl (of_decide_eq_true (by kernel_rfl)) (own_name (by decide))
    (iv_range1 (ev_eq (ev_bin ev_int (ev_var 2 (by rfl) (pv 2)) (by walk_at "od")) (congrArg PyData.int hn16)) (by omega) (by omega) rfl T.b_range) (by rw [List.length_range, sizeLine_eq]; omega) (fun _ _ => bindD1 _) (fun _ _ _ _ _ => pg_name (i := 0) (show List.Nodup (["k", "script"] : List Str) by decide +kernel) rfl (Or.inl rfl)) (fun a ha cl C s H fp => pf_D0) ?el) ?_
  case el =>
    intro k hk hP cl C s H fp
    have hk' : k < 128 := by have := List.mem_range.mp hk; omega
    have hsq : 0 ≤ 77 * (k : Int) * (k : Int) ∧ 77 * (k : Int) * (k : Int) ≤ 77 * 128 * 128 := by
      refine ⟨Int.mul_nonneg (by omega) (by omega), ?_⟩
      exact Int.mul_le_mul (by omega) (by omega) (by omega) (by decide)
    refine ev_eq (ev_bin (ev_bin (ev_call D_law_cell (by walk_at "rm") rfl (av_cons (ev_var 1 (by rfl) (pv 1)) (av_cons (ev_bin (ev_var 0 (by rfl) (pv 0)) ev_int (by walk_at "od")) av_nil)) ⟨ns, k % 7, by rw [Int.zero_add]; rfl, hns, by omega, rfl⟩) (ev_eq (ev_bin ev_int (ev_bin (ev_bin ev_int (ev_var 0 (by rfl) (pv 0)) (od_mul (.inl ⟨by decide, by decide⟩))) (ev_var 0 (by rfl) (pv 0)) (od_mul (.inr ⟨by omega, by omega⟩))) od_add) (show _ = PyData.int (1 + 77 * (k : Int) * (k : Int)) by rw [Int.zero_add])) (od_fdiv ⟨by omega, by omega⟩)) ev_int (od_mod (by decide))) rfl
  rw [filter_true]
  have ez : (List.range (n16 : Int).toNat).map (fun (k : Nat) => PyData.int (cellN ns (k % 7) / (1 + 77 * (k : Int) * (k : Int)) % 4096)) = ((List.range n16).map fun k => cellN ns (k % 7) / (1 + 77 * (k : Int) * (k : Int)) % 4096).map PyData.int := by rw [List.map_map]; rfl
  rw [ez]
  have hcl : ((List.range n16).map fun k => cellN ns (k % 7) / (1 + 77 * (k : Int) * (k : Int)) % 4096).length = n16 := by rw [List.length_map, List.length_range]
  have hcr : ∀ c ∈ ((List.range n16).map fun k => cellN ns (k % 7) / (1 + 77 * (k : Int) * (k : Int)) % 4096), 0 ≤ c ∧ c < 4096 := fun c hc => by
    obtain ⟨k, _, rfl⟩ := List.mem_map.mp hc
    exact ⟨Int.emod_nonneg _ (by decide), Int.emod_lt_of_pos _ (by decide)⟩
  generalize ((List.range n16).map fun k => cellN ns (k % 7) / (1 + 77 * (k : Int) * (k : Int)) % 4096) = cs at hcl hcr
  refine rvs_cons (sv_set (i := 1) (d := .int (cellN ns 1)) sc_law_state.nd rfl (Or.inl rfl) (ev_call D_law_cell (by walk_at "rm") rfl (av_cons (ev_var 0 (by rfl) (pv 0)) (av_cons ev_int av_nil)) ⟨ns, 1, rfl, hns, by decide, rfl⟩)) ?_
  generalize cellN ns 1 = c1
  refine rvs_own (i := 6) sc_law_state.nd rfl (Or.inl rfl) (by show 6 < 7; decide) fun H1 p1 => ?_
  refine hrs_cons (Mid := fun G ds => ∃ c b, G = [some (.list (ns.map PyData.int)), some (.int c), some (.int m), some (.list pg), b, some (.list (cs.map PyData.int)), none]) ?_ (hrs_outR ?_)
  · refine ht_forR (j := 4) (lo := 0) (n := (4 : Int).toNat) (fun k G ds => (∃ c b, G = [some (.list (ns.map PyData.int)), some (.int c), some (.int m), some (.list pg), b, some (.list (cs.map PyData.int)), none]) ∧ ds.length ≤ k) PassesOwn.never rfl (by decide) (pg_name (i := 4) sc_law_state.nd rfl (Or.inl rfl)) ?_ ?_ fun G ds h => h.1
    · rintro G ds ⟨rfl, rfl⟩
      exact ⟨⟨⟨_, _, rfl⟩, Nat.le_refl _⟩, pi_r1 ev_int (by decide) (by decide) rfl T.b_range⟩
    · intro k hk
      have hk4 : k < 4 := hk
      refine hts_cons (Mid := fun G ds => (∃ c b, G = [some (.list (ns.map PyData.int)), some (.int c), some (.int m), some (.list pg), b, some (.list (cs.map PyData.int)), none]) ∧ ds.length ≤ k + 1) (ht_append ?_ (pv 6)) (hts_cons (ht_set (j := 1) sc_law_state.nd rfl (by decide) (Or.inl rfl) ?_) (hts_nil fun _ _ h => h))
      · rintro G ds ⟨G', ⟨⟨c, b, rfl⟩, hl⟩, rfl⟩
        exact ⟨.int ([c / 4 % (16 * m), c / 4 % 16, c / 4 % 4096, 4095].getD (c % 4).toNat 0), ev_ixL (ev_lst (av_cons (ev_bin (ev_bin (ev_var 1 (by rfl) (pv 1)) ev_int (by walk_at "od")) (ev_bin ev_int (ev_var 2 (by rfl) (pv 2)) (by walk_at "od")) (by walk_at "od")) (av_cons (ev_bin (ev_bin (ev_var 1 (by rfl) (pv 1)) ev_int (by walk_at "od")) ev_int (by walk_at "od")) (av_cons (ev_bin (ev_bin (ev_var 1 (by rfl) (pv 1)) ev_int (by walk_at "od")) ev_int (by walk_at "od")) (av_cons ev_int av_nil)))) (by walk_at "sz")) (ev_bin (ev_var 1 (by rfl) (pv 1)) ev_int (by walk_at "od")) (at_ints (zs := [c / 4 % (16 * m), c / 4 % 16, c / 4 % 4096, 4095]) (by omega) (show c % 4 < (4 : Int) by omega)), rfl, by rw [sizeLine_eq]; omega, ⟨_, _, rfl⟩, by rw [List.length_append]; show _ + 1 ≤ _; omega⟩
      · rintro G ds ⟨⟨c, b, rfl⟩, hl⟩
        exact ⟨_, (ev_bin (ev_var 1 (by rfl) (pv 1)) ev_int (by walk_at "od")), rfl, ⟨_, _, rfl⟩, hl⟩
  · rintro G ds ⟨c, b, rfl⟩
    exact ⟨_, ⟨_, _, _, cs, _, by omega, by omega, hcr, (show 0 ≤ c / 4 % 4096 by omega), by omega, rfl⟩, svs_ret (sv_ret (ev_lst (av_cons (ev_var 3 (by rfl) (pv 3)) (av_cons (ev_var 5 (by rfl) (pv 5)) (av_cons (ev_var 6 (by rfl) (pv 6)) (av_cons (ev_tup (av_cons (ev_cmp (ev_bin (ev_var 1 (by rfl) (pv 1)) ev_int (by walk_at "od")) ev_int (by walk_at "od") (nomark _)) (av_cons (ev_cmp (ev_bin (ev_bin (ev_var 1 (by rfl) (pv 1)) ev_int (by walk_at "od")) ev_int (by walk_at "od")) ev_int (by walk_at "od") (nomark _)) av_nil)) (by walk_at "sz")) (av_cons (ev_bin (ev_bin (ev_var 1 (by rfl) (pv 1)) ev_int (by walk_at "od")) ev_int (by walk_at "od")) av_nil))))) (by walk_at "sz")))⟩
end
section
variable {P : Program} {w : World} {K : PySem.W.Frag} {mg : Str → Option Value} {base : Heap}
def tcond (c : Int) (k : Nat) : Bool := ((c + 48271 * (0 + (k : Int)) * (0 + (k : Int))) / 7 % 5 == 0)
def tIt (cs : List Int) (c : Int) : Nat → List (Int × Int)
  | 0 => []
  | k + 1 => if tcond c k = true ∧ (tIt cs c k).length < 60 then tIt cs c k ++ [((k : Int), cs.getD k 0)] else tIt cs c k
def textOf (cs : List Int) (c : Int) : List (Int × Int) := if (tIt cs c cs.length).length = 0 then [(0, cs.getD 0 0)] else tIt cs c cs.length
theorem tIt_ok {cs : List Int} (hc : ∀ c ∈ cs, 0 ≤ c ∧ c < 4096) (h128 : cs.length ≤ 128) (c : Int) : ∀ k, k ≤ cs.length → okFrom 4096 0 (-1) (tIt cs c k) ∧ lastP (-1) (tIt cs c k) < (k : Int) ∧ (tIt cs c k).length ≤ 60
  | 0, _ => ⟨trivial, (by decide : (-1 : Int) < ((0 : Nat) : Int)), (by decide : 0 ≤ 60)⟩
  | k + 1, hk => by
    obtain ⟨h1, h2, h3⟩ := tIt_ok hc h128 c k (by omega)
    have hg : 0 ≤ cs.getD k 0 ∧ cs.getD k 0 < 4096 := by
      have hl : k < cs.length := by omega
      rw [List.getD_eq_getElem?_getD, List.getElem?_eq_getElem hl]
      exact hc _ (List.getElem_mem hl)
    unfold tIt
    split
    · refine ⟨okFrom_snoc (by show (k : Int) < 4096; omega) hg.1 hg.2 _ _ h1 h2, ?_, by rw [List.length_append]; show _ + 1 ≤ _; omega⟩
      rw [lastP_snoc]
      show (k : Int) < ((k + 1 : Nat) : Int)
      omega
    · exact ⟨h1, by omega, h3⟩
theorem textOf_ok {cs : List Int} (hc : ∀ c ∈ cs, 0 ≤ c ∧ c < 4096) (h16 : 16 ≤ cs.length) (h128 : cs.length ≤ 128) (c : Int) : okFrom 4096 0 (-1) (textOf cs c) ∧ 1 ≤ (textOf cs c).length ∧ (textOf cs c).length ≤ 60 := by
  obtain ⟨h1, _, h3⟩ := tIt_ok hc h128 c cs.length (Nat.le_refl _)
  unfold textOf
  split
  · have hg : 0 ≤ cs.getD 0 0 ∧ cs.getD 0 0 < 4096 := by
      have hl : 0 < cs.length := by omega
      rw [List.getD_eq_getElem?_getD, List.getElem?_eq_getElem hl]
      exact hc _ (List.getElem_mem hl)
    exact ⟨⟨(by decide : (-1 : Int) < 0), (by decide : (0 : Int) < 4096), hg.1, hg.2, trivial⟩, (by decide : 1 ≤ 1), (by decide : 1 ≤ 60)⟩
  · exact ⟨h1, by omega, h3⟩
def F_text (ds : List PyData) (d : PyData) : Prop := ∃ (cs : List Int) (c : Int), ds = [.list (cs.map PyData.int), .int c] ∧ 16 ≤ cs.length ∧ cs.length ≤ 128 ∧ d = .tuple ((textOf cs c).map pairD)
theorem tIt_len (cs : List Int) (c : Int) : ∀ k, (tIt cs c k).length ≤ 60
  | 0 => (by decide : 0 ≤ 60)
  | k + 1 => by
    have h := tIt_len cs c k
    unfold tIt
    split
    · rw [List.length_append]; show _ + 1 ≤ _; omega
    · exact h
theorem d_law_text (T : Txt K mg w.params) {f : Addr} {fd : FuncData} (F : Fun K "_law_text" "_law_text" s_law_text f fd) (hm : mg "_law_text" = some (.ref f)) : DFn P w K mg base 1 "_law_text" F_text := by
  refine F.data hm (F.binds fun _ _ _ _ _ _ us hl => match us, hl with | [_, _], _ => rfl) sc_law_text (fun ds d ⟨_, _, e, _⟩ => by rw [e]; rfl) fun cdv A outer s H E ds d hr ⟨cs, c, e, h16, h128, e2⟩ => ?_
  subst e e2
  have hlm : ((List.map PyData.int cs).length : Int) = cs.length := by rw [List.length_map]
  refine svs_own (i := 2) sc_law_text.nd rfl (Or.inl rfl) (by show 2 < 4; decide) fun H0 p => ?_
  refine hrs_cons (Mid := fun G ds => (∃ b, G = [some (.list (cs.map PyData.int)), some (.int c), none, b]) ∧ ds = (tIt cs c cs.length).map pairD) ?_ (hrs_cons (Mid := fun G ds => (∃ b, G = [some (.list (cs.map PyData.int)), some (.int c), none, b]) ∧ ds = (textOf cs c).map pairD) ?_ (hrs_out ?_))
  · refine ht_forR (j := 3) (lo := 0) (n := (cs.length : Int).toNat) (fun k G ds => (∃ b, G = [some (.list (cs.map PyData.int)), some (.int c), none, b]) ∧ ds = (tIt cs c k).map pairD) PassesOwn.never rfl (by decide) (pg_name (i := 3) sc_law_text.nd rfl (Or.inl rfl)) ?_ ?_ fun G ds h => h
    · rintro G ds ⟨rfl, rfl⟩
      exact ⟨⟨⟨_, rfl⟩, rfl⟩, pi_r1 (ev_eq (ev_callB2 "len" (av_cons (ev_var 0 (by rfl) (pv 0)) av_nil) (by walk_at "cd") rfl T.b_len (by decide +kernel)) (congrArg PyData.int hlm)) (by omega) (by omega) rfl T.b_range⟩
    · intro k hk
      have hkl : k < cs.length := by omega
      have hl60 := tIt_len cs c k
      refine hts_cons ?_ (hts_nil fun _ _ h => h)
      have e0 : (0 + (k : Int)).toNat = k := by omega
      by_cases hcnd : tcond c k = true ∧ (tIt cs c k).length < 60
      · have en : tIt cs c (k + 1) = tIt cs c k ++ [((k : Int), cs.getD k 0)] := by
          show (if tcond c k = true ∧ (tIt cs c k).length < 60 then _ else _) = _
          rw [if_pos hcnd]
        rw [en]
        refine ht_if (PreA := fun G ds => G = [some (.list (cs.map PyData.int)), some (.int c), none, some (.int (0 + (k : Int)))] ∧ ds = (tIt cs c k).map pairD) (PreB := fun _ _ => False) ?_ (hts_cons (ht_append ?_ (pv 2)) (hts_nil fun _ _ h => h)) (fun pins s σ H D I ⟨⟨_, _, f, _⟩, _⟩ => f.elim)
        · rintro G ds ⟨G', ⟨⟨b, rfl⟩, rfl⟩, rfl⟩
          refine .inl ⟨tv_w (wv_and (k := true) (k' := true) (tv_eq (tv_cmp (ev_bin (ev_bin (ev_bin (ev_var 1 (by rfl) (pv 1)) (ev_bin (ev_bin ev_int (ev_var 3 (by rfl) (pv 3)) (by walk_at "od")) (ev_var 3 (by rfl) (pv 3)) (by walk_at "od")) (by walk_at "od")) ev_int (by walk_at "od")) ev_int (by walk_at "od")) ev_int (by walk_at "od") (nomark _)) hcnd.1) (fun _ => wv_and1 (tv_eq (tv_cmp (ev_callB2 "len" (av_cons (ev_var 2 (by rfl) (pv 2)) av_nil) (by walk_at "cd") rfl T.b_len (by decide +kernel)) ev_int (by walk_at "od") (nomark _)) (by rw [List.length_map]; exact decide_eq_true (by omega))))), rfl, rfl⟩
        · rintro G ds ⟨rfl, rfl⟩
          refine ⟨pairD ((k : Int), cs.getD k 0), ev_eq (ev_tup (av_cons (ev_var 3 (by rfl) (pv 3)) (av_cons (ev_ixL (ev_var 0 (by rfl) (pv 0)) (ev_var 3 (by rfl) (pv 3)) (at_ints (by omega) (by omega))) av_nil)) (by walk_at "sz")) ?_, rfl, by rw [List.length_map, sizeLine_eq]; omega, ⟨_, rfl⟩, by rw [List.map_append]; rfl⟩
          rw [e0, Int.zero_add]
          rfl
      · have en : tIt cs c (k + 1) = tIt cs c k := by
          show (if tcond c k = true ∧ (tIt cs c k).length < 60 then _ else _) = _
          rw [if_neg hcnd]
        rw [en]
        refine ht_if (PreA := fun _ _ => False) (PreB := fun G ds => (∃ b, G = [some (.list (cs.map PyData.int)), some (.int c), none, b]) ∧ ds = (tIt cs c k).map pairD) ?_ (fun pins s σ H D I ⟨⟨_, _, f, _⟩, _⟩ => f.elim) (hts_nil fun _ _ h => h)
        rintro G ds ⟨G', ⟨⟨b, rfl⟩, rfl⟩, rfl⟩
        refine .inr ⟨?_, ⟨_, rfl⟩, rfl⟩
        cases ht : tcond c k with
        | true => exact tv_w (wv_and (k := true) (k' := false) (tv_eq (tv_cmp (ev_bin (ev_bin (ev_bin (ev_var 1 (by rfl) (pv 1)) (ev_bin (ev_bin ev_int (ev_var 3 (by rfl) (pv 3)) (by walk_at "od")) (ev_var 3 (by rfl) (pv 3)) (by walk_at "od")) (by walk_at "od")) ev_int (by walk_at "od")) ev_int (by walk_at "od")) ev_int (by walk_at "od") (nomark _)) ht) (fun _ => wv_and1 (tv_eq (tv_cmp (ev_callB2 "len" (av_cons (ev_var 2 (by rfl) (pv 2)) av_nil) (by walk_at "cd") rfl T.b_len (by decide +kernel)) ev_int (by walk_at "od") (nomark _)) (by rw [List.length_map]; exact decide_eq_false (fun z => hcnd ⟨ht, by omega⟩)))))
        | false => exact tv_w (wv_and (k := false) (k' := false) (tv_eq (tv_cmp (ev_bin (ev_bin (ev_bin (ev_var 1 (by rfl) (pv 1)) (ev_bin (ev_bin ev_int (ev_var 3 (by rfl) (pv 3)) (by walk_at "od")) (ev_var 3 (by rfl) (pv 3)) (by walk_at "od")) (by walk_at "od")) ev_int (by walk_at "od")) ev_int (by walk_at "od")) ev_int (by walk_at "od") (nomark _)) ht) (fun h => by cases h))
  · have hl60 := tIt_len cs c cs.length
    by_cases h0 : (tIt cs c cs.length).length = 0
    · have en : textOf cs c = [(0, cs.getD 0 0)] := by unfold textOf; rw [if_pos h0]
      have e0 : tIt cs c cs.length = [] := List.eq_nil_of_length_eq_zero h0
      rw [en, e0]
      refine ht_if (PreA := fun G ds => (∃ b, G = [some (.list (cs.map PyData.int)), some (.int c), none, b]) ∧ ds = []) (PreB := fun _ _ => False) ?_ (hts_cons (ht_append ?_ (pv 2)) (hts_nil fun _ _ h => h)) (fun pins s σ H D I ⟨⟨_, _, f, _⟩, _⟩ => f.elim)
      · rintro G ds ⟨⟨b, rfl⟩, rfl⟩
        exact .inl ⟨tv_eq (tv_cmp (ev_callB2 "len" (av_cons (ev_var 2 (by rfl) (pv 2)) av_nil) (by walk_at "cd") rfl T.b_len (by decide +kernel)) ev_int (by walk_at "od") (nomark _)) rfl, ⟨_, rfl⟩, rfl⟩
      · rintro G ds ⟨⟨b, rfl⟩, rfl⟩
        exact ⟨pairD (0, cs.getD 0 0), ev_eq (ev_tup (av_cons ev_int (av_cons (ev_ixL (ev_var 0 (by rfl) (pv 0)) ev_int (at_ints (by decide) (by omega))) av_nil)) (by walk_at "sz")) rfl, rfl, by rw [sizeLine_eq]; decide, ⟨_, rfl⟩, rfl⟩
    · have en : textOf cs c = tIt cs c cs.length := by unfold textOf; rw [if_neg h0]
      rw [en]
      refine ht_if (PreA := fun _ _ => False) (PreB := fun G ds => (∃ b, G = [some (.list (cs.map PyData.int)), some (.int c), none, b]) ∧ ds = (tIt cs c cs.length).map pairD) ?_ (fun pins s σ H D I ⟨⟨_, _, f, _⟩, _⟩ => f.elim) (hts_nil fun _ _ h => h)
      rintro G ds ⟨⟨b, rfl⟩, rfl⟩
      exact .inr ⟨tv_eq (tv_cmp (ev_callB2 "len" (av_cons (ev_var 2 (by rfl) (pv 2)) av_nil) (by walk_at "cd") rfl T.b_len (by decide +kernel)) ev_int (by walk_at "od") (nomark _)) (by rw [List.length_map]; exact beq_eq_false_iff_ne.mpr (by omega)), ⟨_, rfl⟩, rfl⟩
  · rintro G ds ⟨⟨b, rfl⟩, rfl⟩
    exact svs_ret (sv_ret (ev_callTy2 "tuple" (av_cons (ev_var 2 (by rfl) (pv 2)) av_nil) (by walk_at "cd") rfl T.b_tuple (by decide +kernel)))
end
section
variable {P : Program} {w : World} {K : PySem.W.Frag} {mg : Str → Option Value} {base : Heap}
def rowsN (ns : List Int) : Int := if (if (ns.length : Int) - 4 < 20 then (ns.length : Int) - 4 else 20) > 1 then (if (ns.length : Int) - 4 < 20 then (ns.length : Int) - 4 else 20) else 1
theorem rowsN_range (ns : List Int) : 1 ≤ rowsN ns ∧ rowsN ns ≤ 20 := by
  unfold rowsN
  repeat' split
  all_goals omega
def manyN (ns : List Int) : Nat := (rowsN ns).toNat
theorem manyN_range (ns : List Int) : 1 ≤ manyN ns ∧ manyN ns ≤ 20 := by
  have := rowsN_range ns
  unfold manyN
  omega
def rowsL (ns : List Int) : List PyData := (List.range (manyN ns)).map fun k => rowOf (cellN ns (4 + k))
def waysL (ns : List Int) : List PyData := (List.range (manyN ns + 1)).map fun k => wayOf (cellN ns (3 + k) / 31)
abbrev pieceL (st : Int) (ps : List (Int × Int)) (rows ways : List PyData) : List PyData := [.int st, .tuple (ps.map pairD), .tuple rows, .tuple ways]
def F_piece (ds : List PyData) (d : PyData) : Prop := ∃ (ns : List Int) (a b t : PyData) (cs : List Int) (pl : Int), ds = [.list (ns.map PyData.int), .list [a, .list (cs.map PyData.int), b, t, .int pl], .list (menuL.map PyData.str), .int 20] ∧ ns.length ≤ 63 ∧ 16 ≤ cs.length ∧ cs.length ≤ 128 ∧ d = .list (pieceL pl (textOf cs (cellN ns 2)) (rowsL ns) (waysL ns))
theorem d_law_piece (T : Txt K mg w.params) {f : Addr} {fd : FuncData} (D_law_cell : DFn P w K mg base 1 "_law_cell" F_cell) (D_law_row : DFn P w K mg base 3 "_law_row" F_row) (D_law_way : DFn P w K mg base 2 "_law_way" F_way) (D_law_text : DFn P w K mg base 1 "_law_text" F_text) (F : Fun K "_law_piece" "_law_piece" s_law_piece f fd) (hm : mg "_law_piece" = some (.ref f)) : DFn P w K mg base 4 "_law_piece" F_piece := by
  refine F.data hm (F.binds fun _ _ _ _ _ _ us hl => match us, hl with | [_, _, _, _], _ => rfl) sc_law_piece (fun ds d ⟨_, _, _, _, _, _, e, _⟩ => by rw [e]; rfl) fun cdv A outer s H E ds d hr ⟨ns, a, b, t, cs, pl, e, hns, h16, h128, e2⟩ => ?_
  subst e e2
  have hlm : ((List.map PyData.int ns).length : Int) = ns.length := by rw [List.length_map]
  have hmr := rowsN_range ns
  have hmn := manyN_range ns
  have em : ((manyN ns : Nat) : Int) = rowsN ns := by unfold manyN; omega
  have hrl : (rowsL ns).length = manyN ns := by unfold rowsL; rw [List.length_map, List.length_range]
  refine svs_cons (sv_set (i := 4) (d := .tuple (rowsL ns)) sc_law_piece.nd rfl (Or.inl rfl) (ev_eq (ev_callTy2 "tuple" (av_cons (ev_comp (ix := [0, 2]) (N := ["k", "script", "menu"]) (B := bind1) (as := List.range ((4 + rowsN ns) - 4).toNat) (D := fun (i : Nat) => PyData.int (4 + (i : Int))) (fun _ => true) (fun (k : Nat) => rowOf (cellN ns (4 + k))) rfl (of_decide_eq_true (by kernel_rfl)) (own_name (by decide))
    (iv_range2 ev_int (ev_eq (ev_bin ev_int (ev_callB2 "max" (av_cons ev_int (av_cons (ev_callB2 "min" (av_cons (ev_var 3 (by rfl) (pv 3)) (av_cons (ev_bin (ev_callB2 "len" (av_cons (ev_var 0 (by rfl) (pv 0)) av_nil) (by walk_at "cd") rfl T.b_len (by decide +kernel)) ev_int (by walk_at "od")) av_nil)) (by walk_at "cd") rfl T.b_min (by decide +kernel)) av_nil)) (by walk_at "cd") rfl T.b_max (by decide +kernel)) (by walk_at "od")) (by rw [hlm]; rfl)) ⟨by decide, by decide, by omega, by omega⟩ rfl T.b_range) (by rw [List.length_range, sizeLine_eq]; omega) (fun _ _ => bindD1 _) (fun _ _ _ _ _ => pg_name (i := 0) (show List.Nodup (["k", "script", "menu"] : List Str) by decide +kernel) rfl (Or.inl rfl)) (fun a ha cl C s H fp => pf_D0) ?el) av_nil) cd_tupleL rfl T.b_tuple (by decide +kernel)) ?eq)) ?_
  case el =>
    intro k hk hP cl C s H fp
    have hk' : k < 20 := by have := List.mem_range.mp hk; omega
    exact ev_call D_law_row (by walk_at "rm") rfl (av_cons (ev_call D_law_cell (by walk_at "rm") rfl (av_cons (ev_var 1 (by rfl) (pv 1)) (av_cons (ev_var 0 (by rfl) (pv 0)) av_nil)) ⟨ns, 4 + k, by rw [show (4 : Int) + (k : Int) = ((4 + k : Nat) : Int) by omega], hns, by omega, rfl⟩) (av_cons (ev_var 2 (by rfl) (pv 2)) av_nil)) ⟨_, rfl, rfl⟩
  case eq =>
    rw [filter_true, show ((4 + rowsN ns) - 4).toNat = manyN ns by omega]
    rfl
  refine svs_cons (sv_set (i := 5) (d := .tuple (waysL ns)) sc_law_piece.nd rfl (Or.inl rfl) (ev_eq (ev_callTy2 "tuple" (av_cons (ev_comp (ix := [0]) (N := ["k", "script"]) (B := bind1) (as := List.range (((manyN ns : Nat) : Int) + 1).toNat) (D := fun (i : Nat) => PyData.int (0 + (i : Int))) (fun _ => true) (fun (k : Nat) => wayOf (cellN ns (3 + k) / 31)) rfl (of_decide_eq_true (by kernel_rfl)) (own_name (by decide))
    (iv_range1 (ev_eq (ev_bin (ev_callB2 "len" (av_cons (ev_var 4 (by rfl) (pv 4)) av_nil) (by walk_at "cd") rfl T.b_len (by decide +kernel)) ev_int (by walk_at "od")) (by rw [hrl])) (by omega) (by omega) rfl T.b_range) (by rw [List.length_range, sizeLine_eq]; omega) (fun _ _ => bindD1 _) (fun _ _ _ _ _ => pg_name (i := 0) (show List.Nodup (["k", "script"] : List Str) by decide +kernel) rfl (Or.inl rfl)) (fun a ha cl C s H fp => pf_D0) ?el2) av_nil) cd_tupleL rfl T.b_tuple (by decide +kernel)) ?eq2)) ?_
  case el2 =>
    intro k hk hP cl C s H fp
    have hk' : k < 21 := by have := List.mem_range.mp hk; omega
    exact ev_call D_law_way (by walk_at "rm") rfl (av_cons (ev_bin (ev_call D_law_cell (by walk_at "rm") rfl (av_cons (ev_var 1 (by rfl) (pv 1)) (av_cons (ev_bin ev_int (ev_var 0 (by rfl) (pv 0)) (by walk_at "od")) av_nil)) ⟨ns, 3 + k, by rw [show (3 : Int) + (0 + (k : Int)) = ((3 + k : Nat) : Int) by omega], hns, by omega, rfl⟩) ev_int (od_fdiv ⟨by decide, by decide⟩)) av_nil) ⟨_, rfl, rfl⟩
  case eq2 =>
    rw [filter_true, show (((manyN ns : Nat) : Int) + 1).toNat = manyN ns + 1 by omega]
    rfl
  exact svs_ret (sv_ret (ev_lst (av_cons (ev_ixL (ev_var 1 (by rfl) (pv 1)) ev_int (atI_of (by decide) rfl)) (av_cons (ev_call D_law_text (by walk_at "rm") rfl (av_cons (ev_ixL (ev_var 1 (by rfl) (pv 1)) ev_int (atI_of (by decide) rfl)) (av_cons (ev_call D_law_cell (by walk_at "rm") rfl (av_cons (ev_var 0 (by rfl) (pv 0)) (av_cons ev_int av_nil)) ⟨ns, 2, rfl, hns, by decide, rfl⟩) av_nil)) ⟨cs, _, rfl, h16, h128, rfl⟩) (av_cons (ev_var 4 (by rfl) (pv 4)) (av_cons (ev_var 5 (by rfl) (pv 5)) av_nil)))) (by walk_at "sz")))
end
section
variable {P : Program} {w : World} {K : PySem.W.Frag} {mg : Str → Option Value} {base : Heap}
local macro_rules | `(tactic| walk_at "rt") => `(tactic| repeat' (first | with_reducible exact ev_int | with_reducible exact ev_neg ev_int | with_reducible exact ev_str | with_reducible exact ev_bl | with_reducible exact av_nil | with_reducible refine av_cons ?_ ?_ star_constant | with_reducible refine av_cons ?_ ?_ star_tuple | with_reducible refine av_cons ?_ ?_ star_name | with_reducible refine av_cons ?_ ?_ star_subscript | with_reducible refine av_cons ?_ ?_ star_compare | with_reducible refine av_cons ?_ ?_ star_call | with_reducible refine av_cons ?_ ?_ star_binop | with_reducible refine av_cons ?_ ?_ star_unaryop | with_reducible refine ev_tup ?_ ?_ | with_reducible refine ev_lst ?_ ?_ | (rw [sizeLine_eq]; decide) | (rw [sizeLine_eq]; simp; done)))
def F_other (ds : List PyData) (d : PyData) : Prop := ∃ (l : List PyData) (i : Nat) (x : PyData), ds = [.tuple l, .int (i : Int), x] ∧ i < l.length ∧ noLs l = true ∧ noL x = true ∧ d = .tuple (l.set i x)
theorem d_law_other (T : Txt K mg w.params) (bl : mg "list" = none) {f : Addr} {fd : FuncData} (F : Fun K "_law_other" "_law_other" s_law_other f fd) (hm : mg "_law_other" = some (.ref f)) : DFn P w K mg base 1 "_law_other" F_other := by
  refine F.data hm (F.binds fun _ _ _ _ _ _ us hl => match us, hl with | [_, _, _], _ => rfl) sc_law_other (fun ds d ⟨_, _, _, e, _⟩ => by rw [e]; rfl) fun cdv A outer s H E ds d hr ⟨l, i, x, e, hi, hl, hx, e2⟩ => ?_
  subst e e2
  refine svs_freshR (i := 3) sc_law_other.nd rfl (Or.inl rfl) (by show 3 < 4; decide) (evf_listT (ev_var 0 (by rfl) (pv 0)) rfl bl) hl fun H0 p => ?_
  refine hrs_cons (ht_put (k := 0) (Post := fun G0 ds0 => G0 = ([some (.tuple l), some (.int (i : Int)), some x, none] : Gam) ∧ ds0 = l.set i x) (pv 3) fun G0 ds0 ⟨e1, e2⟩ => by
    subst e1 e2
    exact ⟨x, (i : Int), (ev_var 2 (by rfl) (pv 2)), hx, (ev_var 1 (by rfl) (pv 1)), by omega, by omega, rfl, by rw [Int.toNat_natCast]⟩) (hrs_out ?_)
  rintro G ds ⟨rfl, rfl⟩
  exact svs_ret (sv_ret (ev_callTy2 "tuple" (av_cons (ev_var 3 (by rfl) (pv 3)) av_nil star_name) (by walk_at "cd") rfl T.b_tuple (by decide +kernel)))
def badRc (r : Rc) (c : Int) : Nat → Rc
  | 0 => (-1 - c % 9, r.2)
  | 1 => (4096 + c % 10 ^ 9, r.2)
  | 2 => (r.1, [(12, 1)])
  | 3 => (0, [(-1, 1)])
  | 4 => (0, [(3, 0)])
  | 5 => (0, [(3, 4096)])
  | 6 => (0, [(3, 1), (3, 1)])
  | 7 => (0, [(5, 1), (2, 7)])
  | _ => (1, [(0, -1)])
theorem below_neg {i b : Int} (h : i < 0) : belowB (.int i) b = false := by
  show (decide (0 ≤ i) && decide (i < b)) = false
  rw [decide_eq_false (by omega)]; rfl
theorem below_big {i b : Int} (h : b ≤ i) : belowB (.int i) b = false := by
  show (decide (0 ≤ i) && decide (i < b)) = false
  rw [decide_eq_false (show ¬ i < b by omega), Bool.and_false]
theorem badRc_B (r : Rc) (c : Int) (m : Nat) : rcB (badRc r c m) = false := by
  unfold rcB
  match m with
  | 0 => rw [show belowB (.int (badRc r c 0).1) 4096 = false from below_neg (by show -1 - c % 9 < 0; omega)]; rfl
  | 1 => rw [show belowB (.int (badRc r c 1).1) 4096 = false from below_big (by show 4096 ≤ 4096 + c % 10 ^ 9; omega)]; rfl
  | 2 => rw [show pairsB 12 1 (-1) (badRc r c 2).2 = false from (by decide +kernel : pairsB 12 1 (-1) [(12, 1)] = false), Bool.and_false]
  | 3 => rw [show pairsB 12 1 (-1) (badRc r c 3).2 = false from (by decide +kernel : pairsB 12 1 (-1) [(-1, 1)] = false), Bool.and_false]
  | 4 => rw [show pairsB 12 1 (-1) (badRc r c 4).2 = false from (by decide +kernel : pairsB 12 1 (-1) [(3, 0)] = false), Bool.and_false]
  | 5 => rw [show pairsB 12 1 (-1) (badRc r c 5).2 = false from (by decide +kernel : pairsB 12 1 (-1) [(3, 4096)] = false), Bool.and_false]
  | 6 => rw [show pairsB 12 1 (-1) (badRc r c 6).2 = false from (by decide +kernel : pairsB 12 1 (-1) [(3, 1), (3, 1)] = false), Bool.and_false]
  | 7 => rw [show pairsB 12 1 (-1) (badRc r c 7).2 = false from (by decide +kernel : pairsB 12 1 (-1) [(5, 1), (2, 7)] = false), Bool.and_false]
  | n + 8 => rw [show pairsB 12 1 (-1) (badRc r c (n + 8)).2 = false from (by decide +kernel : pairsB 12 1 (-1) [(0, -1)] = false), Bool.and_false]
def badL1 (r : Rc) (c : Int) : List PyData := [.tuple [.int (-1 - c % 9), .tuple (r.2.map pairD)], .tuple [.int (4096 + c % 10 ^ 9), .tuple (r.2.map pairD)], .tuple [.int r.1, .tuple [.tuple [.int 12, .int 1]]], .tuple [.int 0, .tuple [.tuple [.int (-1), .int 1]]]]
def badL2 : List PyData := [.tuple [.int 0, .tuple [.tuple [.int 3, .int 0]]], .tuple [.int 0, .tuple [.tuple [.int 3, .int 4096]]], .tuple [.int 0, .tuple [.tuple [.int 3, .int 1], .tuple [.int 3, .int 1]]], .tuple [.int 0, .tuple [.tuple [.int 5, .int 1], .tuple [.int 2, .int 7]]], .tuple [.int 1, .tuple [.tuple [.int 0, .int (-1)]]]]
theorem badL_get (r : Rc) (c : Int) (m : Nat) (h : m < 9) : (badL1 r c ++ badL2)[m]? = some (badRc r c m).D := by
  match m, h with
  | 0, _ => rfl
  | 1, _ => rfl
  | 2, _ => rfl
  | 3, _ => rfl
  | 4, _ => rfl
  | 5, _ => rfl
  | 6, _ => rfl
  | 7, _ => rfl
  | 8, _ => rfl
  | n + 9, h => omega
def F_bad_rec (ds : List PyData) (d : PyData) : Prop := ∃ (r : Rc) (c : Int), ds = [r.D, .int c] ∧ d = (badRc r c (c / 9 % 9).toNat).D
theorem d_law_bad_recipe (T : Txt K mg w.params) {f : Addr} {fd : FuncData} (F : Fun K "_law_bad_recipe" "_law_bad_recipe" s_law_bad_recipe f fd) (hm : mg "_law_bad_recipe" = some (.ref f)) : DFn P w K mg base 1 "_law_bad_recipe" F_bad_rec := by
  refine F.data hm (F.binds fun _ _ _ _ _ _ us hl => match us, hl with | [_, _], _ => rfl) sc_law_bad_recipe (fun ds d ⟨_, _, e, _⟩ => by rw [e]; rfl) fun cdv A outer s H E ds d hr ⟨r, c, e, e2⟩ => ?_
  subst e e2
  have hz1 : (badL1 r c).length + badL2.length ≤ sizeLine := by rw [sizeLine_eq]; exact (by decide : 4 + 5 ≤ 16777216)
  show SVs _ [some (.tuple [.int r.1, .tuple (r.2.map pairD)]), some (.int c), none] _ _
  refine svs_setR (i := 2) (R := fun z => z = .list (badL1 r c)) ?a1 ?a2 ?a3 ?a4 ?a5 (hs := ?a6) (hf := ?a7)
  case a1 => exact sc_law_bad_recipe.nd
  case a2 => exact rfl
  case a3 => first | exact Or.inl rfl | exact Or.inr rfl
  case a6 => exact rfl
  case a7 => first | exact .inl rfl | exact .inr rfl
  case a4 =>
    with_reducible refine evr_of (d := .list [.tuple [.int (-1 - c % 9), .tuple (r.2.map pairD)], .tuple [.int (4096 + c % 10 ^ 9), .tuple (r.2.map pairD)], .tuple [.int r.1, .tuple [.tuple [.int 12, .int 1]]], .tuple [.int 0, .tuple [.tuple [.int (-1), .int 1]]]]) ?_ ?_
    · walk_at "rt"
      · exact (ev_bin (ev_neg ev_int) (ev_bin (ev_var 1 (by rfl) (pv 1)) ev_int (by walk_at "od")) (by walk_at "od"))
      · exact ev_ixT (ds := [.int r.1, .tuple (r.2.map pairD)]) (ev_var 0 (by rfl) (pv 0)) ev_int (atI_of (by decide) rfl)
      · exact (ev_bin ev_int (ev_bin (ev_var 1 (by rfl) (pv 1)) (ev_bin ev_int ev_int (by walk_at "od")) (by walk_at "od")) (by walk_at "od"))
      · exact ev_ixT (ds := [.int r.1, .tuple (r.2.map pairD)]) (ev_var 0 (by rfl) (pv 0)) ev_int (atI_of (by decide) rfl)
      · exact ev_ixT (ds := [.int r.1, .tuple (r.2.map pairD)]) (ev_var 0 (by rfl) (pv 0)) ev_int (atI_of (by decide) rfl)
    · exact rfl
  intro d1 hd1
  subst hd1
  refine svs_setR (i := 2) (R := fun z => z = .list (badL1 r c ++ badL2)) ?b1 ?b2 ?b3 ?b4 ?b5 (hs := ?b6) (hf := ?b7)
  case b1 => exact sc_law_bad_recipe.nd
  case b2 => exact rfl
  case b3 => first | exact Or.inl rfl | exact Or.inr rfl
  case b6 => exact rfl
  case b7 => first | exact .inl rfl | exact .inr rfl
  case b4 =>
    with_reducible refine evr_of (d := .list (badL1 r c ++ badL2)) ?_ ?_
    · with_reducible refine ev_bin (da := .list (badL1 r c)) (db := .list badL2) ?_ ?_ (od_catL hz1)
      · exact (ev_var 2 (by rfl) (pv 2))
      · show EV _ _ _ (.list [.tuple [.int 0, .tuple [.tuple [.int 3, .int 0]]], .tuple [.int 0, .tuple [.tuple [.int 3, .int 4096]]], .tuple [.int 0, .tuple [.tuple [.int 3, .int 1], .tuple [.int 3, .int 1]]], .tuple [.int 0, .tuple [.tuple [.int 5, .int 1], .tuple [.int 2, .int 7]]], .tuple [.int 1, .tuple [.tuple [.int 0, .int (-1)]]]])
        walk_at "rt"
    · exact rfl
  intro d2 hd2
  subst hd2
  exact svs_ret (sv_ret (ev_ixL (ev_var 2 (by rfl) (pv 2)) (ev_bin (ev_bin (ev_var 1 (by rfl) (pv 1)) ev_int (by walk_at "od")) ev_int (by walk_at "od")) (atI_of (by omega) (badL_get r c _ (by omega)))))
def badTr : Nat → Tr
  | 0 => ⟨true, 0, 1, 0⟩
  | 1 => ⟨false, 0, 0, 3⟩
  | 2 => ⟨true, 1, 3, 1⟩
  | 3 => ⟨true, 1, 12, 0⟩
  | 4 => ⟨false, 2, -1, 0⟩
  | 5 => ⟨false, 2, 0, 12⟩
  | 6 => ⟨true, 3, 12, 1⟩
  | _ => ⟨true, 4, 0, 0⟩
theorem badTr_B (m : Nat) : trB (badTr m) = false ∧ (badTr m).j < 5 := by
  match m with
  | 0 => decide +kernel
  | 1 => decide +kernel
  | 2 => decide +kernel
  | 3 => decide +kernel
  | 4 => decide +kernel
  | 5 => decide +kernel
  | 6 => decide +kernel
  | n + 7 => exact (by decide +kernel : trB ⟨true, 4, 0, 0⟩ = false ∧ 4 < 5)
def badT1 : List PyData := [.tuple [.bool true, .str "known", .int 1, .int 0], .tuple [.bool false, .str "known", .int 0, .int 3], .tuple [.bool true, .str "truth", .int 3, .int 1], .tuple [.bool true, .str "truth", .int 12, .int 0]]
def badT2 : List PyData := [.tuple [.bool false, .str "same", .int (-1), .int 0], .tuple [.bool false, .str "same", .int 0, .int 12], .tuple [.bool true, .str "less", .int 12, .int 1], .tuple [.bool true, .str "more", .int 0, .int 0]]
theorem badT_get (m : Nat) (h : m < 8) : (badT1 ++ badT2)[m]? = some (badTr m).D := by
  match m, h with
  | 0, _ => rfl
  | 1, _ => rfl
  | 2, _ => rfl
  | 3, _ => rfl
  | 4, _ => rfl
  | 5, _ => rfl
  | 6, _ => rfl
  | 7, _ => rfl
  | n + 8, h => omega
def F_bad_tru (ds : List PyData) (d : PyData) : Prop := ∃ c : Int, ds = [.int c] ∧ d = (badTr (c % 8).toNat).D
theorem d_law_bad_truth (T : Txt K mg w.params) {f : Addr} {fd : FuncData} (F : Fun K "_law_bad_truth" "_law_bad_truth" s_law_bad_truth f fd) (hm : mg "_law_bad_truth" = some (.ref f)) : DFn P w K mg base 1 "_law_bad_truth" F_bad_tru := by
  refine F.data hm (F.binds fun _ _ _ _ _ _ us hl => match us, hl with | [_], _ => rfl) sc_law_bad_truth (fun ds d ⟨_, e, _⟩ => by rw [e]; rfl) fun cdv A outer s H E ds d hr ⟨c, e, e2⟩ => ?_
  subst e e2
  have hz1 : badT1.length + badT2.length ≤ sizeLine := by rw [sizeLine_eq]; exact (by decide : 4 + 4 ≤ 16777216)
  refine svs_setR (i := 1) (R := fun z => z = .list badT1) ?a1 ?a2 ?a3 ?a4 ?a5 (hs := ?a6) (hf := ?a7)
  case a1 => exact sc_law_bad_truth.nd
  case a2 => exact rfl
  case a3 => first | exact Or.inl rfl | exact Or.inr rfl
  case a6 => exact rfl
  case a7 => first | exact .inl rfl | exact .inr rfl
  case a4 =>
    with_reducible refine evr_of (d := .list [.tuple [.bool true, .str "known", .int 1, .int 0], .tuple [.bool false, .str "known", .int 0, .int 3], .tuple [.bool true, .str "truth", .int 3, .int 1], .tuple [.bool true, .str "truth", .int 12, .int 0]]) ?_ ?_
    · walk_at "rt"
    · exact rfl
  intro d1 hd1
  subst hd1
  refine svs_setR (i := 1) (R := fun z => z = .list (badT1 ++ badT2)) ?b1 ?b2 ?b3 ?b4 ?b5 (hs := ?b6) (hf := ?b7)
  case b1 => exact sc_law_bad_truth.nd
  case b2 => exact rfl
  case b3 => first | exact Or.inl rfl | exact Or.inr rfl
  case b6 => exact rfl
  case b7 => first | exact .inl rfl | exact .inr rfl
  case b4 =>
    with_reducible refine evr_of (d := .list (badT1 ++ badT2)) ?_ ?_
    · with_reducible refine ev_bin (da := .list badT1) (db := .list badT2) ?_ ?_ (od_catL hz1)
      · exact (ev_var 1 (by rfl) (pv 1))
      · show EV _ _ _ (.list [.tuple [.bool false, .str "same", .int (-1), .int 0], .tuple [.bool false, .str "same", .int 0, .int 12], .tuple [.bool true, .str "less", .int 12, .int 1], .tuple [.bool true, .str "more", .int 0, .int 0]])
        walk_at "rt"
    · exact rfl
  intro d2 hd2
  subst hd2
  exact svs_ret (sv_ret (ev_ixL (ev_var 1 (by rfl) (pv 1)) (ev_bin (ev_var 0 (by rfl) (pv 0)) ev_int (by walk_at "od")) (atI_of (by omega) (badT_get _ (by omega)))))
end
section
variable {P : Program} {w : World} {K : PySem.W.Frag} {mg : Str → Option Value} {base : Heap}
local macro_rules | `(tactic| walk_at "rt") => `(tactic| repeat' (first | with_reducible exact ev_int | with_reducible exact ev_neg ev_int | with_reducible exact ev_str | with_reducible exact ev_bl | with_reducible exact av_nil | with_reducible refine av_cons ?_ ?_ star_constant | with_reducible refine av_cons ?_ ?_ star_tuple | with_reducible refine av_cons ?_ ?_ star_name | with_reducible refine av_cons ?_ ?_ star_subscript | with_reducible refine av_cons ?_ ?_ star_compare | with_reducible refine av_cons ?_ ?_ star_call | with_reducible refine av_cons ?_ ?_ star_binop | with_reducible refine av_cons ?_ ?_ star_unaryop | with_reducible refine ev_tup ?_ ?_ | with_reducible refine ev_lst ?_ ?_ | (rw [sizeLine_eq]; decide) | (rw [sizeLine_eq]; simp; done)))
def badDn (c : Int) : Int := [-1 - c % 9, 100 + c % 9].getD (c / 9 % 2).toNat 0
def badWy (y : Wy) (c : Int) : Nat → Wy
  | 0 => { y with dn := badDn c }
  | 1 => { y with bs := y.bs.set (c % 4).toNat (badRc (y.bs.getD (c % 4).toNat (0, [])) (c / 4) (c / 4 / 9 % 9).toNat) }
  | 2 => if c % 2 = 0 then { y with t1 := badTr (c / 2 % 8).toNat } else { y with t2 := badTr (c / 2 % 8).toNat }
  | _ => { y with pl := badRc y.pl c (c / 9 % 9).toNat }
theorem badDn_B (c : Int) : belowB (.int (badDn c)) 100 = false := by
  unfold badDn
  have h : c / 9 % 2 = 0 ∨ c / 9 % 2 = 1 := by omega
  rcases h with h | h <;> rw [h]
  · exact below_neg (by show -1 - c % 9 < 0; omega)
  · exact below_big (by show 100 ≤ 100 + c % 9; omega)
theorem all_false {α : Type} {g : α → Bool} {l : List α} {x : α} (hx : x ∈ l) (h : g x = false) : (l.map g).all (fun z => z) = false := by
  cases z : (l.map g).all (fun z => z) with
  | false => rfl
  | true =>
    have := List.all_eq_true.mp z (g x) (List.mem_map.mpr ⟨x, hx, rfl⟩)
    rw [h] at this; cases this
theorem badWy_B {y : Wy} (h : y.Sh) (c : Int) (m : Nat) : wyB (badWy y c m) = false ∧ (badWy y c m).Sh := by
  match m with
  | 0 => exact ⟨by show (belowB (.int (badDn c)) 100 && _) = false; rw [badDn_B]; rfl, ⟨h.b4, h.j1, h.j2⟩⟩
  | 1 =>
    have hl : (c % 4).toNat < y.bs.length := by rw [h.b4]; omega
    refine ⟨?_, ⟨by show (y.bs.set _ _).length = 4; rw [List.length_set]; exact h.b4, h.j1, h.j2⟩⟩
    show (belowB (.int y.dn) 100 && ((((y.bs.set (c % 4).toNat (badRc (y.bs.getD (c % 4).toNat (0, [])) (c / 4) (c / 4 / 9 % 9).toNat)) ++ [y.pl]).map rcB).all (fun z => z) && _)) = false
    rw [all_false (x := badRc (y.bs.getD (c % 4).toNat (0, [])) (c / 4) (c / 4 / 9 % 9).toNat) (List.mem_append_left _ (List.mem_set hl _)) (badRc_B _ _ _), Bool.false_and, Bool.and_false]
  | 2 =>
    by_cases hc : c % 2 = 0
    · have e : badWy y c 2 = { y with t1 := badTr (c / 2 % 8).toNat } := if_pos hc
      rw [e]
      refine ⟨?_, ⟨h.b4, (badTr_B _).2, h.j2⟩⟩
      show (belowB (.int y.dn) 100 && (_ && [trB (badTr (c / 2 % 8).toNat), trB y.t2].all (fun z => z))) = false
      rw [(badTr_B _).1]
      show (belowB (.int y.dn) 100 && (_ && false)) = false
      rw [Bool.and_false, Bool.and_false]
    · have e : badWy y c 2 = { y with t2 := badTr (c / 2 % 8).toNat } := if_neg hc
      rw [e]
      refine ⟨?_, ⟨h.b4, h.j1, (badTr_B _).2⟩⟩
      show (belowB (.int y.dn) 100 && (_ && [trB y.t1, trB (badTr (c / 2 % 8).toNat)].all (fun z => z))) = false
      rw [(badTr_B _).1]
      rw [show [trB y.t1, false].all (fun z => z) = false from by cases trB y.t1 <;> rfl, Bool.and_false, Bool.and_false]
  | n + 3 =>
    refine ⟨?_, ⟨h.b4, h.j1, h.j2⟩⟩
    show (belowB (.int y.dn) 100 && (((y.bs ++ [badRc y.pl c (c / 9 % 9).toNat]).map rcB).all (fun z => z) && _)) = false
    rw [all_false (x := badRc y.pl c (c / 9 % 9).toNat) (List.mem_append_right _ List.mem_cons_self) (badRc_B _ _ _), Bool.false_and, Bool.and_false]
theorem noLs_map {α : Type} {f : α → PyData} (h : ∀ x, noL (f x) = true) : ∀ l : List α, noLs (l.map f) = true
  | [] => rfl
  | x :: l => by rw [List.map_cons]; unfold noLs; rw [h x, noLs_map h l]; rfl
theorem noL_rc (r : Rc) : noL r.D = true := noL_rec _ _
theorem noL_tr (r : Tr) : noL r.D = true := rfl
theorem noL_wy (y : Wy) : noL y.D = true := by
  show (true && (noLs (y.bs.map Rc.D) && (true && (noL y.pl.D && true)))) = true
  rw [noLs_map noL_rc, noL_rc]; rfl
theorem noL_ints : ∀ l : List Int, noLs (l.map PyData.int) = true := noLs_map fun _ => rfl
theorem noL_rw (r : Rw) : noL r.D = true := by
  cases r with
  | tst j s t g y => show (true && (true && (true && (true && (true && (noL y.D && true)))))) = true; rw [noL_wy]; rfl
  | mk q nums => show (true && noLs (nums.map PyData.int)) = true; rw [noL_ints]; rfl
  | non nums => show (true && noLs (nums.map PyData.int)) = true; rw [noL_ints]; rfl
theorem map_set' {α β : Type} (f : α → β) (l : List α) (i : Nat) (x : α) : (l.map f).set i (f x) = (l.set i x).map f := (List.map_set).symm
def F_bad_way (ds : List PyData) (d : PyData) : Prop := ∃ (y : Wy) (c : Int), y.Sh ∧ ds = [y.D, .int c] ∧ d = (badWy y (c / 4) (c % 4).toNat).D
theorem d_law_bad_way (T : Txt K mg w.params) {f : Addr} {fd : FuncData} (D_other : DFn P w K mg base 1 "_law_other" F_other) (D_bad_recipe : DFn P w K mg base 1 "_law_bad_recipe" F_bad_rec) (D_bad_truth : DFn P w K mg base 1 "_law_bad_truth" F_bad_tru) (F : Fun K "_law_bad_way" "_law_bad_way" s_law_bad_way f fd) (hm : mg "_law_bad_way" = some (.ref f)) : DFn P w K mg base 2 "_law_bad_way" F_bad_way := by
  refine F.data hm (F.binds fun _ _ _ _ _ _ us hl => match us, hl with | [_, _], _ => rfl) sc_law_bad_way (fun ds d ⟨_, _, _, e, _⟩ => by rw [e]; rfl) fun cdv A outer s H E ds d hr ⟨⟨dn, bs, t1, t2, pl⟩, c, hsh, e, e2⟩ => ?_
  subst e e2
  have b4 : bs.length = 4 := hsh.b4
  have hbl : (bs.map Rc.D).length = 4 := by rw [List.length_map]; exact b4
  show SVs _ [some (.tuple [.int dn, .tuple (bs.map Rc.D), .tuple [t1.D, t2.D], pl.D]), some (.int c), none, none] _ _
  obtain ⟨k, hk, hk4⟩ : ∃ k : Nat, c % 4 = (k : Int) ∧ k < 4 := ⟨(c % 4).toNat, by omega, by omega⟩
  rw [hk, Int.toNat_natCast]
  refine svs_cons (sv_set (i := 2) (d := .int (k : Int)) sc_law_bad_way.nd rfl (Or.inl rfl) (ev_eq (ev_bin (ev_var 1 (by rfl) (pv 1)) ev_int (by walk_at "od")) (congrArg PyData.int hk))) ?_
  refine svs_cons (sv_set (i := 1) (d := .int (c / 4)) sc_law_bad_way.nd rfl (Or.inl rfl) (ev_eq (ev_bin (ev_var 1 (by rfl) (pv 1)) ev_int (by walk_at "od")) rfl)) ?_
  generalize c / 4 = c'
  rcases kinds4 hk4 with rfl | rfl | rfl | rfl
  · exact svs_guard (k := true) (tv_eq (tv_cmp (ev_var 2 (by rfl) (pv 2)) ev_int (by walk_at "od") (nomark _)) rfl) (fun _ => ⟨_, rfl, svs_ret (sv_ret (ev_tup (av_cons (ev_ixL (ev_lst (av_cons (ev_bin (ev_neg ev_int) (ev_bin (ev_var 1 (by rfl) (pv 1)) ev_int (by walk_at "od")) (by walk_at "od")) (av_cons (ev_bin ev_int (ev_bin (ev_var 1 (by rfl) (pv 1)) ev_int (by walk_at "od")) (by walk_at "od")) av_nil star_binop) star_binop) (by walk_at "sz")) (ev_bin (ev_bin (ev_var 1 (by rfl) (pv 1)) ev_int (by walk_at "od")) ev_int (by walk_at "od")) (at_ints (zs := [-1 - c' % 9, 100 + c' % 9]) (by omega) (show c' / 9 % 2 < (2 : Int) by omega))) (av_cons (ev_ixT (ds := [.int dn, .tuple (bs.map Rc.D), .tuple [t1.D, t2.D], pl.D]) (ev_var 0 (by rfl) (pv 0)) ev_int (atI_of (by decide) rfl)) (av_cons (ev_ixT (ds := [.int dn, .tuple (bs.map Rc.D), .tuple [t1.D, t2.D], pl.D]) (ev_var 0 (by rfl) (pv 0)) ev_int (atI_of (by decide) rfl)) (av_cons (ev_ixT (ds := [.int dn, .tuple (bs.map Rc.D), .tuple [t1.D, t2.D], pl.D]) (ev_var 0 (by rfl) (pv 0)) ev_int (atI_of (by decide) rfl)) av_nil)))) (by walk_at "sz")))⟩) (fun h => by cases h)
  · refine svs_guard (k := false) (tv_eq (tv_cmp (ev_var 2 (by rfl) (pv 2)) ev_int (by walk_at "od") (nomark _)) rfl) (fun h => by cases h) fun _ => ?_
    refine svs_guard (k := true) (tv_eq (tv_cmp (ev_var 2 (by rfl) (pv 2)) ev_int (by walk_at "od") (nomark _)) rfl) (fun _ => ⟨_, rfl, ?_⟩) (fun h => by cases h)
    obtain ⟨a, ha, ha4⟩ : ∃ a : Nat, c' % 4 = (a : Int) ∧ a < 4 := ⟨(c' % 4).toNat, by omega, by omega⟩
    refine svs_cons (sv_set (i := 3) (d := .int (a : Int)) sc_law_bad_way.nd rfl (Or.inl rfl) (ev_eq (ev_bin (ev_var 1 (by rfl) (pv 1)) ev_int (by walk_at "od")) (congrArg PyData.int ha))) ?_
    have hg : bs[a]? = some (bs.getD a (0, [])) := by
      rw [List.getD_eq_getElem?_getD, List.getElem?_eq_getElem (by omega : a < bs.length)]; rfl
    have hgD : (bs.map Rc.D)[a]? = some (bs.getD a (0, [])).D := by rw [List.getElem?_map, hg]; rfl
    have eD : (badWy ⟨dn, bs, t1, t2, pl⟩ c' 1).D = .tuple [.int dn, .tuple ((bs.map Rc.D).set a (badRc (bs.getD a (0, [])) (c' / 4) (c' / 4 / 9 % 9).toNat).D), .tuple [t1.D, t2.D], pl.D] := by
      show PyData.tuple [.int dn, .tuple ((bs.set (c' % 4).toNat (badRc (bs.getD (c' % 4).toNat (0, [])) (c' / 4) (c' / 4 / 9 % 9).toNat)).map Rc.D), .tuple [t1.D, t2.D], pl.D] = _
      rw [ha, Int.toNat_natCast, map_set']
    rw [eD]
    exact svs_ret (sv_ret (ev_tup (av_cons (ev_ixT (ds := [.int dn, .tuple (bs.map Rc.D), .tuple [t1.D, t2.D], pl.D]) (ev_var 0 (by rfl) (pv 0)) ev_int (atI_of (by decide) rfl)) (av_cons (ev_call D_other (by walk_at "rm") rfl (av_cons (ev_ixT (ds := [.int dn, .tuple (bs.map Rc.D), .tuple [t1.D, t2.D], pl.D]) (ev_var 0 (by rfl) (pv 0)) ev_int (atI_of (by decide) rfl)) (av_cons (ev_var 3 (by rfl) (pv 3)) (av_cons (ev_call D_bad_recipe (by walk_at "rm") rfl (av_cons (ev_ixT (ds := bs.map Rc.D) (ev_ixT (ds := [.int dn, .tuple (bs.map Rc.D), .tuple [t1.D, t2.D], pl.D]) (ev_var 0 (by rfl) (pv 0)) ev_int (atI_of (by decide) rfl)) (ev_var 3 (by rfl) (pv 3)) (atI_of (by omega) (by rw [Int.toNat_natCast]; exact hgD))) (av_cons (ev_bin (ev_var 1 (by rfl) (pv 1)) ev_int (by walk_at "od")) av_nil)) ⟨_, _, rfl, rfl⟩) av_nil))) ⟨bs.map Rc.D, a, _, rfl, by omega, noLs_map noL_rc bs, noL_rc _, rfl⟩) (av_cons (ev_ixT (ds := [.int dn, .tuple (bs.map Rc.D), .tuple [t1.D, t2.D], pl.D]) (ev_var 0 (by rfl) (pv 0)) ev_int (atI_of (by decide) rfl)) (av_cons (ev_ixT (ds := [.int dn, .tuple (bs.map Rc.D), .tuple [t1.D, t2.D], pl.D]) (ev_var 0 (by rfl) (pv 0)) ev_int (atI_of (by decide) rfl)) av_nil)))) (by walk_at "sz")))
  · refine svs_guard (k := false) (tv_eq (tv_cmp (ev_var 2 (by rfl) (pv 2)) ev_int (by walk_at "od") (nomark _)) rfl) (fun h => by cases h) fun _ => ?_
    refine svs_guard (k := false) (tv_eq (tv_cmp (ev_var 2 (by rfl) (pv 2)) ev_int (by walk_at "od") (nomark _)) rfl) (fun h => by cases h) fun _ => ?_
    refine svs_guard (k := true) (tv_eq (tv_cmp (ev_var 2 (by rfl) (pv 2)) ev_int (by walk_at "od") (nomark _)) rfl) (fun _ => ⟨_, rfl, ?_⟩) (fun h => by cases h)
    obtain ⟨a, ha, ha2⟩ : ∃ a : Nat, c' % 2 = (a : Int) ∧ a < 2 := ⟨(c' % 2).toNat, by omega, by omega⟩
    have eD : (badWy ⟨dn, bs, t1, t2, pl⟩ c' 2).D = .tuple [.int dn, .tuple (bs.map Rc.D), .tuple ([t1.D, t2.D].set a (badTr (c' / 2 % 8).toNat).D), pl.D] := by
      by_cases hc : c' % 2 = 0
      · have : a = 0 := by omega
        subst this
        show (if c' % 2 = 0 then (⟨dn, bs, badTr (c' / 2 % 8).toNat, t2, pl⟩ : Wy) else ⟨dn, bs, t1, badTr (c' / 2 % 8).toNat, pl⟩).D = _
        rw [if_pos hc]; rfl
      · have : a = 1 := by omega
        subst this
        show (if c' % 2 = 0 then (⟨dn, bs, badTr (c' / 2 % 8).toNat, t2, pl⟩ : Wy) else ⟨dn, bs, t1, badTr (c' / 2 % 8).toNat, pl⟩).D = _
        rw [if_neg hc]; rfl
    rw [eD]
    exact svs_ret (sv_ret (ev_tup (av_cons (ev_ixT (ds := [.int dn, .tuple (bs.map Rc.D), .tuple [t1.D, t2.D], pl.D]) (ev_var 0 (by rfl) (pv 0)) ev_int (atI_of (by decide) rfl)) (av_cons (ev_ixT (ds := [.int dn, .tuple (bs.map Rc.D), .tuple [t1.D, t2.D], pl.D]) (ev_var 0 (by rfl) (pv 0)) ev_int (atI_of (by decide) rfl)) (av_cons (ev_call D_other (by walk_at "rm") rfl (av_cons (ev_ixT (ds := [.int dn, .tuple (bs.map Rc.D), .tuple [t1.D, t2.D], pl.D]) (ev_var 0 (by rfl) (pv 0)) ev_int (atI_of (by decide) rfl)) (av_cons (ev_eq (ev_bin (ev_var 1 (by rfl) (pv 1)) ev_int (by walk_at "od")) (congrArg PyData.int ha)) (av_cons (ev_call D_bad_truth (by walk_at "rm") rfl (av_cons (ev_bin (ev_var 1 (by rfl) (pv 1)) ev_int (by walk_at "od")) av_nil star_binop) ⟨_, rfl, rfl⟩) av_nil))) ⟨[t1.D, t2.D], a, _, rfl, ha2, rfl, noL_tr _, rfl⟩) (av_cons (ev_ixT (ds := [.int dn, .tuple (bs.map Rc.D), .tuple [t1.D, t2.D], pl.D]) (ev_var 0 (by rfl) (pv 0)) ev_int (atI_of (by decide) rfl)) av_nil)))) (by walk_at "sz")))
  · refine svs_guard (k := false) (tv_eq (tv_cmp (ev_var 2 (by rfl) (pv 2)) ev_int (by walk_at "od") (nomark _)) rfl) (fun h => by cases h) fun _ => ?_
    refine svs_guard (k := false) (tv_eq (tv_cmp (ev_var 2 (by rfl) (pv 2)) ev_int (by walk_at "od") (nomark _)) rfl) (fun h => by cases h) fun _ => ?_
    refine svs_guard (k := false) (tv_eq (tv_cmp (ev_var 2 (by rfl) (pv 2)) ev_int (by walk_at "od") (nomark _)) rfl) (fun h => by cases h) fun _ => ?_
    exact svs_ret (sv_ret (ev_tup (av_cons (ev_ixT (ds := [.int dn, .tuple (bs.map Rc.D), .tuple [t1.D, t2.D], pl.D]) (ev_var 0 (by rfl) (pv 0)) ev_int (atI_of (by decide) rfl)) (av_cons (ev_ixT (ds := [.int dn, .tuple (bs.map Rc.D), .tuple [t1.D, t2.D], pl.D]) (ev_var 0 (by rfl) (pv 0)) ev_int (atI_of (by decide) rfl)) (av_cons (ev_ixT (ds := [.int dn, .tuple (bs.map Rc.D), .tuple [t1.D, t2.D], pl.D]) (ev_var 0 (by rfl) (pv 0)) ev_int (atI_of (by decide) rfl)) (av_cons (ev_call D_bad_recipe (by walk_at "rm") rfl (av_cons (ev_ixT (ds := [.int dn, .tuple (bs.map Rc.D), .tuple [t1.D, t2.D], pl.D]) (ev_var 0 (by rfl) (pv 0)) ev_int (atI_of (by decide) rfl)) (av_cons (ev_var 1 (by rfl) (pv 1)) av_nil)) ⟨pl, c', rfl, rfl⟩) av_nil)))) (by walk_at "sz")))
end
section
variable {P : Program} {w : World} {K : PySem.W.Frag} {mg : Str → Option Value} {base : Heap}
local macro_rules | `(tactic| walk_at "rt") => `(tactic| repeat' (first | with_reducible exact ev_int | with_reducible exact ev_neg ev_int | with_reducible exact ev_str | with_reducible exact ev_bl | with_reducible exact av_nil | with_reducible refine av_cons ?_ ?_ star_constant | with_reducible refine av_cons ?_ ?_ star_tuple | with_reducible refine av_cons ?_ ?_ star_name | with_reducible refine av_cons ?_ ?_ star_subscript | with_reducible refine av_cons ?_ ?_ star_compare | with_reducible refine av_cons ?_ ?_ star_call | with_reducible refine av_cons ?_ ?_ star_binop | with_reducible refine av_cons ?_ ?_ star_unaryop | with_reducible refine ev_tup ?_ ?_ | with_reducible refine ev_lst ?_ ?_ | (rw [sizeLine_eq]; decide) | (rw [sizeLine_eq]; simp; done)))
def badRw (y : Wy) (c : Int) : Nat → Rw
  | 0 => .mk ("set", "rn") [12, 5]
  | 1 => .mk ("set", "rn") [0, 4096]
  | 2 => .mk ("set", "rn") [(-1), 5]
  | 3 => .mk ("copy", "rs") [0, 12]
  | 4 => .mk ("cut", "rs") [12, 0]
  | 5 => .mk ("add", "rst") [0, 1, 12]
  | 6 => .mk ("mul", "rst") [0, (-1), 1]
  | 7 => .mk ("addn", "rsn") [0, 0, 4096]
  | 8 => .mk ("load", "rsn") [12, 0, 0]
  | 9 => .mk ("load", "rsn") [0, 0, (-1)]
  | 10 => .non [0, 0]
  | 11 => .mk ("store", "snt") [0, 4096, 1]
  | 12 => .mk ("store", "snt") [12, 0, 1]
  | 13 => .mk ("store", "snt") [0, 0, 12]
  | 14 => .mk ("out", "s") [12]
  | 15 => .mk ("out", "s") [(-1)]
  | 16 => .tst 1 3 1 true y
  | 17 => .tst 2 12 0 true y
  | 18 => .tst 0 0 0 true y
  | 19 => .tst 3 0 1 false (badWy y (c / 40 / 4) (c / 40 % 4).toNat)
  | 20 => .mk ("add", "rst") [0, 1]
  | _ => .mk ("xor", "rst") [12, 0, 0]
theorem badRw_B {y : Wy} (h : y.Sh) (c : Int) (m : Nat) : rwB (badRw y c m) = false ∧ (badRw y c m).Sh := by
  match m with
  | 0 => exact ⟨(by decide +kernel : rwB (.mk ("set", "rn") [12, 5]) = false), (by decide +kernel : (("set", "rn") : Str × Str) ∈ madeL)⟩
  | 1 => exact ⟨(by decide +kernel : rwB (.mk ("set", "rn") [0, 4096]) = false), (by decide +kernel : (("set", "rn") : Str × Str) ∈ madeL)⟩
  | 2 => exact ⟨(by decide +kernel : rwB (.mk ("set", "rn") [(-1), 5]) = false), (by decide +kernel : (("set", "rn") : Str × Str) ∈ madeL)⟩
  | 3 => exact ⟨(by decide +kernel : rwB (.mk ("copy", "rs") [0, 12]) = false), (by decide +kernel : (("copy", "rs") : Str × Str) ∈ madeL)⟩
  | 4 => exact ⟨(by decide +kernel : rwB (.mk ("cut", "rs") [12, 0]) = false), (by decide +kernel : (("cut", "rs") : Str × Str) ∈ madeL)⟩
  | 5 => exact ⟨(by decide +kernel : rwB (.mk ("add", "rst") [0, 1, 12]) = false), (by decide +kernel : (("add", "rst") : Str × Str) ∈ madeL)⟩
  | 6 => exact ⟨(by decide +kernel : rwB (.mk ("mul", "rst") [0, (-1), 1]) = false), (by decide +kernel : (("mul", "rst") : Str × Str) ∈ madeL)⟩
  | 7 => exact ⟨(by decide +kernel : rwB (.mk ("addn", "rsn") [0, 0, 4096]) = false), (by decide +kernel : (("addn", "rsn") : Str × Str) ∈ madeL)⟩
  | 8 => exact ⟨(by decide +kernel : rwB (.mk ("load", "rsn") [12, 0, 0]) = false), (by decide +kernel : (("load", "rsn") : Str × Str) ∈ madeL)⟩
  | 9 => exact ⟨(by decide +kernel : rwB (.mk ("load", "rsn") [0, 0, (-1)]) = false), (by decide +kernel : (("load", "rsn") : Str × Str) ∈ madeL)⟩
  | 10 => exact ⟨rfl, trivial⟩
  | 11 => exact ⟨(by decide +kernel : rwB (.mk ("store", "snt") [0, 4096, 1]) = false), (by decide +kernel : (("store", "snt") : Str × Str) ∈ madeL)⟩
  | 12 => exact ⟨(by decide +kernel : rwB (.mk ("store", "snt") [12, 0, 1]) = false), (by decide +kernel : (("store", "snt") : Str × Str) ∈ madeL)⟩
  | 13 => exact ⟨(by decide +kernel : rwB (.mk ("store", "snt") [0, 0, 12]) = false), (by decide +kernel : (("store", "snt") : Str × Str) ∈ madeL)⟩
  | 14 => exact ⟨(by decide +kernel : rwB (.mk ("out", "s") [12]) = false), (by decide +kernel : (("out", "s") : Str × Str) ∈ madeL)⟩
  | 15 => exact ⟨(by decide +kernel : rwB (.mk ("out", "s") [(-1)]) = false), (by decide +kernel : (("out", "s") : Str × Str) ∈ madeL)⟩
  | 16 => exact ⟨by show (quB 1 3 1 && wyB y) = false; rw [show quB 1 3 1 = false from by decide +kernel]; rfl, ⟨by decide, h⟩⟩
  | 17 => exact ⟨by show (quB 2 12 0 && wyB y) = false; rw [show quB 2 12 0 = false from by decide +kernel]; rfl, ⟨by decide, h⟩⟩
  | 18 => exact ⟨by show (quB 0 0 0 && wyB y) = false; rw [show quB 0 0 0 = false from by decide +kernel]; rfl, ⟨by decide, h⟩⟩
  | 19 => exact ⟨by show (quB 3 0 1 && wyB (badWy y (c / 40 / 4) (c / 40 % 4).toNat)) = false; rw [(badWy_B h _ _).1, Bool.and_false], ⟨by decide, (badWy_B h _ _).2⟩⟩
  | 20 => exact ⟨(by decide +kernel : rwB (.mk ("add", "rst") [0, 1]) = false), (by decide +kernel : (("add", "rst") : Str × Str) ∈ madeL)⟩
  | n + 21 => exact ⟨(by decide +kernel : rwB (.mk ("xor", "rst") [12, 0, 0]) = false), (by decide +kernel : (("xor", "rst") : Str × Str) ∈ madeL)⟩
def bl1 (y : Wy) (c : Int) : List PyData := [.tuple [.str "set", .int 12, .int 5], .tuple [.str "set", .int 0, .int 4096], .tuple [.str "set", .int (-1), .int 5], .tuple [.str "copy", .int 0, .int 12], .tuple [.str "cut", .int 12, .int 0], .tuple [.str "add", .int 0, .int 1, .int 12]]
def bl2 (y : Wy) (c : Int) : List PyData := [.tuple [.str "mul", .int 0, .int (-1), .int 1], .tuple [.str "addn", .int 0, .int 0, .int 4096], .tuple [.str "load", .int 12, .int 0, .int 0], .tuple [.str "load", .int 0, .int 0, .int (-1)], .tuple [.str "nothing", .int 0, .int 0]]
def bl3 (y : Wy) (c : Int) : List PyData := [.tuple [.str "store", .int 0, .int 4096, .int 1], .tuple [.str "store", .int 12, .int 0, .int 1], .tuple [.str "store", .int 0, .int 0, .int 12], .tuple [.str "out", .int 12], .tuple [.str "out", .int (-1)]]
def bl4 (y : Wy) (c : Int) : List PyData := [.tuple [.str "test", .str "truth", .int 3, .int 1, .bool true, y.D], .tuple [.str "test", .str "same", .int 12, .int 0, .bool true, y.D]]
def bl5 (y : Wy) (c : Int) : List PyData := [.tuple [.str "test", .str "known", .int 0, .int 0, .bool true, y.D]]
def bl6 (y : Wy) (c : Int) : List PyData := [.tuple [.str "test", .str "less", .int 0, .int 1, .bool false, (badWy y (c / 40 / 4) (c / 40 % 4).toNat).D], .tuple [.str "add", .int 0, .int 1], .tuple [.str "xor", .int 12, .int 0, .int 0]]
theorem bl_get (y : Wy) (c : Int) (m : Nat) (h : m < 22) : (bl1 y c ++ bl2 y c ++ bl3 y c ++ bl4 y c ++ bl5 y c ++ bl6 y c)[m]? = some (badRw y c m).D := by
  match m, h with
  | 0, _ => rfl
  | 1, _ => rfl
  | 2, _ => rfl
  | 3, _ => rfl
  | 4, _ => rfl
  | 5, _ => rfl
  | 6, _ => rfl
  | 7, _ => rfl
  | 8, _ => rfl
  | 9, _ => rfl
  | 10, _ => rfl
  | 11, _ => rfl
  | 12, _ => rfl
  | 13, _ => rfl
  | 14, _ => rfl
  | 15, _ => rfl
  | 16, _ => rfl
  | 17, _ => rfl
  | 18, _ => rfl
  | 19, _ => rfl
  | 20, _ => rfl
  | 21, _ => rfl
  | n + 22, h => omega
theorem noLs_app : ∀ {a b : List PyData}, noLs a = true → noLs b = true → noLs (a ++ b) = true
  | [], _, _, h => h
  | x :: a, b, h1, h2 => by
    rw [List.cons_append]
    unfold noLs at h1 ⊢
    rw [Bool.and_eq_true] at h1 ⊢
    exact ⟨h1.1, noLs_app h1.2 h2⟩
theorem noLs_bl4 (y : Wy) (c : Int) : noLs (bl4 y c) = true := by
  show (noL (Rw.D (.tst 1 3 1 true y)) && (noL (Rw.D (.tst 2 12 0 true y)) && true)) = true
  rw [noL_rw, noL_rw]; rfl
def F_bad_row (ds : List PyData) (d : PyData) : Prop := ∃ (y : Wy) (c : Int), y.Sh ∧ ds = [y.D, .int c] ∧ d = (badRw y c (c % 22).toNat).D
theorem d_law_bad_row (T : Txt K mg w.params) {f : Addr} {fd : FuncData} (D_bad_way : DFn P w K mg base 2 "_law_bad_way" F_bad_way) (F : Fun K "_law_bad_row" "_law_bad_row" s_law_bad_row f fd) (hm : mg "_law_bad_row" = some (.ref f)) : DFn P w K mg base 3 "_law_bad_row" F_bad_row := by
  refine F.data hm (F.binds fun _ _ _ _ _ _ us hl => match us, hl with | [_, _], _ => rfl) sc_law_bad_row (fun ds d ⟨_, _, _, e, _⟩ => by rw [e]; rfl) fun cdv A outer s H E ds d hr ⟨y, c, hsh, e, e2⟩ => ?_
  subst e e2
  have z1 : (bl1 y c).length + (bl2 y c).length ≤ sizeLine := by rw [sizeLine_eq]; exact (by decide : 6 + 5 ≤ 16777216)
  have z2 : ((bl1 y c) ++ bl2 y c).length + (bl3 y c).length ≤ sizeLine := by rw [sizeLine_eq]; exact (by decide : 11 + 5 ≤ 16777216)
  have z3 : (((bl1 y c) ++ bl2 y c) ++ bl3 y c).length + (bl4 y c).length ≤ sizeLine := by rw [sizeLine_eq]; exact (by decide : 16 + 2 ≤ 16777216)
  have z4 : (((((bl1 y c) ++ bl2 y c) ++ bl3 y c) ++ bl4 y c) ++ bl5 y c).length + (bl6 y c).length ≤ sizeLine := by rw [sizeLine_eq]; exact (by decide : 19 + 3 ≤ 16777216)
  refine svs_setR (i := 2) (R := fun z => z = .list (bl1 y c)) ?a1 ?a2 ?a3 ?a4 ?a5 (hs := ?a6) (hf := ?a7)
  case a1 => exact sc_law_bad_row.nd
  case a2 => exact rfl
  case a3 => first | exact Or.inl rfl | exact Or.inr rfl
  case a6 => exact rfl
  case a7 => first | exact .inl rfl | exact .inr rfl
  case a4 =>
    with_reducible refine evr_of (d := .list [.tuple [.str "set", .int 12, .int 5], .tuple [.str "set", .int 0, .int 4096], .tuple [.str "set", .int (-1), .int 5], .tuple [.str "copy", .int 0, .int 12], .tuple [.str "cut", .int 12, .int 0], .tuple [.str "add", .int 0, .int 1, .int 12]]) ?_ ?_
    · walk_at "rt"
    · exact rfl
  intro d_a h_a
  subst h_a
  refine svs_setR (i := 2) (R := fun z => z = .list ((bl1 y c) ++ bl2 y c)) ?b1 ?b2 ?b3 ?b4 ?b5 (hs := ?b6) (hf := ?b7)
  case b1 => exact sc_law_bad_row.nd
  case b2 => exact rfl
  case b3 => first | exact Or.inl rfl | exact Or.inr rfl
  case b6 => exact rfl
  case b7 => first | exact .inl rfl | exact .inr rfl
  case b4 =>
    with_reducible refine evr_of (d := .list ((bl1 y c) ++ bl2 y c)) ?_ ?_
    · with_reducible refine ev_bin (da := .list (bl1 y c)) (db := .list (bl2 y c)) ?_ ?_ (od_catL z1)
      · exact (ev_var 2 (by rfl) (pv 2))
      · show EV _ _ _ (.list [.tuple [.str "mul", .int 0, .int (-1), .int 1], .tuple [.str "addn", .int 0, .int 0, .int 4096], .tuple [.str "load", .int 12, .int 0, .int 0], .tuple [.str "load", .int 0, .int 0, .int (-1)], .tuple [.str "nothing", .int 0, .int 0]])
        walk_at "rt"
    · exact rfl
  intro d_b h_b
  subst h_b
  refine svs_setR (i := 2) (R := fun z => z = .list (((bl1 y c) ++ bl2 y c) ++ bl3 y c)) ?c1 ?c2 ?c3 ?c4 ?c5 (hs := ?c6) (hf := ?c7)
  case c1 => exact sc_law_bad_row.nd
  case c2 => exact rfl
  case c3 => first | exact Or.inl rfl | exact Or.inr rfl
  case c6 => exact rfl
  case c7 => first | exact .inl rfl | exact .inr rfl
  case c4 =>
    with_reducible refine evr_of (d := .list (((bl1 y c) ++ bl2 y c) ++ bl3 y c)) ?_ ?_
    · with_reducible refine ev_bin (da := .list ((bl1 y c) ++ bl2 y c)) (db := .list (bl3 y c)) ?_ ?_ (od_catL z2)
      · exact (ev_var 2 (by rfl) (pv 2))
      · show EV _ _ _ (.list [.tuple [.str "store", .int 0, .int 4096, .int 1], .tuple [.str "store", .int 12, .int 0, .int 1], .tuple [.str "store", .int 0, .int 0, .int 12], .tuple [.str "out", .int 12], .tuple [.str "out", .int (-1)]])
        walk_at "rt"
    · exact rfl
  intro d_c h_c
  subst h_c
  have hn4 : noLs ((((bl1 y c) ++ bl2 y c) ++ bl3 y c) ++ bl4 y c) = true := noLs_app (a := (((bl1 y c) ++ bl2 y c) ++ bl3 y c)) rfl (noLs_bl4 y c)
  refine svs_freshR (i := 2) (ws := ((((bl1 y c) ++ bl2 y c) ++ bl3 y c) ++ bl4 y c)) sc_law_bad_row.nd rfl (Or.inl rfl) (by show 2 < 3; decide) (evf_cat (xs := (((bl1 y c) ++ bl2 y c) ++ bl3 y c)) (ys := bl4 y c) (ev_var 2 (by rfl) (pv 2)) ?e4 z3) hn4 fun H0 p => ?_
  case e4 =>
    show EV _ _ _ (.list [.tuple [.str "test", .str "truth", .int 3, .int 1, .bool true, y.D], .tuple [.str "test", .str "same", .int 12, .int 0, .bool true, y.D]])
    walk_at "rt"
    · exact (ev_var 0 (by rfl) (pv 0))
    · exact (ev_var 0 (by rfl) (pv 0))
  refine hrs_cons (Mid := fun G ds => G = ([some y.D, some (.int c), none] : Gam) ∧ ds = (((((bl1 y c) ++ bl2 y c) ++ bl3 y c) ++ bl4 y c) ++ bl5 y c)) (ht_append ?_ (pv 2)) (hrs_out ?_)
  · rintro G ds ⟨rfl, rfl⟩
    refine ⟨Rw.D (.tst 0 0 0 true y), ?_, noL_rw _, by rw [sizeLine_eq]; exact (by decide : 18 < 16777216), rfl, rfl⟩
    show EV _ _ _ (.tuple [.str "test", .str "known", .int 0, .int 0, .bool true, y.D])
    walk_at "rt"
    exact (ev_var 0 (by rfl) (pv 0))
  rintro G ds ⟨rfl, rfl⟩
  show SVs _ [some y.D, some (.int c), some (.list (((((bl1 y c) ++ bl2 y c) ++ bl3 y c) ++ bl4 y c) ++ bl5 y c))] _ _
  refine svs_setR (i := 2) (R := fun z => z = .list ((((((bl1 y c) ++ bl2 y c) ++ bl3 y c) ++ bl4 y c) ++ bl5 y c) ++ bl6 y c)) ?f1 ?f2 ?f3 ?f4 ?f5 (hs := ?f6) (hf := ?f7)
  case f1 => exact sc_law_bad_row.nd
  case f2 => exact rfl
  case f3 => first | exact Or.inl rfl | exact Or.inr rfl
  case f6 => exact rfl
  case f7 => first | exact .inl rfl | exact .inr rfl
  case f4 =>
    with_reducible refine evr_of (d := .list ((((((bl1 y c) ++ bl2 y c) ++ bl3 y c) ++ bl4 y c) ++ bl5 y c) ++ bl6 y c)) ?_ ?_
    · with_reducible refine ev_bin (da := .list (((((bl1 y c) ++ bl2 y c) ++ bl3 y c) ++ bl4 y c) ++ bl5 y c)) (db := .list (bl6 y c)) ?_ ?_ (od_catL z4)
      · exact (ev_var 2 (by rfl) (pv 2))
      · show EV _ _ _ (.list [.tuple [.str "test", .str "less", .int 0, .int 1, .bool false, (badWy y (c / 40 / 4) (c / 40 % 4).toNat).D], .tuple [.str "add", .int 0, .int 1], .tuple [.str "xor", .int 12, .int 0, .int 0]])
        walk_at "rt"
        exact ev_call D_bad_way (by walk_at "rm") rfl (av_cons (ev_var 0 (by rfl) (pv 0)) (av_cons (ev_bin (ev_var 1 (by rfl) (pv 1)) ev_int (by walk_at "od")) av_nil star_binop) star_name) ⟨y, _, hsh, rfl, rfl⟩
    · exact rfl
  intro d_f h_f
  subst h_f
  exact svs_ret (sv_ret (ev_ixL (ev_var 2 (by rfl) (pv 2)) (ev_bin (ev_var 1 (by rfl) (pv 1)) ev_int (by walk_at "od")) (atI_of (by omega) (bl_get y c _ (by omega)))))
end
section
variable {P : Program} {w : World} {K : PySem.W.Frag} {mg : Str → Option Value} {base : Heap}
def bwSt (st c : Int) : Nat → Int
  | 0 => [-1 - c % 9, 4096 + c % 9].getD (c / 9 % 2).toNat 0
  | _ => st
def p61 : List (Int × Int) := (List.range 61).map fun (k : Nat) => (0 + (k : Int), 0)
def bwPs (ps : List (Int × Int)) (c : Int) : Nat → List (Int × Int)
  | 1 => if c % 2 = 0 then [] else p61
  | 2 => ps ++ [ps.getD (c % ps.length).toNat (0, 0)]
  | 3 => (-1, 5) :: ps
  | 4 => ps.dropLast ++ [((ps.getLast?.getD (0, 0)).1, [4096, -1].getD (c % 2).toNat 0)]
  | _ => ps
def r61 : List Rw := (List.range 61).map fun _ => .mk ("set", "rn") [0, 0]
def bwRows (rows : List Rw) : Nat → List Rw
  | 5 => r61
  | _ => rows
def y0 : Wy := ⟨0, [], ⟨true, 0, 0, 0⟩, ⟨true, 0, 0, 0⟩, (0, [])⟩
def bwWays (ways : List Wy) (c : Int) : Nat → List Wy
  | 5 => (List.range 62).map fun _ => ways.getD 0 y0
  | 6 => if c % 2 = 0 then ways.dropLast else ways ++ ways.take 1
  | _ => ways
def F_bad_whole (ds : List PyData) (d : PyData) : Prop := ∃ (st : Int) (ps : List (Int × Int)) (rows : List Rw) (ways : List Wy) (c : Int), 1 ≤ ps.length ∧ ps.length ≤ 60 ∧ 2 ≤ ways.length ∧ ways.length ≤ 30 ∧ ds = [.tuple (pcL st ps rows ways), .int c] ∧
  d = .tuple (pcL (bwSt st (c / 7) (c % 7).toNat) (bwPs ps (c / 7) (c % 7).toNat) (bwRows rows (c % 7).toNat) (bwWays ways (c / 7) (c % 7).toNat))
theorem cut_last {α : Type} (f : α → PyData) (l : List α) (h : 1 ≤ l.length) : cutD (l.map f) none (some (-1)) = l.dropLast.map f := by
  have e1 : HT.sIx (l.map f).length 0 none = 0 := rfl
  have e2 : HT.sIx (l.map f).length (l.map f).length (some (-1)) = l.length - 1 := by
    show (if (-1 : Int) < 0 then ((-1 : Int) + ((l.map f).length : Int)).toNat else min (-1 : Int).toNat (l.map f).length) = l.length - 1
    rw [if_pos (by decide), List.length_map]
    omega
  unfold cutD
  rw [e1, e2, List.drop_zero, Nat.sub_zero, ← List.map_take, List.dropLast_eq_take]
theorem cut_first {α : Type} (f : α → PyData) (l : List α) (h : 1 ≤ l.length) : cutD (l.map f) none (some 1) = (l.take 1).map f := by
  have e1 : HT.sIx (l.map f).length 0 none = 0 := rfl
  have e2 : HT.sIx (l.map f).length (l.map f).length (some 1) = 1 := by
    show (if (1 : Int) < 0 then ((1 : Int) + ((l.map f).length : Int)).toNat else min (1 : Int).toNat (l.map f).length) = 1
    rw [if_neg (by decide), List.length_map]
    show min 1 l.length = 1
    omega
  unfold cutD
  rw [e1, e2, List.drop_zero, Nat.sub_zero, ← List.map_take]
theorem sIx_last {n : Nat} (h : 1 ≤ n) : HT.sIx n n (some (-1)) ≠ n := by
  show (if (-1 : Int) < 0 then ((-1 : Int) + (n : Int)).toNat else min (-1 : Int).toNat n) ≠ n
  rw [if_pos (by decide)]
  omega
theorem sIx_one {n : Nat} (h : 2 ≤ n) : HT.sIx n n (some 1) ≠ n := by
  show (if (1 : Int) < 0 then ((1 : Int) + (n : Int)).toNat else min (1 : Int).toNat n) ≠ n
  rw [if_neg (by decide)]
  show min 1 n ≠ n
  omega
theorem atI_lastD (l : List (Int × Int)) (h : 1 ≤ l.length) : atI (l.map pairD) (-1) = some (pairD (l.getLast?.getD (0, 0))) := by
  have e : l = l.dropLast ++ [l.getLast?.getD (0, 0)] := by
    have hne : l ≠ [] := fun z => by rw [z] at h; cases h
    rw [List.getLast?_eq_some_getLast hne]
    exact (List.dropLast_concat_getLast hne).symm
  rw [show (l.map pairD) = l.dropLast.map pairD ++ [pairD (l.getLast?.getD (0, 0))] from by
    have := congrArg (List.map pairD) e
    rw [List.map_append] at this
    exact this]
  exact atI_last _ _
set_option maxHeartbeats 8000000 in
theorem d_law_bad_whole (T : Txt K mg w.params) {f : Addr} {fd : FuncData} (F : Fun K "_law_bad_whole" "_law_bad_whole" s_law_bad_whole f fd) (hm : mg "_law_bad_whole" = some (.ref f)) : DFn P w K mg base 1 "_law_bad_whole" F_bad_whole := by
  refine F.data hm (F.binds fun _ _ _ _ _ _ us hl => match us, hl with | [_, _], _ => rfl) sc_law_bad_whole (fun ds d ⟨_, _, _, _, _, _, _, _, _, e, _⟩ => by rw [e]; rfl) fun cdv A outer s H E ds d hr ⟨st, ps, rows, ways, c, p1, p60, w2, w30, e, e2⟩ => ?_
  subst e e2
  obtain ⟨k, hk, hk7⟩ : ∃ k : Nat, c % 7 = (k : Int) ∧ k < 7 := ⟨(c % 7).toNat, by omega, by omega⟩
  rw [hk, Int.toNat_natCast]
  have hlp : (ps.map pairD).length = ps.length := List.length_map ..
  have hlw : (ways.map Wy.D).length = ways.length := List.length_map ..
  refine svs_cons (G1 := [some (.tuple (pcL st ps rows ways)), some (.int c), some (.int st), some (.tuple (ps.map pairD)), some (.tuple (rows.map Rw.D)), some (.tuple (ways.map Wy.D)), none]) (sv_asg (k := 0) (B := bindT [2, 3, 4, 5]) (ev_var 0 (by rfl) (pv 0)) (pg_tup rfl (pgs_cons (pg_name (i := 2) sc_law_bad_whole.nd rfl (by first | exact Or.inl rfl | exact Or.inr rfl)) (pgs_cons (pg_name (i := 3) sc_law_bad_whole.nd rfl (by first | exact Or.inl rfl | exact Or.inr rfl)) (pgs_cons (pg_name (i := 4) sc_law_bad_whole.nd rfl (by first | exact Or.inl rfl | exact Or.inr rfl)) (pgs_cons (pg_name (i := 5) sc_law_bad_whole.nd rfl (by first | exact Or.inl rfl | exact Or.inr rfl)) pgs_nil))))) (bindDT [2, 3, 4, 5] _ rfl) rfl) ?_
  refine svs_cons (sv_set (i := 6) (d := .int (k : Int)) sc_law_bad_whole.nd rfl (Or.inl rfl) (ev_eq (ev_bin (ev_var 1 (by rfl) (pv 1)) ev_int (by walk_at "od")) (congrArg PyData.int hk))) ?_
  refine svs_cons (sv_set (i := 1) (d := .int (c / 7)) sc_law_bad_whole.nd rfl (Or.inl rfl) (ev_eq (ev_bin (ev_var 1 (by rfl) (pv 1)) ev_int (by walk_at "od")) rfl)) ?_
  generalize c / 7 = c'
  have h7 : k = 0 ∨ k = 1 ∨ k = 2 ∨ k = 3 ∨ k = 4 ∨ k = 5 ∨ k = 6 := by omega
  rcases h7 with rfl | rfl | rfl | rfl | rfl | rfl | rfl
  · have _hk := hk
    refine svs_cons (G1 := [some (.tuple (pcL st ps rows ways)), some (.int c'), some (.int (bwSt st c' 0)), some (.tuple (ps.map pairD)), some (.tuple (rows.map Rw.D)), some (.tuple (ways.map Wy.D)), some (.int 0)]) (sv_if (k := true) (tv_eq (tv_cmp (ev_var 6 (by rfl) (pv 6)) ev_int (by walk_at "od") (nomark _)) rfl) (fun _ => (svs_cons (sv_set (i := 2) (d := (.int (bwSt st c' 0))) sc_law_bad_whole.nd rfl (Or.inl rfl) (ev_ixL (ev_lst (av_cons (ev_bin (ev_neg ev_int) (ev_bin (ev_var 1 (by rfl) (pv 1)) ev_int (by walk_at "od")) (by walk_at "od")) (av_cons (ev_bin ev_int (ev_bin (ev_var 1 (by rfl) (pv 1)) ev_int (by walk_at "od")) (by walk_at "od")) av_nil)) (by walk_at "sz")) (ev_bin (ev_bin (ev_var 1 (by rfl) (pv 1)) ev_int (by walk_at "od")) ev_int (by walk_at "od")) (at_ints (zs := [-1 - c' % 9, 4096 + c' % 9]) (by omega) (show c' / 9 % 2 < (2 : Int) by omega)))) svs_nil)) (fun h => by cases h)) ?_
    refine svs_cons (sv_if (k := false) (tv_eq (tv_cmp (ev_var 6 (by rfl) (pv 6)) ev_int (by walk_at "od") (nomark _)) rfl) (fun h => by cases h) (fun _ => svs_nil)) ?_
    refine svs_cons (sv_if (k := false) (tv_eq (tv_cmp (ev_var 6 (by rfl) (pv 6)) ev_int (by walk_at "od") (nomark _)) rfl) (fun h => by cases h) (fun _ => svs_nil)) ?_
    refine svs_cons (sv_if (k := false) (tv_eq (tv_cmp (ev_var 6 (by rfl) (pv 6)) ev_int (by walk_at "od") (nomark _)) rfl) (fun h => by cases h) (fun _ => svs_nil)) ?_
    refine svs_cons (sv_if (k := false) (tv_eq (tv_cmp (ev_var 6 (by rfl) (pv 6)) ev_int (by walk_at "od") (nomark _)) rfl) (fun h => by cases h) (fun _ => svs_nil)) ?_
    refine svs_cons (sv_if (k := false) (tv_eq (tv_cmp (ev_var 6 (by rfl) (pv 6)) ev_int (by walk_at "od") (nomark _)) rfl) (fun h => by cases h) (fun _ => svs_nil)) ?_
    refine svs_cons (sv_if (k := false) (tv_eq (tv_cmp (ev_var 6 (by rfl) (pv 6)) ev_int (by walk_at "od") (nomark _)) rfl) (fun h => by cases h) (fun _ => svs_nil)) ?_
    exact svs_ret (sv_ret (ev_eq (ev_tup (av_cons (ev_var 2 (by rfl) (pv 2)) (av_cons (ev_var 3 (by rfl) (pv 3)) (av_cons (ev_var 4 (by rfl) (pv 4)) (av_cons (ev_var 5 (by rfl) (pv 5)) av_nil)))) (by walk_at "sz")) rfl))
  · have _hk := hk
    have i1 : atI [PyData.tuple [], PyData.tuple (((List.range (61 : Int).toNat).filter fun _ => true).map fun (k : Nat) => pairD (0 + (k : Int), 0))] (c' % 2) = some (PyData.tuple ((bwPs ps c' 1).map pairD)) := by
      rw [filter_true]
      show _ = some (PyData.tuple ((if c' % 2 = 0 then [] else p61).map pairD))
      have h : c' % 2 = 0 ∨ c' % 2 = 1 := by omega
      rcases h with h | h <;> rw [h]
      · rfl
      · rw [if_neg (by decide)]
        unfold p61
        rw [List.map_map]
        rfl
    refine svs_cons (sv_if (k := false) (tv_eq (tv_cmp (ev_var 6 (by rfl) (pv 6)) ev_int (by walk_at "od") (nomark _)) rfl) (fun h => by cases h) (fun _ => svs_nil)) ?_
    refine svs_cons (G1 := [some (.tuple (pcL st ps rows ways)), some (.int c'), some (.int st), some (.tuple ((bwPs ps c' 1).map pairD)), some (.tuple (rows.map Rw.D)), some (.tuple (ways.map Wy.D)), some (.int 1)]) (sv_if (k := true) (tv_eq (tv_cmp (ev_var 6 (by rfl) (pv 6)) ev_int (by walk_at "od") (nomark _)) rfl) (fun _ => (svs_cons (sv_set (i := 3) (d := (.tuple ((bwPs ps c' 1).map pairD))) sc_law_bad_whole.nd rfl (Or.inl rfl) (ev_ixL (ds := [.tuple [], .tuple (((List.range (61 : Int).toNat).filter fun _ => true).map fun (k : Nat) => pairD (0 + (k : Int), 0))]) (ev_lst (av_cons (ev_tup av_nil (by walk_at "sz")) (av_cons (ev_callTy2 "tuple" (av_cons (ev_comp (ix := []) (N := ["k"]) (B := bind1) (as := List.range (61 : Int).toNat) (D := fun (i : Nat) => PyData.int (0 + (i : Int))) (fun _ => true) (fun (k : Nat) => pairD (0 + (k : Int), 0)) rfl (of_decide_eq_true (by kernel_rfl)) (own_name (by decide)) (iv_range1 ev_int (by walk_at "rg") (by walk_at "rg") rfl T.b_range) (by rw [sizeLine_eq]; show 61 ≤ 16777216; decide) (fun _ _ => bindD1 _) (fun _ _ _ _ _ => pg_name (i := 0) (show List.Nodup (["k"] : List Str) by decide +kernel) rfl (Or.inl rfl)) (fun a ha cl C s H fp => pf_D0) (fun a ha hP cl C s H fp => ev_tup (av_cons (ev_var 0 (by rfl) (pv 0)) (av_cons ev_int av_nil)) (by walk_at "sz"))) av_nil) cd_tupleL rfl T.b_tuple (by decide +kernel)) av_nil)) (by walk_at "sz")) (ev_bin (ev_var 1 (by rfl) (pv 1)) ev_int (by walk_at "od")) i1)) svs_nil)) (fun h => by cases h)) ?_
    refine svs_cons (sv_if (k := false) (tv_eq (tv_cmp (ev_var 6 (by rfl) (pv 6)) ev_int (by walk_at "od") (nomark _)) rfl) (fun h => by cases h) (fun _ => svs_nil)) ?_
    refine svs_cons (sv_if (k := false) (tv_eq (tv_cmp (ev_var 6 (by rfl) (pv 6)) ev_int (by walk_at "od") (nomark _)) rfl) (fun h => by cases h) (fun _ => svs_nil)) ?_
    refine svs_cons (sv_if (k := false) (tv_eq (tv_cmp (ev_var 6 (by rfl) (pv 6)) ev_int (by walk_at "od") (nomark _)) rfl) (fun h => by cases h) (fun _ => svs_nil)) ?_
    refine svs_cons (sv_if (k := false) (tv_eq (tv_cmp (ev_var 6 (by rfl) (pv 6)) ev_int (by walk_at "od") (nomark _)) rfl) (fun h => by cases h) (fun _ => svs_nil)) ?_
    refine svs_cons (sv_if (k := false) (tv_eq (tv_cmp (ev_var 6 (by rfl) (pv 6)) ev_int (by walk_at "od") (nomark _)) rfl) (fun h => by cases h) (fun _ => svs_nil)) ?_
    exact svs_ret (sv_ret (ev_eq (ev_tup (av_cons (ev_var 2 (by rfl) (pv 2)) (av_cons (ev_var 3 (by rfl) (pv 3)) (av_cons (ev_var 4 (by rfl) (pv 4)) (av_cons (ev_var 5 (by rfl) (pv 5)) av_nil)))) (by walk_at "sz")) rfl))
  · have _hk := hk
    have i2 : atI (ps.map pairD) (c' % (ps.length : Int)) = some (pairD (ps.getD (c' % ps.length).toNat (0, 0))) := by
      have hl : (c' % (ps.length : Int)).toNat < ps.length := by
        have := Int.emod_lt_of_pos c' (show (0 : Int) < ps.length by omega)
        have := Int.emod_nonneg c' (show (ps.length : Int) ≠ 0 by omega)
        omega
      refine atI_of (Int.emod_nonneg c' (by omega)) ?_
      rw [List.getElem?_map, List.getD_eq_getElem?_getD, List.getElem?_eq_getElem hl]
      rfl
    refine svs_cons (sv_if (k := false) (tv_eq (tv_cmp (ev_var 6 (by rfl) (pv 6)) ev_int (by walk_at "od") (nomark _)) rfl) (fun h => by cases h) (fun _ => svs_nil)) ?_
    refine svs_cons (sv_if (k := false) (tv_eq (tv_cmp (ev_var 6 (by rfl) (pv 6)) ev_int (by walk_at "od") (nomark _)) rfl) (fun h => by cases h) (fun _ => svs_nil)) ?_
    refine svs_cons (G1 := [some (.tuple (pcL st ps rows ways)), some (.int c'), some (.int st), some (.tuple ((bwPs ps c' 2).map pairD)), some (.tuple (rows.map Rw.D)), some (.tuple (ways.map Wy.D)), some (.int 2)]) (sv_if (k := true) (tv_eq (tv_cmp (ev_var 6 (by rfl) (pv 6)) ev_int (by walk_at "od") (nomark _)) rfl) (fun _ => (svs_cons (sv_set (i := 3) (d := (.tuple ((bwPs ps c' 2).map pairD))) sc_law_bad_whole.nd rfl (Or.inl rfl) (ev_eq (ev_bin (ev_var 3 (by rfl) (pv 3)) (ev_tup (av_cons (ev_ixT (ev_var 3 (by rfl) (pv 3)) (ev_bin (ev_var 1 (by rfl) (pv 1)) (ev_eq (ev_callB2 "len" (av_cons (ev_var 3 (by rfl) (pv 3)) av_nil) (by walk_at "cd") rfl T.b_len (by decide +kernel)) (congrArg (fun n : Nat => PyData.int (n : Int)) hlp)) (od_mod (by omega))) i2) av_nil) (by walk_at "sz")) (od_catTT (by rw [sizeLine_eq, hlp]; show ps.length + 1 ≤ _; omega))) (by show _ = PyData.tuple ((ps ++ [ps.getD (c' % ps.length).toNat (0, 0)]).map pairD); rw [List.map_append]; rfl))) svs_nil)) (fun h => by cases h)) ?_
    refine svs_cons (sv_if (k := false) (tv_eq (tv_cmp (ev_var 6 (by rfl) (pv 6)) ev_int (by walk_at "od") (nomark _)) rfl) (fun h => by cases h) (fun _ => svs_nil)) ?_
    refine svs_cons (sv_if (k := false) (tv_eq (tv_cmp (ev_var 6 (by rfl) (pv 6)) ev_int (by walk_at "od") (nomark _)) rfl) (fun h => by cases h) (fun _ => svs_nil)) ?_
    refine svs_cons (sv_if (k := false) (tv_eq (tv_cmp (ev_var 6 (by rfl) (pv 6)) ev_int (by walk_at "od") (nomark _)) rfl) (fun h => by cases h) (fun _ => svs_nil)) ?_
    refine svs_cons (sv_if (k := false) (tv_eq (tv_cmp (ev_var 6 (by rfl) (pv 6)) ev_int (by walk_at "od") (nomark _)) rfl) (fun h => by cases h) (fun _ => svs_nil)) ?_
    exact svs_ret (sv_ret (ev_eq (ev_tup (av_cons (ev_var 2 (by rfl) (pv 2)) (av_cons (ev_var 3 (by rfl) (pv 3)) (av_cons (ev_var 4 (by rfl) (pv 4)) (av_cons (ev_var 5 (by rfl) (pv 5)) av_nil)))) (by walk_at "sz")) rfl))
  · have _hk := hk
    refine svs_cons (sv_if (k := false) (tv_eq (tv_cmp (ev_var 6 (by rfl) (pv 6)) ev_int (by walk_at "od") (nomark _)) rfl) (fun h => by cases h) (fun _ => svs_nil)) ?_
    refine svs_cons (sv_if (k := false) (tv_eq (tv_cmp (ev_var 6 (by rfl) (pv 6)) ev_int (by walk_at "od") (nomark _)) rfl) (fun h => by cases h) (fun _ => svs_nil)) ?_
    refine svs_cons (sv_if (k := false) (tv_eq (tv_cmp (ev_var 6 (by rfl) (pv 6)) ev_int (by walk_at "od") (nomark _)) rfl) (fun h => by cases h) (fun _ => svs_nil)) ?_
    refine svs_cons (G1 := [some (.tuple (pcL st ps rows ways)), some (.int c'), some (.int st), some (.tuple ((bwPs ps c' 3).map pairD)), some (.tuple (rows.map Rw.D)), some (.tuple (ways.map Wy.D)), some (.int 3)]) (sv_if (k := true) (tv_eq (tv_cmp (ev_var 6 (by rfl) (pv 6)) ev_int (by walk_at "od") (nomark _)) rfl) (fun _ => (svs_cons (sv_set (i := 3) (d := (.tuple ((bwPs ps c' 3).map pairD))) sc_law_bad_whole.nd rfl (Or.inl rfl) (ev_eq (ev_bin (ev_tup (av_cons (ev_tup (av_cons (ev_neg ev_int) (av_cons ev_int av_nil)) (by walk_at "sz")) av_nil) (by walk_at "sz")) (ev_var 3 (by rfl) (pv 3)) (od_catTT (by rw [sizeLine_eq, hlp]; show 1 + ps.length ≤ _; omega))) rfl)) svs_nil)) (fun h => by cases h)) ?_
    refine svs_cons (sv_if (k := false) (tv_eq (tv_cmp (ev_var 6 (by rfl) (pv 6)) ev_int (by walk_at "od") (nomark _)) rfl) (fun h => by cases h) (fun _ => svs_nil)) ?_
    refine svs_cons (sv_if (k := false) (tv_eq (tv_cmp (ev_var 6 (by rfl) (pv 6)) ev_int (by walk_at "od") (nomark _)) rfl) (fun h => by cases h) (fun _ => svs_nil)) ?_
    refine svs_cons (sv_if (k := false) (tv_eq (tv_cmp (ev_var 6 (by rfl) (pv 6)) ev_int (by walk_at "od") (nomark _)) rfl) (fun h => by cases h) (fun _ => svs_nil)) ?_
    exact svs_ret (sv_ret (ev_eq (ev_tup (av_cons (ev_var 2 (by rfl) (pv 2)) (av_cons (ev_var 3 (by rfl) (pv 3)) (av_cons (ev_var 4 (by rfl) (pv 4)) (av_cons (ev_var 5 (by rfl) (pv 5)) av_nil)))) (by walk_at "sz")) rfl))
  · have _hk := hk
    refine svs_cons (sv_if (k := false) (tv_eq (tv_cmp (ev_var 6 (by rfl) (pv 6)) ev_int (by walk_at "od") (nomark _)) rfl) (fun h => by cases h) (fun _ => svs_nil)) ?_
    refine svs_cons (sv_if (k := false) (tv_eq (tv_cmp (ev_var 6 (by rfl) (pv 6)) ev_int (by walk_at "od") (nomark _)) rfl) (fun h => by cases h) (fun _ => svs_nil)) ?_
    refine svs_cons (sv_if (k := false) (tv_eq (tv_cmp (ev_var 6 (by rfl) (pv 6)) ev_int (by walk_at "od") (nomark _)) rfl) (fun h => by cases h) (fun _ => svs_nil)) ?_
    refine svs_cons (sv_if (k := false) (tv_eq (tv_cmp (ev_var 6 (by rfl) (pv 6)) ev_int (by walk_at "od") (nomark _)) rfl) (fun h => by cases h) (fun _ => svs_nil)) ?_
    refine svs_cons (G1 := [some (.tuple (pcL st ps rows ways)), some (.int c'), some (.int st), some (.tuple ((bwPs ps c' 4).map pairD)), some (.tuple (rows.map Rw.D)), some (.tuple (ways.map Wy.D)), some (.int 4)]) (sv_if (k := true) (tv_eq (tv_cmp (ev_var 6 (by rfl) (pv 6)) ev_int (by walk_at "od") (nomark _)) rfl) (fun _ => (svs_cons (sv_set (i := 3) (d := (.tuple ((bwPs ps c' 4).map pairD))) sc_law_bad_whole.nd rfl (Or.inl rfl) (ev_eq (ev_bin (ev_eq (ev_slT (ev_var 3 (by rfl) (pv 3)) ov_none (ov_some (ev_neg ev_int)) (fun h => sIx_last (by rw [hlp]; exact p1) h.2)) (congrArg PyData.tuple (cut_last pairD ps p1))) (ev_tup (av_cons (ev_tup (av_cons (ev_ixT (ds := [.int (ps.getLast?.getD (0, 0)).1, .int (ps.getLast?.getD (0, 0)).2]) (ev_ixT (ev_var 3 (by rfl) (pv 3)) (ev_neg ev_int) (atI_lastD ps p1)) ev_int (atI_of (by decide) rfl)) (av_cons (ev_ixL (ev_lst (av_cons ev_int (av_cons (ev_neg ev_int) av_nil)) (by walk_at "sz")) (ev_bin (ev_var 1 (by rfl) (pv 1)) ev_int (by walk_at "od")) (at_ints (zs := [4096, -1]) (by omega) (show c' % 2 < (2 : Int) by omega))) av_nil)) (by walk_at "sz")) av_nil) (by walk_at "sz")) (od_catTT (by rw [sizeLine_eq, List.length_map, List.length_dropLast]; show ps.length - 1 + 1 ≤ _; omega))) (by show _ = PyData.tuple ((ps.dropLast ++ [((ps.getLast?.getD (0, 0)).1, [4096, -1].getD (c' % 2).toNat 0)]).map pairD); rw [List.map_append]; rfl))) svs_nil)) (fun h => by cases h)) ?_
    refine svs_cons (sv_if (k := false) (tv_eq (tv_cmp (ev_var 6 (by rfl) (pv 6)) ev_int (by walk_at "od") (nomark _)) rfl) (fun h => by cases h) (fun _ => svs_nil)) ?_
    refine svs_cons (sv_if (k := false) (tv_eq (tv_cmp (ev_var 6 (by rfl) (pv 6)) ev_int (by walk_at "od") (nomark _)) rfl) (fun h => by cases h) (fun _ => svs_nil)) ?_
    exact svs_ret (sv_ret (ev_eq (ev_tup (av_cons (ev_var 2 (by rfl) (pv 2)) (av_cons (ev_var 3 (by rfl) (pv 3)) (av_cons (ev_var 4 (by rfl) (pv 4)) (av_cons (ev_var 5 (by rfl) (pv 5)) av_nil)))) (by walk_at "sz")) rfl))
  · have _hk := hk
    have hw0 : (ways.map Wy.D)[(0 : Int).toNat]? = some (ways.getD 0 y0).D := by
      show (ways.map Wy.D)[0]? = _
      rw [List.getElem?_map, List.getD_eq_getElem?_getD, List.getElem?_eq_getElem (show 0 < ways.length by omega)]
      rfl
    refine svs_cons (sv_if (k := false) (tv_eq (tv_cmp (ev_var 6 (by rfl) (pv 6)) ev_int (by walk_at "od") (nomark _)) rfl) (fun h => by cases h) (fun _ => svs_nil)) ?_
    refine svs_cons (sv_if (k := false) (tv_eq (tv_cmp (ev_var 6 (by rfl) (pv 6)) ev_int (by walk_at "od") (nomark _)) rfl) (fun h => by cases h) (fun _ => svs_nil)) ?_
    refine svs_cons (sv_if (k := false) (tv_eq (tv_cmp (ev_var 6 (by rfl) (pv 6)) ev_int (by walk_at "od") (nomark _)) rfl) (fun h => by cases h) (fun _ => svs_nil)) ?_
    refine svs_cons (sv_if (k := false) (tv_eq (tv_cmp (ev_var 6 (by rfl) (pv 6)) ev_int (by walk_at "od") (nomark _)) rfl) (fun h => by cases h) (fun _ => svs_nil)) ?_
    refine svs_cons (sv_if (k := false) (tv_eq (tv_cmp (ev_var 6 (by rfl) (pv 6)) ev_int (by walk_at "od") (nomark _)) rfl) (fun h => by cases h) (fun _ => svs_nil)) ?_
    refine svs_cons (G1 := [some (.tuple (pcL st ps rows ways)), some (.int c'), some (.int st), some (.tuple (ps.map pairD)), some (.tuple ((bwRows rows 5).map Rw.D)), some (.tuple ((bwWays ways c' 5).map Wy.D)), some (.int 5)]) (sv_if (k := true) (tv_eq (tv_cmp (ev_var 6 (by rfl) (pv 6)) ev_int (by walk_at "od") (nomark _)) rfl) (fun _ => (svs_cons (sv_set (i := 4) (d := (.tuple ((bwRows rows 5).map Rw.D))) sc_law_bad_whole.nd rfl (Or.inl rfl) (ev_eq (ev_callTy2 "tuple" (av_cons (ev_comp (ix := []) (N := ["k"]) (B := bind1) (as := List.range (61 : Int).toNat) (D := fun (i : Nat) => PyData.int (0 + (i : Int))) (fun _ => true) (fun (k : Nat) => Rw.D (.mk ("set", "rn") [0, 0])) rfl (of_decide_eq_true (by kernel_rfl)) (own_name (by decide)) (iv_range1 ev_int (by walk_at "rg") (by walk_at "rg") rfl T.b_range) (by rw [sizeLine_eq]; show 61 ≤ 16777216; decide) (fun _ _ => bindD1 _) (fun _ _ _ _ _ => pg_name (i := 0) (show List.Nodup (["k"] : List Str) by decide +kernel) rfl (Or.inl rfl)) (fun a ha cl C s H fp => pf_D0) (fun a ha hP cl C s H fp => ev_tup (av_cons ev_str (av_cons ev_int (av_cons ev_int av_nil))) (by walk_at "sz"))) av_nil) cd_tupleL rfl T.b_tuple (by decide +kernel)) (by rw [filter_true]; show _ = PyData.tuple (r61.map Rw.D); unfold r61; rw [List.map_map]; rfl))) (svs_cons (sv_set (i := 5) (d := (.tuple ((bwWays ways c' 5).map Wy.D))) sc_law_bad_whole.nd rfl (Or.inr rfl) (ev_eq (ev_callTy2 "tuple" (av_cons (ev_comp (ix := [5]) (N := ["k", "ways"]) (B := bind1) (as := List.range (62 : Int).toNat) (D := fun (i : Nat) => PyData.int (0 + (i : Int))) (fun _ => true) (fun (k : Nat) => (ways.getD 0 y0).D) rfl (of_decide_eq_true (by kernel_rfl)) (own_name (by decide)) (iv_range1 ev_int (by walk_at "rg") (by walk_at "rg") rfl T.b_range) (by rw [sizeLine_eq]; show 62 ≤ 16777216; decide) (fun _ _ => bindD1 _) (fun _ _ _ _ _ => pg_name (i := 0) (show List.Nodup (["k", "ways"] : List Str) by decide +kernel) rfl (Or.inl rfl)) (fun a ha cl C s H fp => pf_D0) (fun a ha hP cl C s H fp => ev_ixT (ev_var 1 (by rfl) (pv 1)) ev_int (atI_of (by decide) hw0))) av_nil) cd_tupleL rfl T.b_tuple (by decide +kernel)) (by rw [filter_true]; show _ = PyData.tuple (((List.range 62).map fun _ => ways.getD 0 y0).map Wy.D); rw [List.map_map]; rfl))) svs_nil))) (fun h => by cases h)) ?_
    refine svs_cons (sv_if (k := false) (tv_eq (tv_cmp (ev_var 6 (by rfl) (pv 6)) ev_int (by walk_at "od") (nomark _)) rfl) (fun h => by cases h) (fun _ => svs_nil)) ?_
    exact svs_ret (sv_ret (ev_eq (ev_tup (av_cons (ev_var 2 (by rfl) (pv 2)) (av_cons (ev_var 3 (by rfl) (pv 3)) (av_cons (ev_var 4 (by rfl) (pv 4)) (av_cons (ev_var 5 (by rfl) (pv 5)) av_nil)))) (by walk_at "sz")) rfl))
  · have _hk := hk
    have i6 : atI [PyData.tuple (ways.dropLast.map Wy.D), PyData.tuple (ways.map Wy.D ++ (ways.take 1).map Wy.D)] (c' % 2) = some (PyData.tuple ((bwWays ways c' 6).map Wy.D)) := by
      show _ = some (PyData.tuple ((if c' % 2 = 0 then ways.dropLast else ways ++ ways.take 1).map Wy.D))
      have h : c' % 2 = 0 ∨ c' % 2 = 1 := by omega
      rcases h with h | h <;> rw [h]
      · rfl
      · rw [if_neg (by decide), List.map_append]
        rfl
    refine svs_cons (sv_if (k := false) (tv_eq (tv_cmp (ev_var 6 (by rfl) (pv 6)) ev_int (by walk_at "od") (nomark _)) rfl) (fun h => by cases h) (fun _ => svs_nil)) ?_
    refine svs_cons (sv_if (k := false) (tv_eq (tv_cmp (ev_var 6 (by rfl) (pv 6)) ev_int (by walk_at "od") (nomark _)) rfl) (fun h => by cases h) (fun _ => svs_nil)) ?_
    refine svs_cons (sv_if (k := false) (tv_eq (tv_cmp (ev_var 6 (by rfl) (pv 6)) ev_int (by walk_at "od") (nomark _)) rfl) (fun h => by cases h) (fun _ => svs_nil)) ?_
    refine svs_cons (sv_if (k := false) (tv_eq (tv_cmp (ev_var 6 (by rfl) (pv 6)) ev_int (by walk_at "od") (nomark _)) rfl) (fun h => by cases h) (fun _ => svs_nil)) ?_
    refine svs_cons (sv_if (k := false) (tv_eq (tv_cmp (ev_var 6 (by rfl) (pv 6)) ev_int (by walk_at "od") (nomark _)) rfl) (fun h => by cases h) (fun _ => svs_nil)) ?_
    refine svs_cons (sv_if (k := false) (tv_eq (tv_cmp (ev_var 6 (by rfl) (pv 6)) ev_int (by walk_at "od") (nomark _)) rfl) (fun h => by cases h) (fun _ => svs_nil)) ?_
    refine svs_cons (G1 := [some (.tuple (pcL st ps rows ways)), some (.int c'), some (.int st), some (.tuple (ps.map pairD)), some (.tuple (rows.map Rw.D)), some (.tuple ((bwWays ways c' 6).map Wy.D)), some (.int 6)]) (sv_if (k := true) (tv_eq (tv_cmp (ev_var 6 (by rfl) (pv 6)) ev_int (by walk_at "od") (nomark _)) rfl) (fun _ => (svs_cons (sv_set (i := 5) (d := (.tuple ((bwWays ways c' 6).map Wy.D))) sc_law_bad_whole.nd rfl (Or.inr rfl) (ev_ixL (ds := [.tuple (ways.dropLast.map Wy.D), .tuple (ways.map Wy.D ++ (ways.take 1).map Wy.D)]) (ev_lst (av_cons (ev_eq (ev_slT (ev_var 5 (by rfl) (pv 5)) ov_none (ov_some (ev_neg ev_int)) (fun h => sIx_last (by rw [hlw]; omega) h.2)) (congrArg PyData.tuple (cut_last Wy.D ways (by omega)))) (av_cons (ev_bin (ev_var 5 (by rfl) (pv 5)) (ev_eq (ev_slT (ev_var 5 (by rfl) (pv 5)) ov_none (ov_some ev_int) (fun h => sIx_one (by rw [hlw]; exact w2) h.2)) (congrArg PyData.tuple (cut_first Wy.D ways (by omega)))) (od_catTT (by rw [sizeLine_eq, hlw, List.length_map, List.length_take]; omega))) av_nil)) (by walk_at "sz")) (ev_bin (ev_var 1 (by rfl) (pv 1)) ev_int (by walk_at "od")) i6)) svs_nil)) (fun h => by cases h)) ?_
    exact svs_ret (sv_ret (ev_eq (ev_tup (av_cons (ev_var 2 (by rfl) (pv 2)) (av_cons (ev_var 3 (by rfl) (pv 3)) (av_cons (ev_var 4 (by rfl) (pv 4)) (av_cons (ev_var 5 (by rfl) (pv 5)) av_nil)))) (by walk_at "sz")) rfl))
end
section
variable {P : Program} {w : World} {K : PySem.W.Frag} {mg : Str → Option Value} {base : Heap}
theorem okFrom_le {b l : Int} : ∀ {ps : List (Int × Int)} {a : Int}, okFrom b l a ps → a ≤ lastP a ps ∧ ∀ q ∈ ps, q.1 ≤ lastP a ps
  | [], a, _ => ⟨Int.le_refl _, fun q h => by cases h⟩
  | p :: ps, a, ⟨x1, _, _, _, x5⟩ => by
    obtain ⟨h1, h2⟩ := okFrom_le x5
    refine ⟨by show a ≤ lastP p.1 ps; omega, fun q hq => ?_⟩
    show q.1 ≤ lastP p.1 ps
    rcases List.mem_cons.mp hq with rfl | hq
    · exact h1
    · exact h2 q hq
theorem ahead_end : ∀ (ps r : List (Int × Int)) (a : Int), aheadP a (ps ++ r) ps.length = lastP a ps
  | [], r, a => rfl
  | p :: ps, r, a => by
    show aheadP a (p :: (ps ++ r)) (ps.length + 1) = lastP p.1 ps
    rw [ahead_cons]
    exact ahead_end ps r p.1
theorem pairs_end {b l : Int} {ps : List (Int × Int)} {q : Int × Int} (h : pairB b l (lastP (-1) ps) q = false) : pairsB b l (-1) (ps ++ [q]) = false :=
  pairsB_not ⟨ps.length, q, by simp, by rw [ahead_end]; exact h⟩
structure Good (st : Int) (ps : List (Int × Int)) (rows : List Rw) (ways : List Wy) : Prop where
  s0 : 0 ≤ st
  s1 : st < 4096
  pok : okFrom 4096 0 (-1) ps
  p1 : 1 ≤ ps.length
  p60 : ps.length ≤ 60
  r1 : 1 ≤ rows.length
  r20 : rows.length ≤ 20
  wl : ways.length = rows.length + 1
  rok : ∀ r ∈ rows, rwB r = true ∧ r.Sh
  wok : ∀ y ∈ ways, wyB y = true ∧ y.Sh
section
variable {st : Int} {ps : List (Int × Int)} {rows : List Rw} {ways : List Wy}
theorem Good.sh (g : Good st ps rows ways) : PSh rows ways := ⟨fun x h => (g.rok x h).2, fun x h => (g.wok x h).2⟩
theorem Good.h1 (g : Good st ps rows ways) : h1B st ps = false := by
  have a := g.p1
  have b := g.p60
  unfold h1B
  rw [below_true g.s0 g.s1, decide_eq_true (show (1 : Int) ≤ ps.length by omega), decide_eq_true (show (ps.length : Int) ≤ 60 by omega), okFrom_B (by decide) (by decide) g.pok]
  rfl
theorem h2_false {rows' : List Rw} {ways' : List Wy} (h : rows'.length ≤ 60) (hl : ways'.length = rows'.length + 1) : h2B rows' ways' = false := by
  unfold h2B
  rw [decide_eq_false (show ¬ (rows'.length : Int) > 60 by omega), hl, show ((rows'.length + 1 : Nat) : Int) = (rows'.length : Int) + 1 by omega]
  simp
theorem h1_st {st' : Int} (h : belowB (.int st') 4096 = false) : h1B st' ps = true := by unfold h1B; rw [h]; rfl
theorem h1_ps {ps' : List (Int × Int)} (h : pairsB 4096 0 (-1) ps' = false) : h1B st ps' = true := by unfold h1B; rw [h, Bool.not_false, Bool.or_true, Bool.or_true]
theorem h1_len {ps' : List (Int × Int)} (h : ps'.length = 0 ∨ 60 < ps'.length) : h1B st ps' = true := by
  unfold h1B
  have : (decide ((1 : Int) ≤ ps'.length) && decide ((ps'.length : Int) ≤ 60)) = false := by
    rcases h with h | h
    · rw [decide_eq_false (show ¬ (1 : Int) ≤ ps'.length by omega)]; rfl
    · rw [decide_eq_false (show ¬ (ps'.length : Int) ≤ 60 by omega), Bool.and_false]
  rw [this, Bool.not_false, Bool.true_or, Bool.or_true]
theorem pair2_bad {b l a : Int} {q : Int × Int} (h : belowB (.int q.2) 4096 = false) : pairB b l a q = false := by
  unfold pairB pair1B
  rw [h, Bool.not_false, Bool.or_true, Bool.true_or]; rfl
theorem pair1_bad {b l a : Int} {q : Int × Int} (h : belowB (.int q.1) b = false) : pairB b l a q = false := by
  unfold pairB pair1B
  rw [h, Bool.not_false, Bool.true_or, Bool.true_or]; rfl
theorem pairA_bad {b l a : Int} {q : Int × Int} (h : q.1 ≤ a) : pairB b l a q = false := by
  unfold pairB pair2B
  rw [decide_eq_true h, Bool.true_or, Bool.or_true]; rfl
theorem bw_bad (g : Good st ps rows ways) (C : Addr) (c : Int) (k : Nat) (hk : k < 7) : PSh (bwRows rows k) (bwWays ways c k) ∧ chkR C (bwSt st c k) (bwPs ps c k) (bwRows rows k) (bwWays ways c k) (.exc C (-1)) := by
  have hw0 : 0 < ways.length := by rw [g.wl]; omega
  have hy0 : ways.getD 0 y0 ∈ ways := by
    rw [List.getD_eq_getElem?_getD, List.getElem?_eq_getElem hw0]
    exact List.getElem_mem hw0
  have h7 : k = 0 ∨ k = 1 ∨ k = 2 ∨ k = 3 ∨ k = 4 ∨ k = 5 ∨ k = 6 := by omega
  rcases h7 with rfl | rfl | rfl | rfl | rfl | rfl | rfl
  · refine ⟨g.sh, .inl ⟨rfl, .inl (h1_st ?_)⟩⟩
    show belowB (.int ([-1 - c % 9, 4096 + c % 9].getD (c / 9 % 2).toNat 0)) 4096 = false
    have h : c / 9 % 2 = 0 ∨ c / 9 % 2 = 1 := by omega
    rcases h with h | h <;> rw [h]
    · exact below_neg (by show -1 - c % 9 < 0; omega)
    · exact below_big (by show 4096 ≤ 4096 + c % 9; omega)
  · refine ⟨g.sh, .inl ⟨rfl, .inl (h1_len ?_)⟩⟩
    show (if c % 2 = 0 then [] else p61).length = 0 ∨ 60 < (if c % 2 = 0 then [] else p61).length
    split
    · exact .inl rfl
    · exact .inr (by unfold p61; rw [List.length_map, List.length_range]; decide)
  · refine ⟨g.sh, .inl ⟨rfl, .inl (h1_ps (pairs_end (pairA_bad ((okFrom_le g.pok).2 _ ?_))))⟩⟩
    have hp := g.p1
    have hl : (c % (ps.length : Int)).toNat < ps.length := by
      have := Int.emod_lt_of_pos c (show (0 : Int) < ps.length by omega)
      have := Int.emod_nonneg c (show (ps.length : Int) ≠ 0 by omega)
      omega
    rw [List.getD_eq_getElem?_getD, List.getElem?_eq_getElem hl]
    exact List.getElem_mem hl
  · exact ⟨g.sh, .inl ⟨rfl, .inl (h1_ps (pairsB_not ⟨0, (-1, 5), rfl, pair1_bad (below_neg (by decide))⟩))⟩⟩
  · refine ⟨g.sh, .inl ⟨rfl, .inl (h1_ps (pairs_end (pair2_bad ?_)))⟩⟩
    show belowB (.int ([4096, -1].getD (c % 2).toNat 0)) 4096 = false
    have h : c % 2 = 0 ∨ c % 2 = 1 := by omega
    rcases h with h | h <;> rw [h]
    · exact below_big (by decide)
    · exact below_neg (by decide)
  · refine ⟨⟨fun x hx => ?_, fun x hx => ?_⟩, .inl ⟨rfl, .inr ⟨g.h1, ?_⟩⟩⟩
    · obtain ⟨_, _, rfl⟩ := List.mem_map.mp hx
      exact (by decide +kernel : (("set", "rn") : Str × Str) ∈ madeL)
    · obtain ⟨_, _, rfl⟩ := List.mem_map.mp hx
      exact (g.wok _ hy0).2
    · show h2B r61 _ = true
      unfold h2B
      rw [decide_eq_true (show (r61.length : Int) > 60 by unfold r61; rw [List.length_map, List.length_range]; decide)]
      rfl
  · have hne : (bwWays ways c 6).length ≠ rows.length + 1 := by
      have := g.wl
      show (if c % 2 = 0 then ways.dropLast else ways ++ ways.take 1).length ≠ _
      split
      · rw [List.length_dropLast]; omega
      · rw [List.length_append, List.length_take]; omega
    refine ⟨⟨fun x hx => (g.rok x hx).2, fun x hx => ?_⟩, .inl ⟨rfl, .inr ⟨g.h1, ?_⟩⟩⟩
    · have hx : x ∈ (if c % 2 = 0 then ways.dropLast else ways ++ ways.take 1) := hx
      split at hx
      · exact (g.wok x (List.dropLast_subset _ hx)).2
      · rcases List.mem_append.mp hx with h | h
        · exact (g.wok x h).2
        · exact (g.wok x (List.mem_of_mem_take h)).2
    · show h2B rows (bwWays ways c 6) = true
      unfold h2B
      rw [show (((bwWays ways c 6).length : Int) == (rows.length : Int) + 1) = false from beq_eq_false_iff_ne.mpr (by omega)]
      simp
theorem kB_good (g : Good st ps rows ways) {i : Nat} {y : Wy} (h : ways[i]? = some y) : kB rows i y = false := by
  unfold kB
  rw [(g.wok y (List.mem_of_getElem? h)).1]
  by_cases hi : i < rows.length
  · have hg : rows.getD i (.non []) ∈ rows := by
      rw [List.getD_eq_getElem?_getD, List.getElem?_eq_getElem hi]
      exact List.getElem_mem hi
    rw [(g.rok _ hg).1, Bool.not_true, Bool.and_false]
    rfl
  · rw [decide_eq_false (show ¬ (i : Int) < rows.length by omega)]
    rfl
theorem kB_w {rows' : List Rw} {i : Nat} {y : Wy} (h : wyB y = false) : kB rows' i y = true := by unfold kB; rw [h]; rfl
theorem kB_r {rows' : List Rw} {i : Nat} {y : Wy} {r : Rw} (hr : rows'[i]? = some r) (h : rwB r = false) : kB rows' i y = true := by
  have hi : i < rows'.length := (List.getElem?_eq_some_iff.mp hr).1
  unfold kB
  rw [List.getD_eq_getElem?_getD, hr, decide_eq_true (show (i : Int) < rows'.length by omega)]
  show (!wyB y || (true && !rwB r)) = true
  rw [h]
  simp
theorem sh_set {rows' : List Rw} (h : ∀ x ∈ rows', x.Sh) {i : Nat} {r : Rw} (hr : r.Sh) : ∀ x ∈ rows'.set i r, x.Sh := fun x hx => by
  rcases List.mem_or_eq_of_mem_set hx with h1 | h1
  · exact h x h1
  · rw [h1]; exact hr
theorem shw_set {ways' : List Wy} (h : ∀ x ∈ ways', x.Sh) {i : Nat} {r : Wy} (hr : r.Sh) : ∀ x ∈ ways'.set i r, x.Sh := fun x hx => by
  rcases List.mem_or_eq_of_mem_set hx with h1 | h1
  · exact h x h1
  · rw [h1]; exact hr
theorem bad_w (g : Good st ps rows ways) (C : Addr) {a : Nat} (ha : a < ways.length) {y : Wy} (hy : wyB y = false ∧ y.Sh) : PSh rows (ways.set a y) ∧ chkR C st ps rows (ways.set a y) (.exc C a) := by
  have hl := g.wl
  have hr := g.r20
  refine ⟨⟨g.sh.r, shw_set g.sh.y hy.2⟩, .inr (.inl ⟨g.h1, h2_false (by omega) (by rw [List.length_set]; exact hl), a, y, rfl, List.getElem?_set_self ha, kB_w hy.1, fun i y' hi h => ?_⟩)⟩
  rw [List.getElem?_set_ne (by omega)] at h
  exact kB_good g h
theorem bad_r (g : Good st ps rows ways) (C : Addr) {t : Nat} (ht : t < rows.length) {r : Rw} (hy : rwB r = false ∧ r.Sh) : PSh (rows.set t r) ways ∧ chkR C st ps (rows.set t r) ways (.exc C t) := by
  have hl := g.wl
  have hr := g.r20
  have hw : t < ways.length := by omega
  refine ⟨⟨sh_set g.sh.r hy.2, g.sh.y⟩, .inr (.inl ⟨g.h1, h2_false (by rw [List.length_set]; omega) (by rw [List.length_set]; exact hl), t, ways[t], rfl, List.getElem?_eq_getElem hw, kB_r (List.getElem?_set_self ht) hy.1, fun i y' hi h => ?_⟩)⟩
  have z := kB_good g h
  unfold kB at z ⊢
  rw [List.length_set, List.getD_eq_getElem?_getD, List.getElem?_set_ne (by omega), ← List.getD_eq_getElem?_getD]
  exact z
theorem bad_both (g : Good st ps rows ways) (C : Addr) {a t : Nat} (ha : a < ways.length) (ht : t < rows.length) {y : Wy} {r : Rw} (hy : wyB y = false ∧ y.Sh) (hr : rwB r = false ∧ r.Sh) :
    PSh (rows.set t r) (ways.set a y) ∧ chkR C st ps (rows.set t r) (ways.set a y) (.exc C (min a t : Nat)) ∧ chkR C 4096 ps (rows.set t r) (ways.set a y) (.exc C (-1)) := by
  have hl := g.wl
  have h20 := g.r20
  have hw : t < ways.length := by omega
  refine ⟨⟨sh_set g.sh.r hr.2, shw_set g.sh.y hy.2⟩, .inr (.inl ⟨g.h1, h2_false (by rw [List.length_set]; omega) (by rw [List.length_set, List.length_set]; exact hl), min a t, ?_⟩), .inl ⟨rfl, .inl (h1_st (by decide +kernel))⟩⟩
  have low : ∀ i y', i < min a t → (ways.set a y)[i]? = some y' → kB (rows.set t r) i y' = false := fun i y' hi h => by
    rw [List.getElem?_set_ne (by omega)] at h
    have z := kB_good g h
    unfold kB at z ⊢
    rw [List.length_set, List.getD_eq_getElem?_getD, List.getElem?_set_ne (by omega), ← List.getD_eq_getElem?_getD]
    exact z
  by_cases hat : a ≤ t
  · have e : min a t = a := by omega
    rw [e] at low ⊢
    exact ⟨y, rfl, List.getElem?_set_self ha, kB_w hy.1, low⟩
  · have e : min a t = t := by omega
    rw [e] at low ⊢
    exact ⟨ways[t], rfl, by rw [List.getElem?_set_ne (by omega)]; exact List.getElem?_eq_getElem hw, kB_r (List.getElem?_set_self ht) hr.1, low⟩
end
end
section
variable {P : Program} {w : World} {K : PySem.W.Frag} {mg : Str → Option Value} {base : Heap}
structure ExcF (K : PySem.W.Frag) (mg : Str → Option Value) (CB CK CT L fI : Addr) : Prop where
  mB : mg "BadPiece" = some (.ref CB)
  mK : mg "BadBook" = some (.ref CK)
  mT : mg "BadText" = some (.ref CT)
  mL : mg "LikeError" = some (.ref L)
  bV : mg "ValueError" = none
  look : ExcLook K CB
  kB : PySem.W.kitOne K (.ref CB) (.ref CB) = some true
  kK : PySem.W.kitOne K (.ref CB) (.ref CK) = some false
  kT : PySem.W.kitOne K (.ref CB) (.ref CT) = some false
  kV : PySem.W.kitOne K (.ref CB) (.type "ValueError") = some true
  ini : ExcI K CB fI
  cat : ExcCatch K CB L
  dct : PySem.W.hasDictIn K CB = true
  sL : PySem.W.specialIn K (.ref L) "__getattribute__" = some (some (.builtin "type.__getattribute__"))
  rL : PySem.W.readsIn K L (.type "type") = true
  fL : PySem.W.findCls K (.ref L) (.type "type") "__init__" = some (.val (.builtin "ValueError.__init__"))
variable {CB CK CT L fE : Addr}
theorem excR_inj {C C' : Addr} {n n' : Int} (h : excRD C n = excRD C' n') : C = C' := by
  unfold excRD at h
  injection h with h
  injection h with h _
  injection h with _ h
  injection h with h
  exact Int.ofNat.inj h
theorem exc_ne {C C' : Addr} {n : Int} (h : excRD C n = excD C') : False := by
  unfold excD excRD at h
  injection h with h
  injection h with _ h
  cases h
theorem hX1 {C : Addr} {n : Int} : ∀ C', excRD C n = excD C' → ExcIsi K C' := fun C' z => (exc_ne z).elim
theorem hX2 {C : Addr} {n : Int} (l : ExcLook K C) : ∀ C' n', excRD C n = excRD C' n' → ExcIsi K C' := fun C' n' z => excR_inj z ▸ exc_kit l
abbrev s_binit : Stmt := inClass (top 2) 0
theorem sc_binit : FnScope ["self", "row"] ["self", "row"] (defScope s_binit) := ⟨rfl, rfl, rfl, by decide +kernel, rfl, by decide +kernel, by decide +kernel⟩
theorem ok_binit (Te : ExcF K mg CB CK CT L fE) {fd : FuncData} (F : Fun K "__init__" "BadPiece.__init__" s_binit fE fd) : FnOk P w K mg base CX0 1 fE fd ["self", "row"] (spIE CB) := by
  refine F.ok sc_binit (fun vs H Q E ⟨_, _, e, _⟩ => by rw [e]; rfl) fun cdv A outer s H vs Q E hr ⟨a, n, e, ea, q⟩ => ?_
  subst e
  exact ⟨_, pss_cons (ps_excBase (a := a) Te.ini (.type "type") Te.sL Te.rL Te.fL rfl Te.mL (pv 0) (pv 1)) (pss_cons (ps_excFld (a := a) (n := n) Te.ini (pv 0) (pv 1)) pss_nil), ⟨⟨_, rfl, rfl⟩, ea, ⟨⟨rfl, rfl⟩, ea, fun dx h1 h2 => q dx h1 h2⟩⟩⟩
def F_refused (CB : Addr) (ds : List PyData) (d : PyData) : Prop := ∃ (st : Int) (ps : List (Int × Int)) (rows : List Rw) (ways : List Wy) (due : Int), ds = [.tuple (pcL st ps rows ways), .int due] ∧ PSh rows ways ∧ chkR CB st ps rows ways (.exc CB due) ∧ d = .bool true
theorem d_law_refused (T : Txt K mg w.params) (Te : ExcF K mg CB CK CT L fE) {C fI f : Addr} {fd fdI : FuncData} (CP : ClsP K mg C) (M : Mk K C fI) (bI : Binds K fdI ["self", "start", "text", "rows", "ways"] []) (FI : FnOk P w K mg base (CXr P w) 9 fI fdI ["self", "start", "text", "rows", "ways"] (spInit K C CB)) {fW : Addr} {fdW : FuncData} (FW : Fun K "_law_whole" "_law_whole" s_law_whole fW fdW) (mW : mg "_law_whole" = some (.ref fW)) (F : Fun K "_law_refused" "_law_refused" s_law_refused f fd) (hm : mg "_law_refused" = some (.ref f)) : DFn P w K mg base 11 "_law_refused" (F_refused CB) := by
  refine F.data hm (F.binds fun _ _ _ _ _ _ us hl => match us, hl with | [_, _], _ => rfl) sc_law_refused (fun ds d ⟨_, _, _, _, _, e, _⟩ => by rw [e]; rfl) fun cdv A outer s H E ds d hr ⟨st, ps, rows, ways, due, e, hsh, hck, e2⟩ => ?_
  subst e e2
  refine svs_cons (sv_set (i := 2) (d := .list []) sc_law_refused.nd rfl (Or.inl rfl) (ev_lst av_nil (by walk_at "sz"))) ?_
  refine svs_ret (sv_try_exc (o := .ret (.bool true)) (G' := [some (.tuple (pcL st ps rows ways)), some (.int due), some (.list []), none]) (C := CB) (rn := due) (D := L) (ie := 3) rfl rfl sc_law_refused.nd rfl rfl rfl Te.mL Te.cat (fun pn Ex => sx_head (sx_expr (ex_piece (st := st) (ps := ps) (rows := rows) (ways := ways) CP M bI FI (by walk_at "rm") rfl xw_tr (av_cons (ev_ixT (ds := pcL st ps rows ways) (ev_var 0 (by rfl) (pv 0)) ev_int (atI_of (by decide) rfl)) (av_cons (ev_ixT (ds := pcL st ps rows ways) (ev_var 0 (by rfl) (pv 0)) ev_int (atI_of (by decide) rfl)) (av_cons (ev_ixT (ds := pcL st ps rows ways) (ev_var 0 (by rfl) (pv 0)) ev_int (atI_of (by decide) rfl)) (av_cons (ev_ixT (ds := pcL st ps rows ways) (ev_var 0 (by rfl) (pv 0)) ev_int (atI_of (by decide) rfl)) av_nil)))) ⟨st, ps, rows, ways, hsh, rfl, hck⟩))) (fun pn a => ?_))
  show SVs _ [some (.tuple (pcL st ps rows ways)), some (.int due), some (.list []), some (excRD CB due)] _ _
  refine svs_cons (sv_set (i := 2) (d := .list [.bool true, .bool true, .bool false, .bool false]) sc_law_refused.nd rfl (Or.inl rfl) (ev_lst (av_cons (ev_isiO (da := excRD CB due) (ev_var 3 (by rfl) (pv 3)) rfl T.b_isinstance rfl Te.mB Te.kB hX1 (hX2 Te.look)) (av_cons (ev_isi (da := excRD CB due) (n := "ValueError") (ev_var 3 (by rfl) (pv 3)) rfl T.b_isinstance rfl Te.bV (by decide +kernel) Te.kV hX1 (hX2 Te.look)) (av_cons (ev_isiO (da := excRD CB due) (ev_var 3 (by rfl) (pv 3)) rfl T.b_isinstance rfl Te.mK Te.kK hX1 (hX2 Te.look)) (av_cons (ev_isiO (da := excRD CB due) (ev_var 3 (by rfl) (pv 3)) rfl T.b_isinstance rfl Te.mT Te.kT hX1 (hX2 Te.look)) av_nil)))) (by walk_at "sz"))) ?_
  have er : ∀ {X : Cx} {G : Gam} {e : Expr} {pos : Pos}, X.K = K → EV X G e (excRD CB due) → (attributeBase e "row" X.env (eval e X.env) = eval e X.env) → EV X G (.Attribute e "row" pos) (.int due) := fun hK he hb => ev_row (hK ▸ Te.look) (hK ▸ Te.ini.row) (hK ▸ Te.dct) he hb
  exact svs_ret (sv_if (k := true) (tv_cmp (ev_var 2 (by rfl) (pv 2)) (ev_lst (av_cons ev_bl (av_cons ev_bl (av_cons ev_bl (av_cons ev_bl av_nil)))) (by walk_at "sz")) (od_eq hr.units rfl rfl (by walk_at "dp") rfl) (nomark _)) (fun _ => svs_ret (sv_ret (ev_and (k := true) (ev_callH (k := 0) (hr.mono (by decide)) FW mW (FW.binds fun _ _ _ _ _ _ us hl => match us, hl with | [_], _ => rfl) sc_law_whole rfl (av_cons (er rfl (ev_var 3 (by rfl) (pv 3)) rfl) av_nil) rfl (fun cdv outer s H => svs_ret (sv_ret (ev_eq (d := .bool true) (ev_and (ev_isi (n := "int") (ev_var 0 (by rfl) (pv 0)) rfl T.b_isinstance rfl T.b_int (by decide +kernel) (by rfl)) (fun _ => ev_one (ev_eq (ev_not (ev_isi (n := "bool") (ev_var 0 (by rfl) (pv 0)) rfl T.b_isinstance rfl T.b_bool (by decide +kernel) (by rfl))) rfl)) (fun h => by cases h)) rfl)))) (fun _ => ev_one (ev_cmp (er rfl (ev_var 3 (by rfl) (pv 3)) rfl) (ev_var 1 (by rfl) (pv 1)) (od_eq hr.units rfl rfl (by walk_at "dp") (by show (due == due) = true; simp)) (nomark _))) (fun h => by cases h)))) (fun h => by cases h))
end
section
variable {P : Program} {w : World} {K : PySem.W.Frag} {mg : Str → Option Value} {base : Heap}
def splA (ways : List Wy) (c : Int) : Nat := (c / 8 % ways.length).toNat
def splT (rows : List Rw) (c : Int) : Nat := (c / 800 % rows.length).toNat
def splY (ways : List Wy) (c : Int) : Wy := badWy (ways.getD (splA ways c) y0) (c / 80000 / 4) (c / 80000 % 4).toNat
def splR (ways : List Wy) (c : Int) : Rw := badRw (ways.getD 0 y0) (c / 80000) (c / 80000 % 22).toNat
structure Spd where
  st : Int
  ps : List (Int × Int)
  rows : List Rw
  ways : List Wy
  due : Int
def Spd.D (q : Spd) : PyData := .list [.tuple (pcL q.st q.ps q.rows q.ways), .int q.due]
def splQ (st : Int) (ps : List (Int × Int)) (rows : List Rw) (ways : List Wy) (c : Int) : Nat → Spd
  | 0 => ⟨bwSt st (c / 8 / 7) (c / 8 % 7).toNat, bwPs ps (c / 8 / 7) (c / 8 % 7).toNat, bwRows rows (c / 8 % 7).toNat, bwWays ways (c / 8 / 7) (c / 8 % 7).toNat, -1⟩
  | 1 => ⟨st, ps, rows, ways.set (splA ways c) (splY ways c), splA ways c⟩
  | 2 => ⟨st, ps, rows.set (splT rows c) (splR ways c), ways, splT rows c⟩
  | _ => if c / 4 % 2 = 0 then ⟨st, ps, rows.set (splT rows c) (splR ways c), ways.set (splA ways c) (splY ways c), (min (splA ways c) (splT rows c) : Nat)⟩ else ⟨4096, ps, rows.set (splT rows c) (splR ways c), ways.set (splA ways c) (splY ways c), -1⟩
section
variable {st : Int} {ps : List (Int × Int)} {rows : List Rw} {ways : List Wy}
theorem emod_lt {n : Nat} (h : 1 ≤ n) (c : Int) : (c % (n : Int)).toNat < n ∧ c % (n : Int) = ((c % (n : Int)).toNat : Int) := by
  have h1 := Int.emod_lt_of_pos c (show (0 : Int) < n by omega)
  have h2 := Int.emod_nonneg c (show (n : Int) ≠ 0 by omega)
  omega
theorem Good.w2 (g : Good st ps rows ways) : 2 ≤ ways.length := by have := g.wl; have := g.r1; omega
theorem Good.mem (g : Good st ps rows ways) {i : Nat} (h : i < ways.length) : (ways.getD i y0).Sh ∧ ways[i]? = some (ways.getD i y0) := by
  rw [List.getD_eq_getElem?_getD, List.getElem?_eq_getElem h]
  exact ⟨(g.wok _ (List.getElem_mem h)).2, rfl⟩
theorem Good.a (g : Good st ps rows ways) (c : Int) : splA ways c < ways.length := (emod_lt (by have := g.w2; omega) _).1
theorem Good.t (g : Good st ps rows ways) (c : Int) : splT rows c < rows.length := (emod_lt g.r1 _).1
theorem Good.y (g : Good st ps rows ways) (c : Int) : wyB (splY ways c) = false ∧ (splY ways c).Sh := badWy_B (g.mem (g.a c)).1 _ _
theorem Good.r (g : Good st ps rows ways) (c : Int) : rwB (splR ways c) = false ∧ (splR ways c).Sh := badRw_B (g.mem (show 0 < ways.length by have := g.w2; omega)).1 _ _
theorem spl_ok (g : Good st ps rows ways) (C : Addr) (c : Int) (k : Nat) : PSh (splQ st ps rows ways c k).rows (splQ st ps rows ways c k).ways ∧ chkR C (splQ st ps rows ways c k).st (splQ st ps rows ways c k).ps (splQ st ps rows ways c k).rows (splQ st ps rows ways c k).ways (.exc C (splQ st ps rows ways c k).due) := by
  match k with
  | 0 => exact bw_bad g C (c / 8 / 7) (c / 8 % 7).toNat (by omega)
  | 1 => exact bad_w g C (g.a c) (g.y c)
  | 2 => exact bad_r g C (g.t c) (g.r c)
  | n + 3 =>
    obtain ⟨b1, b2, b3⟩ := bad_both g C (g.a c) (g.t c) (g.y c) (g.r c)
    by_cases h : c / 4 % 2 = 0
    · have e : splQ st ps rows ways c (n + 3) = ⟨st, ps, rows.set (splT rows c) (splR ways c), ways.set (splA ways c) (splY ways c), (min (splA ways c) (splT rows c) : Nat)⟩ := if_pos h
      rw [e]
      exact ⟨b1, b2⟩
    · have e : splQ st ps rows ways c (n + 3) = ⟨4096, ps, rows.set (splT rows c) (splR ways c), ways.set (splA ways c) (splY ways c), -1⟩ := if_neg h
      rw [e]
      exact ⟨b1, b3⟩
end
def F_spoiled (ds : List PyData) (d : PyData) : Prop := ∃ (st : Int) (ps : List (Int × Int)) (rows : List Rw) (ways : List Wy) (c : Int), Good st ps rows ways ∧ ds = [.tuple (pcL st ps rows ways), .int c] ∧ d = (splQ st ps rows ways c (c % 4).toNat).D
set_option maxHeartbeats 8000000 in
theorem d_law_spoiled (T : Txt K mg w.params) {f : Addr} {fd : FuncData} (D_other : DFn P w K mg base 1 "_law_other" F_other) (D_bad_way : DFn P w K mg base 2 "_law_bad_way" F_bad_way) (D_bad_row : DFn P w K mg base 3 "_law_bad_row" F_bad_row) (D_bad_whole : DFn P w K mg base 1 "_law_bad_whole" F_bad_whole) (F : Fun K "_law_spoiled" "_law_spoiled" s_law_spoiled f fd) (hm : mg "_law_spoiled" = some (.ref f)) : DFn P w K mg base 4 "_law_spoiled" F_spoiled := by
  refine F.data hm (F.binds fun _ _ _ _ _ _ us hl => match us, hl with | [_, _], _ => rfl) sc_law_spoiled (fun ds d ⟨_, _, _, _, _, _, e, _⟩ => by rw [e]; rfl) fun cdv A outer s H E ds d hr ⟨st, ps, rows, ways, c, g, e, e2⟩ => ?_
  subst e e2
  have hlr : (rows.map Rw.D).length = rows.length := List.length_map ..
  have hlw : (ways.map Wy.D).length = ways.length := List.length_map ..
  have w2 := g.w2
  have r1 := g.r1
  have ga := g.a c
  have gt := g.t c
  have wl := g.wl
  have r20 := g.r20
  have ea : c / 8 % (ways.length : Int) = ((splA ways c : Nat) : Int) := (emod_lt (by omega) _).2
  have et : c / 800 % (rows.length : Int) = ((splT rows c : Nat) : Int) := (emod_lt r1 _).2
  have gA : (ways.map Wy.D)[(((splA ways c : Nat) : Int)).toNat]? = some (ways.getD (splA ways c) y0).D := by rw [Int.toNat_natCast, List.getElem?_map, (g.mem ga).2]; rfl
  have g0 : (ways.map Wy.D)[(0 : Int).toNat]? = some (ways.getD 0 y0).D := by show (ways.map Wy.D)[0]? = _; rw [List.getElem?_map, (g.mem (show 0 < ways.length by omega)).2]; rfl
  refine svs_cons (G1 := [some (.tuple (pcL st ps rows ways)), some (.int c), some (.int st), some (.tuple (ps.map pairD)), some (.tuple (rows.map Rw.D)), some (.tuple (ways.map Wy.D)), none, none, none, none, none]) (sv_asg (k := 0) (B := bindT [2, 3, 4, 5]) (ev_var 0 (by rfl) (pv 0)) (pg_tup rfl (pgs_cons (pg_name (i := 2) sc_law_spoiled.nd rfl (by first | exact Or.inl rfl | exact Or.inr rfl)) (pgs_cons (pg_name (i := 3) sc_law_spoiled.nd rfl (by first | exact Or.inl rfl | exact Or.inr rfl)) (pgs_cons (pg_name (i := 4) sc_law_spoiled.nd rfl (by first | exact Or.inl rfl | exact Or.inr rfl)) (pgs_cons (pg_name (i := 5) sc_law_spoiled.nd rfl (by first | exact Or.inl rfl | exact Or.inr rfl)) pgs_nil))))) (bindDT [2, 3, 4, 5] _ rfl) rfl) ?_
  refine svs_cons (sv_set (i := 6) (d := .int (splA ways c : Nat)) sc_law_spoiled.nd rfl (Or.inl rfl) (ev_eq (ev_bin (ev_bin (ev_var 1 (by rfl) (pv 1)) ev_int (by walk_at "od")) (ev_eq (ev_callB2 "len" (av_cons (ev_var 5 (by rfl) (pv 5)) av_nil) (by walk_at "cd") rfl T.b_len (by decide +kernel)) (congrArg (fun n : Nat => PyData.int (n : Int)) hlw)) (od_mod (by omega))) (congrArg PyData.int ea))) ?_
  refine svs_cons (sv_set (i := 7) (d := .int (splT rows c : Nat)) sc_law_spoiled.nd rfl (Or.inl rfl) (ev_eq (ev_bin (ev_bin (ev_var 1 (by rfl) (pv 1)) ev_int (by walk_at "od")) (ev_eq (ev_callB2 "len" (av_cons (ev_var 4 (by rfl) (pv 4)) av_nil) (by walk_at "cd") rfl T.b_len (by decide +kernel)) (congrArg (fun n : Nat => PyData.int (n : Int)) hlr)) (od_mod (by omega))) (congrArg PyData.int et))) ?_
  refine svs_cons (sv_set (i := 8) (d := (splY ways c).D) sc_law_spoiled.nd rfl (Or.inl rfl) (ev_call D_bad_way (by walk_at "rm") rfl (av_cons (ev_ixT (ev_var 5 (by rfl) (pv 5)) (ev_var 6 (by rfl) (pv 6)) (atI_of (by omega) gA)) (av_cons (ev_bin (ev_var 1 (by rfl) (pv 1)) ev_int (by walk_at "od")) av_nil)) ⟨_, _, (g.mem ga).1, rfl, rfl⟩)) ?_
  refine svs_cons (sv_set (i := 9) (d := (splR ways c).D) sc_law_spoiled.nd rfl (Or.inl rfl) (ev_call D_bad_row (by walk_at "rm") rfl (av_cons (ev_ixT (ev_var 5 (by rfl) (pv 5)) ev_int (atI_of (by decide) g0)) (av_cons (ev_bin (ev_var 1 (by rfl) (pv 1)) ev_int (by walk_at "od")) av_nil)) ⟨_, _, (g.mem (show 0 < ways.length by omega)).1, rfl, rfl⟩)) ?_
  show SVs _ [some (.tuple (pcL st ps rows ways)), some (.int c), some (.int st), some (.tuple (ps.map pairD)), some (.tuple (rows.map Rw.D)), some (.tuple (ways.map Wy.D)), some (.int (splA ways c : Nat)), some (.int (splT rows c : Nat)), some (splY ways c).D, some (splR ways c).D, none] _ _
  obtain ⟨k, hk, hk4⟩ : ∃ k : Nat, c % 4 = (k : Int) ∧ k < 4 := ⟨(c % 4).toNat, by omega, by omega⟩
  rw [hk, Int.toNat_natCast]
  rcases kinds4 hk4 with rfl | rfl | rfl | rfl
  · refine svs_guard (k := true) (tv_eq (tv_cmp (ev_bin (ev_var 1 (by rfl) (pv 1)) ev_int (by walk_at "od")) ev_int (by walk_at "od") (nomark _)) (by rw [hk]; rfl)) (fun _ => ⟨_, rfl, svs_ret (sv_ret (ev_lst (av_cons (ev_call D_bad_whole (by walk_at "rm") rfl (av_cons (ev_var 0 (by rfl) (pv 0)) (av_cons (ev_bin (ev_var 1 (by rfl) (pv 1)) ev_int (by walk_at "od")) av_nil)) ⟨st, ps, rows, ways, c / 8, g.p1, g.p60, w2, by omega, rfl, rfl⟩) (av_cons (ev_neg ev_int) av_nil)) (by walk_at "sz")))⟩) (fun h => by cases h)
  · refine svs_guard (k := false) (tv_eq (tv_cmp (ev_bin (ev_var 1 (by rfl) (pv 1)) ev_int (by walk_at "od")) ev_int (by walk_at "od") (nomark _)) (by rw [hk]; rfl)) (fun h => by cases h) fun _ => ?_
    refine svs_guard (k := true) (tv_eq (tv_cmp (ev_bin (ev_var 1 (by rfl) (pv 1)) ev_int (by walk_at "od")) ev_int (by walk_at "od") (nomark _)) (by rw [hk]; rfl)) (fun _ => ⟨_, rfl, ?_⟩) (fun h => by cases h)
    have eD : (splQ st ps rows ways c 1).D = .list [.tuple [.int st, .tuple (ps.map pairD), .tuple (rows.map Rw.D), .tuple ((ways.map Wy.D).set (splA ways c) (splY ways c).D)], .int (splA ways c : Nat)] := by rw [map_set']; rfl
    rw [eD]
    exact svs_ret (sv_ret (ev_lst (av_cons (ev_tup (av_cons (ev_var 2 (by rfl) (pv 2)) (av_cons (ev_var 3 (by rfl) (pv 3)) (av_cons (ev_var 4 (by rfl) (pv 4)) (av_cons (ev_call D_other (by walk_at "rm") rfl (av_cons (ev_var 5 (by rfl) (pv 5)) (av_cons (ev_var 6 (by rfl) (pv 6)) (av_cons (ev_var 8 (by rfl) (pv 8)) av_nil))) ⟨_, _, _, rfl, by rw [hlw]; exact ga, noLs_map noL_wy _, noL_wy _, rfl⟩) av_nil)))) (by walk_at "sz")) (av_cons (ev_var 6 (by rfl) (pv 6)) av_nil)) (by walk_at "sz")))
  · refine svs_guard (k := false) (tv_eq (tv_cmp (ev_bin (ev_var 1 (by rfl) (pv 1)) ev_int (by walk_at "od")) ev_int (by walk_at "od") (nomark _)) (by rw [hk]; rfl)) (fun h => by cases h) fun _ => ?_
    refine svs_guard (k := false) (tv_eq (tv_cmp (ev_bin (ev_var 1 (by rfl) (pv 1)) ev_int (by walk_at "od")) ev_int (by walk_at "od") (nomark _)) (by rw [hk]; rfl)) (fun h => by cases h) fun _ => ?_
    refine svs_guard (k := true) (tv_eq (tv_cmp (ev_bin (ev_var 1 (by rfl) (pv 1)) ev_int (by walk_at "od")) ev_int (by walk_at "od") (nomark _)) (by rw [hk]; rfl)) (fun _ => ⟨_, rfl, ?_⟩) (fun h => by cases h)
    have eD : (splQ st ps rows ways c 2).D = .list [.tuple [.int st, .tuple (ps.map pairD), .tuple ((rows.map Rw.D).set (splT rows c) (splR ways c).D), .tuple (ways.map Wy.D)], .int (splT rows c : Nat)] := by rw [map_set']; rfl
    rw [eD]
    exact svs_ret (sv_ret (ev_lst (av_cons (ev_tup (av_cons (ev_var 2 (by rfl) (pv 2)) (av_cons (ev_var 3 (by rfl) (pv 3)) (av_cons (ev_call D_other (by walk_at "rm") rfl (av_cons (ev_var 4 (by rfl) (pv 4)) (av_cons (ev_var 7 (by rfl) (pv 7)) (av_cons (ev_var 9 (by rfl) (pv 9)) av_nil))) ⟨_, _, _, rfl, by rw [hlr]; exact gt, noLs_map noL_rw _, noL_rw _, rfl⟩) (av_cons (ev_var 5 (by rfl) (pv 5)) av_nil)))) (by walk_at "sz")) (av_cons (ev_var 7 (by rfl) (pv 7)) av_nil)) (by walk_at "sz")))
  · refine svs_guard (k := false) (tv_eq (tv_cmp (ev_bin (ev_var 1 (by rfl) (pv 1)) ev_int (by walk_at "od")) ev_int (by walk_at "od") (nomark _)) (by rw [hk]; rfl)) (fun h => by cases h) fun _ => ?_
    refine svs_guard (k := false) (tv_eq (tv_cmp (ev_bin (ev_var 1 (by rfl) (pv 1)) ev_int (by walk_at "od")) ev_int (by walk_at "od") (nomark _)) (by rw [hk]; rfl)) (fun h => by cases h) fun _ => ?_
    refine svs_guard (k := false) (tv_eq (tv_cmp (ev_bin (ev_var 1 (by rfl) (pv 1)) ev_int (by walk_at "od")) ev_int (by walk_at "od") (nomark _)) (by rw [hk]; rfl)) (fun h => by cases h) fun _ => ?_
    refine svs_cons (sv_set (i := 10) (d := .tuple [.int st, .tuple (ps.map pairD), .tuple ((rows.map Rw.D).set (splT rows c) (splR ways c).D), .tuple ((ways.map Wy.D).set (splA ways c) (splY ways c).D)]) sc_law_spoiled.nd rfl (Or.inl rfl) (ev_tup (av_cons (ev_var 2 (by rfl) (pv 2)) (av_cons (ev_var 3 (by rfl) (pv 3)) (av_cons (ev_call D_other (by walk_at "rm") rfl (av_cons (ev_var 4 (by rfl) (pv 4)) (av_cons (ev_var 7 (by rfl) (pv 7)) (av_cons (ev_var 9 (by rfl) (pv 9)) av_nil))) ⟨_, _, _, rfl, by rw [hlr]; exact gt, noLs_map noL_rw _, noL_rw _, rfl⟩) (av_cons (ev_call D_other (by walk_at "rm") rfl (av_cons (ev_var 5 (by rfl) (pv 5)) (av_cons (ev_var 6 (by rfl) (pv 6)) (av_cons (ev_var 8 (by rfl) (pv 8)) av_nil))) ⟨_, _, _, rfl, by rw [hlw]; exact ga, noLs_map noL_wy _, noL_wy _, rfl⟩) av_nil)))) (by walk_at "sz"))) ?_
    by_cases hc : c / 4 % 2 = 0
    · have e3 : splQ st ps rows ways c 3 = ⟨st, ps, rows.set (splT rows c) (splR ways c), ways.set (splA ways c) (splY ways c), (min (splA ways c) (splT rows c) : Nat)⟩ := if_pos hc
      have eD : (splQ st ps rows ways c 3).D = .list [.tuple [.int st, .tuple (ps.map pairD), .tuple ((rows.map Rw.D).set (splT rows c) (splR ways c).D), .tuple ((ways.map Wy.D).set (splA ways c) (splY ways c).D)], .int (min (splA ways c) (splT rows c) : Nat)] := by rw [e3, map_set', map_set']; rfl
      rw [eD]
      exact svs_guard (k := true) (tv_eq (tv_cmp (ev_bin (ev_bin (ev_var 1 (by rfl) (pv 1)) ev_int (by walk_at "od")) ev_int (by walk_at "od")) ev_int (by walk_at "od") (nomark _)) (by rw [hc]; rfl)) (fun _ => ⟨_, rfl, svs_ret (sv_ret (ev_lst (av_cons (ev_var 10 (by rfl) (pv 10)) (av_cons (ev_eq (ev_callB2 "min" (av_cons (ev_var 6 (by rfl) (pv 6)) (av_cons (ev_var 7 (by rfl) (pv 7)) av_nil)) (by walk_at "cd") rfl T.b_min (by decide +kernel)) (congrArg PyData.int (by split <;> omega))) av_nil)) (by walk_at "sz")))⟩) (fun h => by cases h)
    · have e3 : splQ st ps rows ways c 3 = ⟨4096, ps, rows.set (splT rows c) (splR ways c), ways.set (splA ways c) (splY ways c), -1⟩ := if_neg hc
      have eD : (splQ st ps rows ways c 3).D = .list [.tuple [.int 4096, .tuple (ps.map pairD), .tuple ((rows.map Rw.D).set (splT rows c) (splR ways c).D), .tuple ((ways.map Wy.D).set (splA ways c) (splY ways c).D)], .int (-1)] := by rw [e3, map_set', map_set']; rfl
      rw [eD]
      have h1 : c / 4 % 2 = 1 := by omega
      refine svs_guard (k := false) (tv_eq (tv_cmp (ev_bin (ev_bin (ev_var 1 (by rfl) (pv 1)) ev_int (by walk_at "od")) ev_int (by walk_at "od")) ev_int (by walk_at "od") (nomark _)) (by rw [h1]; rfl)) (fun h => by cases h) fun _ => ?_
      exact svs_ret (sv_ret (ev_lst (av_cons (ev_tup (av_cons ev_int (av_cons (ev_var 3 (by rfl) (pv 3)) (av_cons (ev_ixT (ds := [.int st, .tuple (ps.map pairD), .tuple ((rows.map Rw.D).set (splT rows c) (splR ways c).D), .tuple ((ways.map Wy.D).set (splA ways c) (splY ways c).D)]) (ev_var 10 (by rfl) (pv 10)) ev_int (atI_of (by decide) rfl)) (av_cons (ev_ixT (ds := [.int st, .tuple (ps.map pairD), .tuple ((rows.map Rw.D).set (splT rows c) (splR ways c).D), .tuple ((ways.map Wy.D).set (splA ways c) (splY ways c).D)]) (ev_var 10 (by rfl) (pv 10)) ev_int (atI_of (by decide) rfl)) av_nil)))) (by walk_at "sz")) (av_cons (ev_neg ev_int) av_nil)) (by walk_at "sz")))
end
section
variable {P : Program} {w : World} {K : PySem.W.Frag} {mg : Str → Option Value} {base : Heap}
theorem rws_ok : ∀ {l : List PyData}, (∀ r ∈ l, RowOk r) → ∃ rs : List Rw, l = rs.map Rw.D ∧ ∀ r ∈ rs, rwB r = true ∧ r.Sh
  | [], _ => ⟨[], rfl, fun r h => by cases h⟩
  | b :: bs, h => by
    obtain ⟨r, e, h1, h2⟩ := rw_ok (h b List.mem_cons_self)
    obtain ⟨rs, e2, h3⟩ := rws_ok fun x hx => h x (List.mem_cons_of_mem _ hx)
    refine ⟨r :: rs, by rw [e, e2]; rfl, fun x hx => ?_⟩
    rcases List.mem_cons.mp hx with rfl | hx
    · exact ⟨h1, h2⟩
    · exact h3 x hx
theorem wys_ok : ∀ {l : List PyData}, (∀ r ∈ l, WayOk r) → ∃ rs : List Wy, l = rs.map Wy.D ∧ ∀ r ∈ rs, wyB r = true ∧ r.Sh
  | [], _ => ⟨[], rfl, fun r h => by cases h⟩
  | b :: bs, h => by
    obtain ⟨r, e, h1, h2, _⟩ := wy_ok (h b List.mem_cons_self)
    obtain ⟨rs, e2, h3⟩ := wys_ok fun x hx => h x (List.mem_cons_of_mem _ hx)
    refine ⟨r :: rs, by rw [e, e2]; rfl, fun x hx => ?_⟩
    rcases List.mem_cons.mp hx with rfl | hx
    · exact ⟨h1, h2⟩
    · exact h3 x hx
theorem rowsL_ok (ns : List Int) : ∀ r ∈ rowsL ns, RowOk r := fun r hr => by
  obtain ⟨k, _, rfl⟩ := List.mem_map.mp hr
  exact rowOf_ok _
theorem piece_good (ns cs : List Int) {pl : Int} (h0 : 0 ≤ pl) (h1 : pl < 4096) (hc : ∀ c ∈ cs, 0 ≤ c ∧ c < 4096) (h16 : 16 ≤ cs.length) (h128 : cs.length ≤ 128) :
    ∃ (rs : List Rw) (ys : List Wy), rowsL ns = rs.map Rw.D ∧ waysL ns = ys.map Wy.D ∧ Good pl (textOf cs (cellN ns 2)) rs ys := by
  obtain ⟨t1, t2, t3⟩ := textOf_ok hc h16 h128 (cellN ns 2)
  obtain ⟨rs, e1, k1⟩ := rws_ok (rowsL_ok ns)
  obtain ⟨ys, e2, k2⟩ := wys_ok (l := waysL ns) fun y hy => by
    obtain ⟨k, _, rfl⟩ := List.mem_map.mp hy
    exact wayOf_ok _
  have hm := manyN_range ns
  have l1 : rs.length = manyN ns := by
    have := congrArg List.length e1
    rw [List.length_map] at this
    rw [← this]
    unfold rowsL
    rw [List.length_map, List.length_range]
  have l2 : ys.length = manyN ns + 1 := by
    have := congrArg List.length e2
    rw [List.length_map] at this
    rw [← this]
    unfold waysL
    rw [List.length_map, List.length_range]
  exact ⟨rs, ys, e1, e2, ⟨h0, h1, t1, t2, t3, by omega, by omega, by omega, k1, k2⟩⟩
theorem good_check {st : Int} {ps : List (Int × Int)} {rows : List Rw} {ways : List Wy} (g : Good st ps rows ways) (C : Addr) : F_check C (pcL st ps rows ways) (.ok .none) := by
  have h1 := g.r20
  exact ⟨st, ps, rows, ways, g.sh, rfl, .inr (.inr ⟨g.h1, h2_false (by omega) g.wl, rfl, fun i y h => kB_good g h⟩)⟩
set_option maxHeartbeats 8000000 in
theorem ok_law (T : Txt K mg w.params) {f C fI CB : Addr} {fd fdI : FuncData} (CP : ClsP K mg C) (M : Mk K C fI) (bI : Binds K fdI ["self", "start", "text", "rows", "ways"] []) (FI : FnOk P w K mg base (CXr P w) 9 fI fdI ["self", "start", "text", "rows", "ways"] (spInit K C CB))
    (R_law_state : RFn P w K mg base 2 "_law_state" stateF statePre) (D_law_piece : DFn P w K mg base 4 "_law_piece" F_piece) (D_law_cell : DFn P w K mg base 1 "_law_cell" F_cell) (D_spoiled : DFn P w K mg base 4 "_law_spoiled" F_spoiled) (D_refused : DFn P w K mg base 11 "_law_refused" (F_refused CB)) (F : Fun K "law" "law" s_law f fd) : FnOk P w K mg base CX0 20 f fd ["script"] (spD K F_law) := by
  refine F.dataOk sc_law (fun ds d ⟨_, e, _⟩ => by rw [e]; rfl) fun cdv A outer s H E ds d hr ⟨ns, e, hns, e2⟩ => ?_
  subst e e2
  refine svs_setR (i := 1) sc_law.nd rfl (by first | exact Or.inl rfl | exact Or.inr rfl) (evr_call R_law_state (by walk_at "rm") rfl (av_cons (ev_var 0 (by rfl) (pv 0)) av_nil) ⟨ns, rfl, hns⟩) ?_
  rintro d ⟨a, b, t, cs, pl, h16, h128, hcs, p0, p1, rfl⟩
  refine svs_setR (i := 2) (R := fun z => z = .list (menuL.map PyData.str)) ?n1 ?n2 ?n3 ?n4 ?n5 (hs := ?n6) (hf := ?n7)
  case n1 => exact sc_law.nd
  case n2 => exact rfl
  case n3 => exact Or.inl rfl
  case n6 => exact rfl
  case n7 => first | exact .inl rfl | exact .inr rfl
  case n4 =>
    with_reducible refine evr_of (d := .list [.str "set", .str "copy", .str "cut", .str "add", .str "sub", .str "mul", .str "and", .str "xor", .str "addn", .str "load", .str "store", .str "out", .str "test"]) ?_ ?_
    · with_reducible refine ev_lst ?_ ?_
      · with_reducible exact av_str (av_str (av_str (av_str (av_str (av_str (av_str (av_str (av_str (av_str (av_str (av_str (av_str av_nil))))))))))))
      · rw [sizeLine_eq]
        show 13 ≤ 16777216
        decide
    · exact rfl
  intro dm hdm
  subst hdm
  obtain ⟨rs, ys, er, ey, g⟩ := piece_good ns cs p0 p1 hcs h16 h128
  have hlay : LayD (.tuple (rs.map Rw.D)) 8 := lay_tup fun d hd => (rowsL_ok ns d (er ▸ hd)).lay
  refine svs_cons (sv_set (i := 3) (d := .tuple (pcL pl (textOf cs (cellN ns 2)) rs ys)) sc_law.nd rfl (Or.inl rfl) (ev_eq (ev_callTy2 "tuple" (av_cons (ev_call D_law_piece (by walk_at "rm") rfl (av_cons (ev_var 0 (by rfl) (pv 0)) (av_cons (ev_var 1 (by rfl) (pv 1)) (av_cons (ev_var 2 (by rfl) (pv 2)) (av_cons ev_int av_nil)))) ⟨ns, a, b, t, cs, pl, rfl, hns, h16, h128, rfl⟩) av_nil) cd_tupleL rfl T.b_tuple (by decide +kernel)) (by rw [er, ey]))) ?_
  generalize textOf cs (cellN ns 2) = ps at g
  refine svs_cons (G1 := [some (.list (ns.map PyData.int)), some (.list [a, .list (cs.map PyData.int), b, t, .int pl]), some (.list (menuL.map PyData.str)), some (.tuple (pcL pl ps rs ys)), none, none, none])
    (sv_for (k := 0) (as := List.range ((11 : Int) - 5).toNat) (D := fun (i : Nat) => PyData.int (5 + (i : Int))) (g := gName 4) (B := bindAt 4) (fun _ => [some (.list (ns.map PyData.int)), some (.list [a, .list (cs.map PyData.int), b, t, .int pl]), some (.list (menuL.map PyData.str)), some (.tuple (pcL pl ps rs ys)), none, none, none]) PassesOwn.never rfl
      (iv_range2 ev_int ev_int ⟨by decide, by decide, by decide, by decide⟩ rfl T.b_range) (pg_name (i := 4) sc_law.nd rfl (Or.inl rfl)) (fun _ _ => bindDAt 4 _) ?b1) ?rest
  case rest =>
    exact svs_ret (sv_ret (ev_cmp (ev_rows (st := pl) (ps := ps) (rows := rs) (ways := ys) CP M bI FI (hr.mono (by decide)) rfl (av_cons (ev_ixT (ds := pcL pl ps rs ys) (ev_var 3 (by rfl) (pv 3)) ev_int (atI_of (by decide) rfl)) (av_cons (ev_ixT (ds := pcL pl ps rs ys) (ev_var 3 (by rfl) (pv 3)) ev_int (atI_of (by decide) rfl)) (av_cons (ev_ixT (ds := pcL pl ps rs ys) (ev_var 3 (by rfl) (pv 3)) ev_int (atI_of (by decide) rfl)) (av_cons (ev_ixT (ds := pcL pl ps rs ys) (ev_var 3 (by rfl) (pv 3)) ev_int (atI_of (by decide) rfl)) av_nil)))) (good_check g CB)) (ev_ixT (ds := pcL pl ps rs ys) (ev_var 3 (by rfl) (pv 3)) ev_int (atI_of (by decide) rfl)) (od_eq (by walk_at "un") hlay.1 hlay.1 (by have := hlay.2; omega) (eqv_self _ hlay.1)) (nomark _)))
  intro i q hq
  have hi : q = i ∧ i < 6 := by
    have h1 := (List.getElem?_eq_some_iff.mp hq).1
    rw [List.length_range] at h1
    have h6 : i < 6 := h1
    rw [List.getElem?_range h1] at hq
    exact ⟨(Option.some.inj hq).symm, h6⟩
  obtain ⟨rfl, hi6⟩ := hi
  have sp := spl_ok g CB (cellN ns (5 + q)) (cellN ns (5 + q) % 4).toNat
  refine svs_forget (G1 := [some (.list (ns.map PyData.int)), some (.list [a, .list (cs.map PyData.int), b, t, .int pl]), some (.list (menuL.map PyData.str)), some (.tuple (pcL pl ps rs ys)), some (.int (5 + (q : Int))), some (.tuple (pcL (splQ pl ps rs ys (cellN ns (5 + q)) (cellN ns (5 + q) % 4).toNat).st (splQ pl ps rs ys (cellN ns (5 + q)) (cellN ns (5 + q) % 4).toNat).ps (splQ pl ps rs ys (cellN ns (5 + q)) (cellN ns (5 + q) % 4).toNat).rows (splQ pl ps rs ys (cellN ns (5 + q)) (cellN ns (5 + q) % 4).toNat).ways)), some (.int (splQ pl ps rs ys (cellN ns (5 + q)) (cellN ns (5 + q) % 4).toNat).due)]) ?_ rfl ?fg
  case fg =>
    intro j d e
    match j, e with
    | 0, e => exact e
    | 1, e => exact e
    | 2, e => exact e
    | 3, e => exact e
    | 4, e => cases e
    | 5, e => cases e
    | 6, e => cases e
    | n + 7, e => cases e
  refine svs_cons (sv_asg (k := 0) (d := .list [.tuple (pcL (splQ pl ps rs ys (cellN ns (5 + q)) (cellN ns (5 + q) % 4).toNat).st (splQ pl ps rs ys (cellN ns (5 + q)) (cellN ns (5 + q) % 4).toNat).ps (splQ pl ps rs ys (cellN ns (5 + q)) (cellN ns (5 + q) % 4).toNat).rows (splQ pl ps rs ys (cellN ns (5 + q)) (cellN ns (5 + q) % 4).toNat).ways), .int (splQ pl ps rs ys (cellN ns (5 + q)) (cellN ns (5 + q) % 4).toNat).due]) (B := bindLs [5, 6]) (g := gLst K 2 (gNames [5, 6])) (ev_call D_spoiled (by walk_at "rm") rfl (av_cons (ev_var 3 (by rfl) (pv 3)) (av_cons (ev_call D_law_cell (by walk_at "rm") rfl (av_cons (ev_var 0 (by rfl) (pv 0)) (av_cons (ev_var 4 (by rfl) (pv 4)) av_nil)) ⟨ns, 5 + q, by rw [show (5 : Int) + (q : Int) = ((5 + q : Nat) : Int) by omega], hns, by omega, rfl⟩) av_nil)) ⟨pl, ps, rs, ys, cellN ns (5 + q), g, rfl, rfl⟩) (pg_lst rfl (pgs_cons (pg_name (i := 5) sc_law.nd rfl (Or.inl rfl)) (pgs_cons (pg_name (i := 6) sc_law.nd rfl (Or.inl rfl)) pgs_nil))) (bindDLs [5, 6] _ rfl) rfl) ?_
  generalize splQ pl ps rs ys (cellN ns (5 + q)) (cellN ns (5 + q) % 4).toNat = z at sp
  exact svs_cons (sv_if (k := false) (tv_not (k := true) (tv_val (ev_call D_refused (by walk_at "rm") rfl (av_cons (ev_var 5 (by rfl) (pv 5)) (av_cons (ev_var 6 (by rfl) (pv 6)) av_nil)) ⟨z.st, z.ps, z.rows, z.ways, z.due, rfl, sp.1, sp.2, rfl⟩))) (fun h => by cases h) (fun _ => svs_nil)) svs_nil
end
section
variable {P : Program} {w : World} {K : PySem.W.Frag} {mg : Str → Option Value} {base : Heap}
def lookB (K : PySem.W.Frag) (C : Addr) : Bool := PySem.W.findIn K (.ref C) "__getattribute__" == some (some (.builtin "BaseException.__getattribute__")) && (PySem.W.findIn K (.ref C) "__getattr__" == some none && (PySem.W.findIn K (.ref C) "__class__" == some (some (.builtin "object.__class__")) &&
  (PySem.W.mroIn K C (.type "object") == some true && (PySem.W.mroIn K C (.type "BaseException") == some true && (PySem.W.clsIn K C).isSome))))
theorem lookB_look {K : PySem.W.Frag} {C : Addr} (h : lookB K C = true) (g1 : PySem.W.specialIn K (.builtin "object.__class__") "__get__" = some (some (.builtin "getset_descriptor.__get__"))) (g2 : PySem.W.takesIn K (.builtin "object.__class__") = some true) : ExcLook K C := by
  unfold lookB at h
  simp only [Bool.and_eq_true, beq_iff_eq] at h
  exact ⟨h.1, h.2.1, h.2.2.1, g1, g2, h.2.2.2.1, h.2.2.2.2.1, h.2.2.2.2.2⟩
theorem all_mk {l : PySem.W.OpenLaw} {w : World} {K : PySem.W.Frag} {h : Heap} {mg : Str → Option Value} {fa C fI CB CK CT L fE N7 : Addr} {t_SPOTS t_MOST_CELLS t_MOST_ROWS t_MOST_DONE : Tok} {oc : Value} {od an : Option Addr} {osl : Array (Option Value)} {kV doc pm cdv ct : Value} {cdL : ClassData} {nm7 q7 : Str} {bs7 bm7 sub7 : List Value} {sn7 : List Str} {ab7 : Bool} {col7 : Option Bool} {dd7 od7 an7 : Option Addr} {u07 u17 u27 u37 u57 : Option Value} {oc7 kV7 doc7 pm7 cdv7 ct7 : Value} {osl7 : Array (Option Value)} (X : K.In h) (G : h.Ns mainGlobals mg) (hfa : mg "law" = some (.ref fa))
    (h1 : ∃ f fd, FnIn K "is_below" s_is_below f fd) (h2 : ∃ f fd, FnIn K "is_word" s_is_word f fd) (h3 : ∃ f fd, FnIn K "is_tuple" s_is_tuple f fd) (h4 : ∃ f fd, FnIn K "are_pairs" s_are_pairs f fd) (h5 : ∃ f fd, FnIn K "is_recipe" s_is_recipe f fd) (h6 : ∃ f fd, FnIn K "is_question" s_is_question f fd) (h7 : ∃ f fd, FnIn K "is_truth_recipe" s_is_truth_recipe f fd) (h8 : ∃ f fd, FnIn K "is_way" s_is_way f fd) (h9 : ∃ f fd, FnIn K "is_test" s_is_test f fd) (h10 : ∃ f fd, FnIn K "is_made_row" s_is_made_row f fd) (h11 : ∃ f fd, FnIn K "check_piece" s_check_piece f fd) (h12 : ∃ f fd, FnIn K "_law_whole" s_law_whole f fd) (h13 : ∃ f fd, FnIn K "_law_cell" s_law_cell f fd) (h14 : ∃ f fd, FnIn K "_law_recipe" s_law_recipe f fd) (h15 : ∃ f fd, FnIn K "_law_truth" s_law_truth f fd) (h16 : ∃ f fd, FnIn K "_law_way" s_law_way f fd) (h17 : ∃ f fd, FnIn K "_law_row" s_law_row f fd) (h18 : ∃ f fd, FnIn K "_law_state" s_law_state f fd) (h19 : ∃ f fd, FnIn K "_law_text" s_law_text f fd) (h20 : ∃ f fd, FnIn K "_law_piece" s_law_piece f fd) (h21 : ∃ f fd, FnIn K "_law_other" s_law_other f fd) (h22 : ∃ f fd, FnIn K "_law_bad_recipe" s_law_bad_recipe f fd) (h23 : ∃ f fd, FnIn K "_law_bad_truth" s_law_bad_truth f fd) (h24 : ∃ f fd, FnIn K "_law_bad_way" s_law_bad_way f fd) (h25 : ∃ f fd, FnIn K "_law_bad_row" s_law_bad_row f fd) (h26 : ∃ f fd, FnIn K "_law_bad_whole" s_law_bad_whole f fd) (h27 : ∃ f fd, FnIn K "_law_refused" s_law_refused f fd) (h28 : ∃ f fd, FnIn K "_law_spoiled" s_law_spoiled f fd) (h29 : ∃ f fd, FnIn K "law" s_law f fd)
    (z1 : PySem.W.nsIn K mainGlobals "len" = some none) (z2 : PySem.W.nsIn K mainGlobals "isinstance" = some none) (z3 : PySem.W.nsIn K mainGlobals "int" = some none) (z4 : PySem.W.nsIn K mainGlobals "bool" = some none) (z5 : PySem.W.nsIn K mainGlobals "str" = some none) (z6 : PySem.W.nsIn K mainGlobals "all" = some none) (z7 : PySem.W.nsIn K mainGlobals "zip" = some none) (z8 : PySem.W.nsIn K mainGlobals "tuple" = some none) (z9 : PySem.W.nsIn K mainGlobals "range" = some none) (z10 : PySem.W.nsIn K mainGlobals "max" = some none) (z11 : PySem.W.nsIn K mainGlobals "min" = some none) (z12 : PySem.W.nsIn K mainGlobals "enumerate" = some none) (z13 : PySem.W.nsIn K mainGlobals "list" = some none) (z14 : PySem.W.nsIn K mainGlobals "ValueError" = some none)
    (d1 : GDict K mg w.params "MADE_PARTS" madePartT) (d2 : GDict K mg w.params "MADE_BOUNDS" madeBoundT) (d3 : GNot K mg w.params "MADE_PARTS" "nothing")
    (p0 : PySem.W.nsIn K mainGlobals "SPOTS" = some (some (.int 12 t_SPOTS))) (p1 : PySem.W.nsIn K mainGlobals "MOST_CELLS" = some (some (.int 60 t_MOST_CELLS))) (p2 : PySem.W.nsIn K mainGlobals "MOST_ROWS" = some (some (.int 60 t_MOST_ROWS))) (p3 : PySem.W.nsIn K mainGlobals "MOST_DONE" = some (some (.int 99 t_MOST_DONE))) (p4 : PySem.W.nsIn K mainGlobals "Piece" = some (some (.ref C))) (p5 : PySem.W.findIn K (.ref C) "__init__" = some (some (.ref fI))) (p6 : PySem.W.isFn K (.ref fI) = true) (p7 : K.lookup fI = some ⟨oc, od, .func (PySem.W.fnOf "__init__" "Piece.__init__" (defArgs s_init) (defBody s_init) (defScope s_init) .none kV doc pm an cdv ct), osl⟩) (p8 : PySem.W.codeIn K cdv "Piece.__init__" = true) (p9 : PySem.W.keepIn K (.ref fI) = true) (p10 : PySem.W.plainGet K C Str.empty = true) (p11 : PySem.W.hasDictIn K C = true) (p12 : PySem.W.plainOver K C = true) (p13 : PySem.W.findIn K (.ref C) "__setattr__" = some (some (.builtin "object.__setattr__"))) (p14 : PySem.W.makesIn K C = true) (p15 : PySem.W.keepIn K (.ref C) = true) (p16 : PySem.W.findIn K (.ref C) "start" = some none) (p17 : PySem.W.findIn K (.ref C) "text" = some none) (p18 : PySem.W.findIn K (.ref C) "rows" = some none) (p19 : PySem.W.findIn K (.ref C) "ways" = some none) (p20 : PySem.W.nsIn K mainGlobals "BadPiece" = some (some (.ref CB))) (p21 : PySem.W.nsIn K mainGlobals "BadBook" = some (some (.ref CK))) (p22 : PySem.W.nsIn K mainGlobals "BadText" = some (some (.ref CT))) (p23 : PySem.W.nsIn K mainGlobals "LikeError" = some (some (.ref L))) (p24 : PySem.W.findIn K (.ref CB) "__init__" = some (some (.ref fE))) (p25 : K.lookup CB = some (excClassObj nm7 q7 CB N7 bs7 bm7 true sn7 sub7 ab7 col7 dd7 u07 u17 u27 u37 u57 "ValueError.__new__")) (p26 : PySem.W.tailIn K bmV bm7 = true) (p27 : PySem.W.isFn K (.ref fE) = true) (p28 : K.lookup fE = some ⟨oc7, od7, .func (PySem.W.fnOf "__init__" "BadPiece.__init__" (defArgs s_binit) (defBody s_binit) (defScope s_binit) .none kV7 doc7 pm7 an7 cdv7 ct7), osl7⟩) (p29 : PySem.W.codeIn K cdv7 "BadPiece.__init__" = true) (p30 : PySem.W.keepIn K (.ref fE) = true) (p31 : PySem.W.findIn K (.ref CB) "__setattr__" = some (some (.builtin "object.__setattr__"))) (p32 : PySem.W.findIn K (.ref CB) "row" = some none) (p33 : PySem.W.hasDictIn K CB = true) (p34 : PySem.W.keepIn K (.ref CB) = true) (p35 : PySem.W.instIn K (.ref L) (.type "tuple") = some false) (p36 : PySem.W.clsIn K L = some cdL) (p37 : PySem.W.subIn K (.ref L) (.type "BaseException") = some true) (p38 : PySem.W.subIn K (.ref CB) (.ref L) = some true) (p39 : PySem.W.specialIn K (.ref L) "__getattribute__" = some (some (.builtin "type.__getattribute__"))) (p40 : PySem.W.readsIn K L (.type "type") = true) (p41 : PySem.W.findCls K (.ref L) (.type "type") "__init__" = some (.val (.builtin "ValueError.__init__"))) (p42 : PySem.W.specialIn K (.builtin "object.__class__") "__get__" = some (some (.builtin "getset_descriptor.__get__"))) (p43 : PySem.W.takesIn K (.builtin "object.__class__") = some true) (p44 : lookB K CB = true) (p45 : PySem.W.kitOne K (.ref CB) (.ref CB) = some true) (p46 : PySem.W.kitOne K (.ref CB) (.ref CK) = some false) (p47 : PySem.W.kitOne K (.ref CB) (.ref CT) = some false) (p48 : PySem.W.kitOne K (.ref CB) (.type "ValueError") = some true) :
    ∃ fd : FuncData, (∀ (s : Shared) (v : Value), BindsTo s fd ⟨[v], []⟩ [("script", v)]) ∧ ∀ base : Heap, K.In base → base.Ns mainGlobals mg → FnOk l.prog w K mg base CX0 20 fa fd ["script"] (spD K F_law) := by
  have T : Txt K mg w.params := ⟨PySem.W.mg_none_of X G z1, PySem.W.mg_none_of X G z2, PySem.W.mg_none_of X G z3, PySem.W.mg_none_of X G z4, PySem.W.mg_none_of X G z5, PySem.W.mg_none_of X G z6, PySem.W.mg_none_of X G z7, PySem.W.mg_none_of X G z8, PySem.W.mg_none_of X G z9, PySem.W.mg_none_of X G z10, PySem.W.mg_none_of X G z11, PySem.W.mg_none_of X G z12, ⟨_, PySem.W.mg_of X G p0⟩, ⟨_, PySem.W.mg_of X G p1⟩, ⟨_, PySem.W.mg_of X G p2⟩, ⟨_, PySem.W.mg_of X G p3⟩, d1, d2⟩
  have CP : ClsP K mg C := ⟨⟨p10, p11, p12, p13⟩, p16, p17, p18, p19, PySem.W.mg_of X G p4⟩
  have M : Mk K C fI := ⟨p14, p5, p6, p15⟩
  have FI0 : Fun K "__init__" "Piece.__init__" s_init fI _ := fun_mk p7 p8 p9
  have FE0 : Fun K "__init__" "BadPiece.__init__" s_binit fE _ := fun_mk p28 p29 p30
  have lk : ExcLook K CB := lookB_look p44 p42 p43
  have ini : ExcI K CB fE := ⟨⟨_, _, _, _, _, _, _, _, _, _, _, _, _, _, _, p25, p26⟩, p24, p27, p34, p31, p32, lk⟩
  have Te : ExcF K mg CB CK CT L fE := ⟨PySem.W.mg_of X G p20, PySem.W.mg_of X G p21, PySem.W.mg_of X G p22, PySem.W.mg_of X G p23, PySem.W.mg_none_of X G z14, lk, p45, p46, p47, p48, ini, ⟨p35, by rw [p36]; rfl, p37, p38⟩, p33, p39, p40, p41⟩
  obtain ⟨a1, b1, F1⟩ := h1
  obtain ⟨a2, b2, F2⟩ := h2
  obtain ⟨a3, b3, F3⟩ := h3
  obtain ⟨a4, b4, F4⟩ := h4
  obtain ⟨a5, b5, F5⟩ := h5
  obtain ⟨a6, b6, F6⟩ := h6
  obtain ⟨a7, b7, F7⟩ := h7
  obtain ⟨a8, b8, F8⟩ := h8
  obtain ⟨a9, b9, F9⟩ := h9
  obtain ⟨a10, b10, F10⟩ := h10
  obtain ⟨a11, b11, F11⟩ := h11
  obtain ⟨a12, b12, F12⟩ := h12
  obtain ⟨a13, b13, F13⟩ := h13
  obtain ⟨a14, b14, F14⟩ := h14
  obtain ⟨a15, b15, F15⟩ := h15
  obtain ⟨a16, b16, F16⟩ := h16
  obtain ⟨a17, b17, F17⟩ := h17
  obtain ⟨a18, b18, F18⟩ := h18
  obtain ⟨a19, b19, F19⟩ := h19
  obtain ⟨a20, b20, F20⟩ := h20
  obtain ⟨a21, b21, F21⟩ := h21
  obtain ⟨a22, b22, F22⟩ := h22
  obtain ⟨a23, b23, F23⟩ := h23
  obtain ⟨a24, b24, F24⟩ := h24
  obtain ⟨a25, b25, F25⟩ := h25
  obtain ⟨a26, b26, F26⟩ := h26
  obtain ⟨a27, b27, F27⟩ := h27
  obtain ⟨a28, b28, F28⟩ := h28
  obtain ⟨a29, b29, F29⟩ := h29
  have e := hfa.symm.trans (PySem.W.mg_of X G F29.ns)
  cases e
  have bs : ∀ (s : Shared) (v : Value), BindsTo s b29 ⟨[v], []⟩ [("script", v)] := by
    obtain ⟨oc, od, kV, doc, pm, an, cdv, ct, osl, rfl, _⟩ := F29.fn.ex
    exact fun s v => .of_eq rfl
  refine ⟨b29, bs, fun base _ _ => ?_⟩
  have D1 : DFn l.prog w K mg base 1 "is_below" F_is_below := d_is_below T F1.fn (PySem.W.mg_of X G F1.ns)
  have D2 := d_is_word D1 F2.fn (PySem.W.mg_of X G F2.ns)
  have D3 : DFn l.prog w K mg base 1 "is_tuple" F_is_tuple := d_is_tuple T F3.fn (PySem.W.mg_of X G F3.ns)
  have D4 := d_are_pairs T D3 D1 D2 F4.fn (PySem.W.mg_of X G F4.ns)
  have D5 := d_is_recipe T D3 D2 D4 F5.fn (PySem.W.mg_of X G F5.ns)
  have D6 := d_is_question T D1 F6.fn (PySem.W.mg_of X G F6.ns)
  have D7 := d_is_truth_recipe T D3 D1 D6 F7.fn (PySem.W.mg_of X G F7.ns)
  have D8 := d_is_way T D3 D1 D5 D7 F8.fn (PySem.W.mg_of X G F8.ns)
  have D9 := d_is_test T D6 D8 F9.fn (PySem.W.mg_of X G F9.ns)
  have D10 := d_is_made_row T d3 D1 D9 F10.fn (PySem.W.mg_of X G F10.ns)
  have FE : FnOk l.prog w K mg base CX0 1 fE _ ["self", "row"] (spIE CB) := ok_binit Te FE0
  have D11 := x_check_piece T ini FE (FE0.binds (ps := ["self", "row"]) fun _ _ _ _ _ _ us hl => match us, hl with | [_, _], _ => rfl) Te.mB D2 D4 D8 D10 F11.fn (PySem.W.mg_of X G F11.ns)
  have FI := ok_init T CP D11 FI0
  have bI := FI0.binds (ps := ["self", "start", "text", "rows", "ways"]) fun _ _ _ _ _ _ us hl => match us, hl with | [_, _, _, _, _], _ => rfl
  have D13 : DFn l.prog w K mg base 1 "_law_cell" F_cell := d_law_cell T F13.fn (PySem.W.mg_of X G F13.ns)
  have D14 : DFn l.prog w K mg base 1 "_law_recipe" F_rec := d_law_recipe T F14.fn (PySem.W.mg_of X G F14.ns)
  have D15 : DFn l.prog w K mg base 1 "_law_truth" F_truth := d_law_truth T F15.fn (PySem.W.mg_of X G F15.ns)
  have D16 := d_law_way T D14 D15 F16.fn (PySem.W.mg_of X G F16.ns)
  have D17 := d_law_row T D16 F17.fn (PySem.W.mg_of X G F17.ns)
  have D18 := r_law_state T D13 F18.fn (PySem.W.mg_of X G F18.ns)
  have D19 : DFn l.prog w K mg base 1 "_law_text" F_text := d_law_text T F19.fn (PySem.W.mg_of X G F19.ns)
  have D20 := d_law_piece T D13 D17 D16 D19 F20.fn (PySem.W.mg_of X G F20.ns)
  have D21 : DFn l.prog w K mg base 1 "_law_other" F_other := d_law_other T (PySem.W.mg_none_of X G z13) F21.fn (PySem.W.mg_of X G F21.ns)
  have D22 : DFn l.prog w K mg base 1 "_law_bad_recipe" F_bad_rec := d_law_bad_recipe T F22.fn (PySem.W.mg_of X G F22.ns)
  have D23 : DFn l.prog w K mg base 1 "_law_bad_truth" F_bad_tru := d_law_bad_truth T F23.fn (PySem.W.mg_of X G F23.ns)
  have D24 := d_law_bad_way T D21 D22 D23 F24.fn (PySem.W.mg_of X G F24.ns)
  have D25 := d_law_bad_row T D24 F25.fn (PySem.W.mg_of X G F25.ns)
  have D26 : DFn l.prog w K mg base 1 "_law_bad_whole" F_bad_whole := d_law_bad_whole T F26.fn (PySem.W.mg_of X G F26.ns)
  have D27 := d_law_refused T Te CP M bI FI F12.fn (PySem.W.mg_of X G F12.ns) F27.fn (PySem.W.mg_of X G F27.ns)
  have D28 := d_law_spoiled T D21 D24 D25 D26 F28.fn (PySem.W.mg_of X G F28.ns)
  exact ok_law T CP M bI FI D18 D20 D13 D28 D27 F29.fn
end
end My
open PySem PySem.W PyProof.Rows
set_option maxRecDepth 100000 in
set_option maxHeartbeats 0 in
theorem PySem.Challenge.cw_likewise_k27_pieces_refused_holds : PySem.Challenge.rw_likewise_k27_pieces_refused.Holds := by
  w_on; o_law; k_head; (case hw => w_witness2)
  k_fill
  refine L2.walk_D (l := PySem.Challenge.rw_likewise_k27_pieces_refused) rfl rfl (fun w h Y => PySem.W.kIn_of Y) ?F
  case F =>
    intro w mg fa h KX G hmg
    refine' My.all_mk KX G hmg ?h1 ?h2 ?h3 ?h4 ?h5 ?h6 ?h7 ?h8 ?h9 ?h10 ?h11 ?h12 ?h13 ?h14 ?h15 ?h16 ?h17 ?h18 ?h19 ?h20 ?h21 ?h22 ?h23 ?h24 ?h25 ?h26 ?h27 ?h28 ?h29 ?z1 ?z2 ?z3 ?z4 ?z5 ?z6 ?z7 ?z8 ?z9 ?z10 ?z11 ?z12 ?z13 ?z14 ?d1 ?d2 ?d3 ?p0 ?p1 ?p2 ?p3 ?p4 ?p5 ?p6 ?p7 ?p8 ?p9 ?p10 ?p11 ?p12 ?p13 ?p14 ?p15 ?p16 ?p17 ?p18 ?p19 ?p20 ?p21 ?p22 ?p23 ?p24 ?p25 ?p26 ?p27 ?p28 ?p29 ?p30 ?p31 ?p32 ?p33 ?p34 ?p35 ?p36 ?p37 ?p38 ?p39 ?p40 ?p41 ?p42 ?p43 ?p44 ?p45 ?p46 ?p47 ?p48
    (case h1 => refine' L2.fnIn_mk ?a ?l ?c ?k; (case a => k_is); (case l => k_is); (case c => k_is); (case k => k_is))
    (case h2 => refine' L2.fnIn_mk ?a ?l ?c ?k; (case a => k_is); (case l => k_is); (case c => k_is); (case k => k_is))
    (case h3 => refine' L2.fnIn_mk ?a ?l ?c ?k; (case a => k_is); (case l => k_is); (case c => k_is); (case k => k_is))
    (case h4 => refine' L2.fnIn_mk ?a ?l ?c ?k; (case a => k_is); (case l => k_is); (case c => k_is); (case k => k_is))
    (case h5 => refine' L2.fnIn_mk ?a ?l ?c ?k; (case a => k_is); (case l => k_is); (case c => k_is); (case k => k_is))
    (case h6 => refine' L2.fnIn_mk ?a ?l ?c ?k; (case a => k_is); (case l => k_is); (case c => k_is); (case k => k_is))
    (case h7 => refine' L2.fnIn_mk ?a ?l ?c ?k; (case a => k_is); (case l => k_is); (case c => k_is); (case k => k_is))
    (case h8 => refine' L2.fnIn_mk ?a ?l ?c ?k; (case a => k_is); (case l => k_is); (case c => k_is); (case k => k_is))
    (case h9 => refine' L2.fnIn_mk ?a ?l ?c ?k; (case a => k_is); (case l => k_is); (case c => k_is); (case k => k_is))
    (case h10 => refine' L2.fnIn_mk ?a ?l ?c ?k; (case a => k_is); (case l => k_is); (case c => k_is); (case k => k_is))
    (case h11 => refine' L2.fnIn_mk ?a ?l ?c ?k; (case a => k_is); (case l => k_is); (case c => k_is); (case k => k_is))
    (case h12 => refine' L2.fnIn_mk ?a ?l ?c ?k; (case a => k_is); (case l => k_is); (case c => k_is); (case k => k_is))
    (case h13 => refine' L2.fnIn_mk ?a ?l ?c ?k; (case a => k_is); (case l => k_is); (case c => k_is); (case k => k_is))
    (case h14 => refine' L2.fnIn_mk ?a ?l ?c ?k; (case a => k_is); (case l => k_is); (case c => k_is); (case k => k_is))
    (case h15 => refine' L2.fnIn_mk ?a ?l ?c ?k; (case a => k_is); (case l => k_is); (case c => k_is); (case k => k_is))
    (case h16 => refine' L2.fnIn_mk ?a ?l ?c ?k; (case a => k_is); (case l => k_is); (case c => k_is); (case k => k_is))
    (case h17 => refine' L2.fnIn_mk ?a ?l ?c ?k; (case a => k_is); (case l => k_is); (case c => k_is); (case k => k_is))
    (case h18 => refine' L2.fnIn_mk ?a ?l ?c ?k; (case a => k_is); (case l => k_is); (case c => k_is); (case k => k_is))
    (case h19 => refine' L2.fnIn_mk ?a ?l ?c ?k; (case a => k_is); (case l => k_is); (case c => k_is); (case k => k_is))
    (case h20 => refine' L2.fnIn_mk ?a ?l ?c ?k; (case a => k_is); (case l => k_is); (case c => k_is); (case k => k_is))
    (case h21 => refine' L2.fnIn_mk ?a ?l ?c ?k; (case a => k_is); (case l => k_is); (case c => k_is); (case k => k_is))
    (case h22 => refine' L2.fnIn_mk ?a ?l ?c ?k; (case a => k_is); (case l => k_is); (case c => k_is); (case k => k_is))
    (case h23 => refine' L2.fnIn_mk ?a ?l ?c ?k; (case a => k_is); (case l => k_is); (case c => k_is); (case k => k_is))
    (case h24 => refine' L2.fnIn_mk ?a ?l ?c ?k; (case a => k_is); (case l => k_is); (case c => k_is); (case k => k_is))
    (case h25 => refine' L2.fnIn_mk ?a ?l ?c ?k; (case a => k_is); (case l => k_is); (case c => k_is); (case k => k_is))
    (case h26 => refine' L2.fnIn_mk ?a ?l ?c ?k; (case a => k_is); (case l => k_is); (case c => k_is); (case k => k_is))
    (case h27 => refine' L2.fnIn_mk ?a ?l ?c ?k; (case a => k_is); (case l => k_is); (case c => k_is); (case k => k_is))
    (case h28 => refine' L2.fnIn_mk ?a ?l ?c ?k; (case a => k_is); (case l => k_is); (case c => k_is); (case k => k_is))
    (case h29 => refine' L2.fnIn_mk ?a ?l ?c ?k; (case a => k_is); (case l => k_is); (case c => k_is); (case k => k_is))
    (case z1 => k_is)
    (case z2 => k_is)
    (case z3 => k_is)
    (case z4 => k_is)
    (case z5 => k_is)
    (case z6 => k_is)
    (case z7 => k_is)
    (case z8 => k_is)
    (case z9 => k_is)
    (case z10 => k_is)
    (case z11 => k_is)
    (case z12 => k_is)
    (case z13 => k_is)
    (case z14 => k_is)
    (case d1 => refine' L2.gdict_mk KX G ?a ?l ?k ?t ?n; (case a => k_is); (case l => k_is); (case k => k_keys); (case t => rfl); (case n => decide +kernel))
    (case d2 => refine' L2.gdict_mk KX G ?a ?l ?k ?t ?n; (case a => k_is); (case l => k_is); (case k => k_keys); (case t => rfl); (case n => decide +kernel))
    (case d3 => refine' L2.gnot_mk KX G ?a ?l ?k ?t ?n; (case a => k_is); (case l => k_is); (case k => k_keys); (case t => k_is); (case n => rfl))
    (case p0 => k_is)
    (case p1 => k_is)
    (case p2 => k_is)
    (case p3 => k_is)
    (case p4 => k_is)
    (case p5 => k_is)
    (case p6 => k_is)
    (case p7 => k_is)
    (case p8 => k_is)
    (case p9 => k_is)
    (case p10 => k_is)
    (case p11 => k_is)
    (case p12 => k_is)
    (case p13 => k_is)
    (case p14 => k_is)
    (case p15 => k_is)
    (case p16 => k_is)
    (case p17 => k_is)
    (case p18 => k_is)
    (case p19 => k_is)
    (case p20 => k_is)
    (case p21 => k_is)
    (case p22 => k_is)
    (case p23 => k_is)
    (case p24 => k_is)
    (case p25 => k_is)
    (case p26 => kernel_rfl)
    (case p27 => k_is)
    (case p28 => k_is)
    (case p29 => k_is)
    (case p30 => k_is)
    (case p31 => k_is)
    (case p32 => k_is)
    (case p33 => k_is)
    (case p34 => k_is)
    (case p35 => k_is)
    (case p36 => k_is)
    (case p37 => k_is)
    (case p38 => k_is)
    (case p39 => k_is)
    (case p40 => k_is)
    (case p41 => k_is)
    (case p42 => k_is)
    (case p43 => k_is)
    (case p44 => kernel_rfl)
    (case p45 => kernel_rfl)
    (case p46 => kernel_rfl)
    (case p47 => kernel_rfl)
    (case p48 => kernel_rfl)

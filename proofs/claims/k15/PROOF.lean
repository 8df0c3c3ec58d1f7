import PyProof.Rows.All
import Wide.All
import OpenK.AllK
import Wide.FinOn
import Lean
import PyProof.EqAt
import PyProof.EqKinds
import PyProof.TupleCall
import KE.KSortTup
import KE.KItemsList
import PyProof.Draws
import PyProof.EnumFor
import PyProof.EnumStmt
import PyProof.AttrMissHeap
import PyProof.WalksS
import PyProof.WalksMore
import KE.KDictOf
import KE.KDictSum
import PyProof.TupleKey
import PyProof.P3Eq
import PyProof.Rows.TupTab
import PyProof.DictRoadsH
import PyProof.MinMaxWalk
import PyProof.WalkInts
import PyProof.FactsAll.tuple_1
import PyProof.FactsAll.tuple_2
import PyProof.P3In
import PyProof.Walks
import PyProof.Seq
import PyProof.Rows.CallKwBuiltin
import KE.KRevSl
import PySem.Challenge.RW_likewise_k15_twins
set_option maxRecDepth 100000
set_option maxHeartbeats 8000000
set_option Elab.async false
set_option linter.all false
namespace PySem.W.Fast
def tw1657707531909569:=()
def tw3969736773015300769:=()
def tw17667493940969085027:=()
def tw9376216236544199843:=()
def tw5075071836151368101:=()
def tw7453930951332906437:=()
def tw14077533841476105765:=()
def tw4810004507606476709:=()
def tw4687374174229978633:=()
def tw8940305331643969546:=()
def tw9772969007677436298:=()
def tw9553665215036361132:=()
def tw262726070761871630:=()
def tw5272739871514866864:=()
def tw13993763745610947121:=()
def tw15057489009763115026:=()
def tw3316036333615077394:=()
def tw13895053114292685299:=()
def tw985110783255771541:=()
def tw14990885836469670774:=()
def tw14477600019146910487:=()
def tw6489494766337679738:=()
def tw13998508538625193786:=()
def tw14647601253991529851:=()
def tw5955374780987534172:=()
def tw10711625649873845630:=()
def tw17470361899081510239:=()
def tw17234988534252851103:=()
def tw15870417426577726683:=()
def tw1566818379379757582:=()
def tw7488961272689760801:=()
def tw11460556636285208237:=()
def tw679678263974051676:=()
def tw10614236502462365167:=()
def tw18274785386665857467:=()
def tw8189021013381583180:=()
def tw4223754816089329052:=()
def tw10361466942151799608:=()
def tw909445970486313030:=()
def tw5904594505418493701:=()
def tw4125144557614063436:=()
def tw6794645333307580135:=()
def tw9019541754963924145:=()
def tw1975015108752585368:=()
def tw2036485144551873103:=()
def tw5740246815204970735:=()
def tw13355742182801657236:=()
def tw16979299817046788688:=()
def tw8201619176600660771:=()
def tw4458616857798067394:=()
def tw14092512029156608737:=()
def tw3007389170393463424:=()
def tw4260200912848107407:=()
def tw4577773490371144459:=()
def tw5428888750836338065:=()
def tw3284938104233143553:=()
def tw18360736932019272386:=()
def tw13977235231344247586:=()
def tw5331878915986251718:=()
def tw16488331112410284483:=()
def tw8801399012270288271:=()
def tw16788554232769177309:=()
def tw4653261100296147765:=()
def tw12442529350111514803:=()
def tw3624770065119267886:=()
def tw13407449340710885059:=()
def tw9988059137022854497:=()
def tw1584718546788921763:=()
def tw11063144313239442324:=()
def tw3102443875904280469:=()
def tw5001483124507848079:=()
def tw2952986460574359152:=()
def tw3613205603223508608:=()
def tw5914384427685980718:=()
def tw16322137207416905366:=()
def tw7857523228608711214:=()
def tw13256698361954390830:=()
def tw8707337641534967781:=()
def tw7053471409956914418:=()
def tw811584446991076416:=()
def tw18342207990525948632:=()
def tw9427537596962901783:=()
def tw9785488160738928788:=()
def tw13662555023747995111:=()
def tw11958282551972055351:=()
def tw17834817364186254614:=()
def tw1663893586545968676:=()
def tw13094198101034595669:=()
end PySem.W.Fast
open Array(length_toList toList)
open Bool(and_eq_true false_eq_true)
open ForInStep(yield)
open Int(emod_lt_of_pos emod_nonneg toNat_natCast zero_add)
open List(Nodup all_cons all_eq_true all_map any_cons any_eq_true any_map any_nil append_assoc append_nil cons_append ext_getElem? find?_cons flatten_cons foldl forIn_cons getD_eq_getElem?_getD getElem?_append_left getElem?_eq_getElem getElem?_map getElem?_replicate getElem?_set_ne getElem?_set_self getElem_inj getElem_mem length_append length_cons length_drop length_map length_nil length_replicate length_set length_take length_zip lookup_cons map map_append map_congr_left map_cons map_drop map_map map_nil map_set map_take mem_append mem_append_left mem_append_right mem_cons mem_cons_of_mem mem_cons_self mem_filter mem_map mem_map_of_mem mem_of_getElem? mem_range mem_singleton nil_append nodup_append nodup_cons nodup_nil not_mem_nil of_mem_zip pairwise_cons range replicate replicate_succ size_toArray sum_cons take_add_one take_of_length_le toArray)
open Nat(add_assoc add_comm le_of_lt le_refl le_succ le_trans lt_irrefl lt_of_lt_of_le lt_or_ge min_le_left ne_of_gt ne_of_lt zero_le)
open Ne(symm)
open Or(inl)
open PySem.Builtin.Slice(sliceAdjust sliceApplied sliceFields slicePlaces)
open PySem.Builtin.SmallTypes(ownedTupleHandOut ownedTupleIsFree)
open PySem.Builtin.Str(occurrences)
open PySem.Builtin.Tuple(tupleExact tupleHashOf tupleItemsOf)
open PySem.F(entry_zip_next plainAttrs_list slot_tuple_add slot_zip_next)
open PySem.Heap(ExtBut SameBut get?_push_of_some get?_push_size lt_size size_push)
open PySem.PassesOwn(never)
open PySem.PyData(canLay0 canLayAll0 depth depthAll eqv eqvAll int list str tuple)
open PySem.SeqAt.EqAt(bool_bool bool_int bool_none bool_str int_bool int_int int_none int_str none_bool none_int none_str str_bool str_int str_none str_str)
open PySem.W(Frag KasT KeysLit KitX callWith_K cellsFrom_some codeIn emptyDict findIn find_K fnOf handedIn hasDictIn instObj isFn keepIn kia_one kitOne kitx_dict kitx_list kitx_tuple lookIn makesIn methodCall_KW methodObj mg_none_of mg_of mroIn nsIn plainGet plainGet_of plainOver specialIn takerIn typeIn)
open Sum(inr)
namespace L2
open PySem PySem.Spec PyProof.Rows
abbrev Key:=Sum Int Str
def IK:Key->Value->Bool
 | .inl k,v=>Value.isInt k v
 | .inr x,v=>Value.isStrOf x v
def keyH(w:World):Key->Int
 | .inl k=>hashInt k
 | .inr x=>hashStr w x
theorem Bl:∀{k:Key}{v:Value},IK k v=true->(∃i t,k=Sum.inl i/\v=Value.int i t)\/(∃x t,k=inr x/\v=Value.str x t)
 | .inl i,v,h=>by
   obtain⟨t,e⟩:=Value.isInt_shape (k:=i) (v:=v) h
   exact .inl ⟨i,t,rfl,e⟩
 | .inr x,v,h=>by
   obtain⟨t,e⟩:=Value.isStrOf_shape (x:=x) (v:=v) h
   exact .inr ⟨x,t,rfl,e⟩
theorem Op(i:Int)(t:Tok):IK (.inl i) (.int i t)=true:=by simp[IK,Value.isInt]
theorem Oh(x:Str)(t:Tok):IK (.inr x) (.str x t)=true:=by simp[IK,Value.isStrOf]
theorem TJ(a b:Int):decide ((Sum.inl a:Key)=Sum.inl b)=(a==b):=by
 by_cases e:a=b
 .subst e;simp
 .have h:¬(Sum.inl a:Key)=Sum.inl b:=λq=>e (Sum.inl.inj q)
  rw[decide_eq_false h]
  exact(beq_eq_false_iff_ne.mpr e).symm
theorem T9(a b:Str):decide ((inr a:Key)=inr b)=decide (a=b):=by
 by_cases e:a=b
 .subst e;simp
 .have h:¬(inr a:Key)=inr b:=λq=>e (inr.inj q)
  rw[decide_eq_false h,decide_eq_false e]
theorem Uq(a:Int)(b:Str):decide ((Sum.inl a:Key)=inr b)=false:=decide_eq_false (λq=>nomatch q)
theorem Tw(a:Str)(b:Int):decide ((inr a:Key)=Sum.inl b)=false:=decide_eq_false (λq=>nomatch q)
def Bc(prog:Program)(w:World):PySem.KeyKind prog w Key where
 is:=IK
 hash:=keyH w
 inj:=λv a b ha hb=>by
  rcases Bl ha with⟨i,t,rfl,rfl⟩|⟨x,t,rfl,rfl⟩
  .rcases Bl hb with⟨j,u,rfl,e⟩|⟨y,u,rfl,e⟩
   .injection e with e1 _;rw[e1]
   .exact nomatch e
  .rcases Bl hb with⟨j,u,rfl,e⟩|⟨y,u,rfl,e⟩
   .exact nomatch e
   .injection e with e1 _;rw[e1]
 byValue:=λk v h=>by
  rcases Bl h with⟨i,t,rfl,rfl⟩|⟨x,t,rfl,rfl⟩<;>rfl
 pyHash:=λhv h=>by
  rcases Bl hv with⟨i,t,rfl,rfl⟩|⟨x,t,rfl,rfl⟩
  .exact wpAny_pyHash_int h
  .exact wpAny_pyHash_str h
 eqBool:=λhu hv h=>by
  rcases Bl hu with⟨i,t,rfl,rfl⟩|⟨x,t,rfl,rfl⟩
  .rcases Bl hv with⟨j,u,rfl,rfl⟩|⟨y,u,rfl,rfl⟩
   .rw[TJ]at h;exact wpAny_eqBool_int h
   .rw[Uq]at h;exact int_str i t y u _ _ _ _ h
  .rcases Bl hv with⟨j,u,rfl,rfl⟩|⟨y,u,rfl,rfl⟩
   .rw[Tw]at h;exact str_int x t j u _ _ _ _ h
   .rw[T9]at h;exact wpAny_eqBool_str h
 «strs»:=λk x t v h=>by
  rcases Bl h with⟨i,u,rfl,e⟩|⟨y,u,rfl,e⟩
  .exact nomatch e
  .injection e with e1 _
   subst e1
   cases v<;>rfl
theorem Kb(prog:Program)(w:World)(i:Int)(t:Tok):(Bc prog w).is (.inl i) (.int i t)=true:=Op i t
theorem Kj(prog:Program)(w:World)(x:Str)(t:Tok):(Bc prog w).is (.inr x) (.str x t)=true:=Oh x t
inductive V where
 |non|bl (b:Bool)|int (i:Int)|str (x:Str)|byt (b:Array UInt8)|flt (b:UInt64)|ref (a:Addr)|ty (n:String)
 deriving DecidableEq
def RelV:V->Value->Prop
 | .non,u=>u=Value.none
 | .bl b,u=>u=Value.bool b
 | .int i,u=>∃t,u=Value.int i t
 | .str x,u=>∃t,u=Value.str x t
 | .byt b,u=>∃t,u=Value.bytes b t
 | .flt b,u=>∃t,u=Value.float b t
 | .ref a,u=>u=Value.ref a
 | .ty n,u=>u=Value.type n
abbrev Vals:List V->List Value->Prop:=Paired RelV
variable{us:List Value}
theorem Vals.length{xs:List V}(r:Vals xs us):xs.length=us.length:=Paired.length r
theorem Vals.get:∀{xs:List V}{us:List Value}{i:Nat}{x:V},Vals xs us->xs[i]?=some x->∃u,us[i]?=some u/\RelV x u
 |_,_,_,_,.nil,e=>by simp at e
 |_,_,0,_,.cons r _,e=>by simp at e;subst e;exact⟨_,rfl,r⟩
 |_,_,i+1,x,.cons _ t,e=>by
  obtain⟨u,h1,h2⟩:=Vals.get (i:=i) (x:=x) t (by simpa using e)
  exact⟨u,by simpa using h1,h2⟩
variable{u:Value}
theorem Vals.set{x:V}(r:RelV x u):∀{xs:List V}{us:List Value}(i:Nat),Vals xs us->Vals (xs.set i x) (us.set i u)
 |_,_,_,.nil=>.nil
 |_,_,0,.cons _ t=>.cons r t
 |_,_,i+1,.cons q t=>.cons q (Vals.set r i t)
theorem Vals.append:∀{xs ys:List V}{us ws:List Value},Vals xs us->Vals ys ws->Vals (xs++ys) (us++ws)
 |_,_,_,_,.nil,s=>s
 |_,_,_,_,.cons r t,s=>.cons r (Vals.append t s)
theorem Vals.take:∀{xs:List V}{us:List Value}(n:Nat),Vals xs us->Vals (xs.take n) (us.take n)
 |_,_,0,_=>.nil
 |_,_,_+1,.nil=>.nil
 |_,_,n+1,.cons r t=>.cons r (Vals.take n t)
theorem Vals.drop:∀{xs:List V}{us:List Value}(n:Nat),Vals xs us->Vals (xs.drop n) (us.drop n)
 |_,_,0,r=>r
 |_,_,_+1,.nil=>.nil
 |_,_,n+1,.cons _ t=>Vals.drop n t
def RelO:Option V->Option Value->Prop
 |some v,some u=>RelV v u
 |none,none=>True
 |_,_=>False
def KV{κ:Type}:List (κ×V)->List (κ×Value)->Prop:=Paired λ(p:κ×V) (q:κ×Value)=>p.1=q.1/\RelV p.2 q.2
def kV:Key->V
 | .inl i=>.int i
 | .inr x=>.str x
inductive HO where
 |lst (xs:List V)
 |tup (xs:List V)
 |dK (kvs:List (Key×V))|dT (kvs:List (List Key×V))
 |set (S:Int->Bool) (n:Nat)
 |ins (C dx:Addr) (fs:List (Str×V))
 |own (x:Addr)
 |xd (fs:List (Str×V))
 |met (f x:Addr)
 |rng (lo hi:Int)
 |frz (o:Obj) (u:HO)
 |tbl (ps:Array Value)
 |ext (φ:Heap->Prop)
abbrev Hp:=Addr->Option HO
def upd(H:Hp)(a:Addr)(o:HO):Hp:=λb=>if b=a then some o else H b
variable{H:Hp}{a:Addr}{o:HO}
theorem Al:upd H a o a=some o:=by unfold upd;rw[if_pos rfl]
variable{b:Addr}
theorem Aj(h:b≠a):upd H a o b=H b:=by unfold upd;rw[if_neg h]
theorem Nd{u:HO}:upd (upd H a o) a u=upd H a u:=by
 funext b;unfold upd;split<;>rfl
theorem UT{u:HO}(h:H a=some o)(h':H b=some u)(d:o≠u):a≠b:=by
 intro e;subst e;rw[h]at h';exact d (Option.some.inj h')
theorem Av(h:H a=some o)(h':H b=none):a≠b:=by
 intro e;subst e;rw[h]at h';cases h'
section
variable(P:Program)(w:World)
def ObjOk(H:Hp)(h:Heap)(a:Addr):HO->Prop
 | .lst xs=>xs.length<=sizeLine/\∃(its:List Value) (n:Nat),Vals xs its/\h.get? a=some {cls:=.type "list",data:=.seq its.toArray n}
 | .tup xs=>xs.length<=sizeLine/\(∃its:List Value,Vals xs its/\IsTup h a its.toArray)/\∃o,h.get? a=some o/\o.dict=none
 | .dK kvs=>kvs.length<=sizeLine/\(a==sysModules)=false/\∃vs,KV kvs vs/\h.DictOf (Bc P w) a vs
 | .dT kvs=>kvs.length<=sizeLine/\(a==sysModules)=false/\∃xs:List (List Key×Addr×Value),
   Paired (λ(p:List Key×V) (q:List Key×Addr×Value)=>p.1=q.1/\H q.2.1=some (.tup (p.1.map kV))/\RelV p.2 q.2.2) kvs xs/\
   ∃o es ep,h.get? a=some o/\o.ExactDict/\o.data=.dict es ep/\es.toList=xs.map (entryOfKey (tupleKind (Bc P w)))/\(xs.map (·.1)).Nodup
 | .set S n=>h.SetOf (intKind P w) a S n
 | .ins C dx fs=>H dx=some (.own a)/\fs.length<=1000/\dx≠a/\h.get? a=some (instObj C dx)/\
   ∃mA,h.Ns1 dx mA/\(∀f,RelO (fs.lookup f) (mA f))/\PySem.Within mA (fs.map (·.1))
 | .own _=>∃o,h.get? a=some o
 | .xd fs=>∃mA,h.Ns1 a mA/\∀f,RelO (fs.lookup f) (mA f)
 | .rng lo hi=>∃t u v,h.get? a=some {cls:=.type "range",data:=.fields #[.int lo t,.int hi u,.int 1 v]}
 | .frz o u=>h.get? a=some o/\ObjOk H h a u
 | .tbl ps=>h.get? a=some {cls:=.none,data:=.fields ps}
 | .met f x=>h.get? a=some (methodObj (.ref f) (.ref x))
 | .ext φ=>φ h/\(∃o,h.get? a=some o)/\∀h1 h2:Heap,φ h1->(∀o,h1.get? a=some o->h2.get? a=some o)->φ h2
def HOk(H:Hp)(h:Heap):Prop:=∀a o,H a=some o->ObjOk P w H h a o
end
variable{P:Program}{w:World}{H':Hp}{h h':Heap}
theorem ObjOk.lt(x:ObjOk P w H h a o):a<h.objs.size:=by
 cases o with
 |lst xs=>obtain⟨_,_,_,_,e⟩:=x;exact Heap.lt_size e
 |tup xs=>obtain⟨_,⟨_,_,p⟩,_⟩:=x;exact p.lt
 |dK kvs=>obtain⟨_,_,_,_,o,_,_,e,_⟩:=x;exact Heap.lt_size e
 |dT kvs=>obtain⟨_,_,_,_,o,_,_,e,_⟩:=x;exact Heap.lt_size e
 |set S n=>obtain⟨o,_,_,_,e,_⟩:=x;exact Heap.lt_size e
 |ins C dx fs=>obtain⟨_,_,_,e,_⟩:=x;exact Heap.lt_size e
 |own y=>obtain⟨_,e⟩:=x;exact Heap.lt_size e
 |xd fs=>obtain⟨_,⟨_,_,_,e,_⟩,_⟩:=x;exact Heap.lt_size e
 |rng lo hi=>obtain⟨_,_,_,e⟩:=x;exact Heap.lt_size e
 |frz ob u=>obtain⟨e,_⟩:=x;exact Heap.lt_size e
 |tbl ps=>exact Heap.lt_size (show h.get? a=some _ from x)
 |met f y=>exact Heap.lt_size (show h.get? a=some _ from x)
 |ext φ=>obtain⟨_,⟨_,e⟩,_⟩:=x;exact Heap.lt_size e
theorem Paired.mapP{α β:Type}{F G:α->β->Prop}:∀{l₁:List α}{l₂:List β},Paired F l₁ l₂->(∀a b,F a b->G a b)->Paired G l₁ l₂
 |_,_,.nil,_=>.nil
 |_,_,.cons r t,f=>.cons (f _ _ r) (Paired.mapP t f)
theorem ObjOk.stay(x:ObjOk P w H h a o)(k:∀b u,(b=a\/H b=some (.own a))->h.get? b=some u->h'.get? b=some u)
  (ho:∀b,H b=some (.own a)->H' b=some (.own a))(ht:∀b xs,H b=some (.tup xs)->H' b=some (.tup xs)):ObjOk P w H' h' a o:=by
 induction o with
 |lst xs=>obtain⟨z,its,n,r,e⟩:=x;exact⟨z,its,n,r,k _ _ (.inl rfl) e⟩
 |tup xs=>obtain⟨z,⟨its,r,ob,e,c⟩,od,e2,c2⟩:=x;exact⟨z,⟨its,r,ob,k _ _ (.inl rfl) e,c⟩,od,k _ _ (.inl rfl) e2,c2⟩
 |dK kvs=>obtain⟨z,y,vs,r,ob,es,ep,e,c⟩:=x;exact⟨z,y,vs,r,ob,es,ep,k _ _ (.inl rfl) e,c⟩
 |dT kvs=>
  obtain⟨z,y,xs,r,ob,es,ep,e,c⟩:=x
  exact⟨z,y,xs,Paired.mapP r λp q z=>⟨z.1,ht _ _ z.2.1,z.2.2⟩,ob,es,ep,k _ _ (.inl rfl) e,c⟩
 |set S n=>obtain⟨ob,es,ep,t,e,c⟩:=x;exact⟨ob,es,ep,t,k _ _ (.inl rfl) e,c⟩
 |ins C dx fs=>
  obtain⟨d,z,ne,e,mA,⟨od,es,ep,e2,c⟩,r⟩:=x
  exact⟨ho _ d,z,ne,k _ _ (.inl rfl) e,mA,⟨od,es,ep,k _ _ (.inr d) e2,c⟩,r⟩
 |own y=>obtain⟨ob,e⟩:=x;exact⟨ob,k _ _ (.inl rfl) e⟩
 |xd fs=>obtain⟨mA,⟨od,es,ep,e,c⟩,r⟩:=x;exact⟨mA,⟨od,es,ep,k _ _ (.inl rfl) e,c⟩,r⟩
 |rng lo hi=>obtain⟨t,u,v,e⟩:=x;exact⟨t,u,v,k _ _ (.inl rfl) e⟩
 |frz ob u ih=>obtain⟨e,q⟩:=x;exact⟨k _ _ (.inl rfl) e,ih q⟩
 |tbl ps=>
  have e:h.get? a=some {cls:=.none,data:=.fields ps}:=x
  show h'.get? a=some {cls:=.none,data:=.fields ps}
  exact k a _ (.inl rfl) e
 |met f y=>
  have e:h.get? a=some (PySem.W.methodObj (.ref f) (.ref y)):=x
  show h'.get? a=some (PySem.W.methodObj (.ref f) (.ref y))
  exact k a _ (.inl rfl) e
 |ext φ=>obtain⟨p,⟨o,e⟩,st⟩:=x;exact⟨st _ _ p λo q=>k _ _ (.inl rfl) q,⟨o,k _ _ (.inl rfl) e⟩,st⟩
theorem HOk.lt(x:HOk P w H h)(e:H a=some o):a<h.objs.size:=(x a o e).lt
theorem HOk.fresh(x:HOk P w H h)(e:h.objs.size<=a):H a=none:=by
 cases q:H a with
 |none=>rfl
 |some u=>exact absurd (Nat.lt_of_lt_of_le (x.lt q) e) (Nat.lt_irrefl _)
theorem HOk.kept(x:HOk P w H h)(k:∀b u,h.get? b=some u->h'.get? b=some u):HOk P w H h':=λa o e=>
 (x a o e).stay (λb u _ q=>k b u q) (λ_ q=>q) λ_ _ q=>q
theorem HOk.laid(x:HOk P w H h)(k:∀b u,h.get? b=some u->h'.get? b=some u)(hp:h.objs.size<=a)(new:ObjOk P w (upd H a o) h' a o):HOk P w (upd H a o) h':=λb u e=>by
 have hn:=x.fresh hp
 by_cases hb:b=a
 .subst hb;rw[Al]at e;cases e;exact new
 .rw[Aj hb]at e
  exact(x b u e).stay (λc v _ q=>k c v q) (λc q=>by rw[Aj (Av q hn)];exact q) λc xs q=>by rw[Aj (Av q hn)];exact q
def Rd(H:Hp)(a:Addr)(u:HO):Prop:=H a=some u\/∃o,H a=some (.frz o u)
theorem Rd.ok{u:HO}(r:Rd H a u)(x:HOk P w H h):ObjOk P w H h a u:=by
 rcases r with r|⟨o,r⟩
 .exact x a u r
 .obtain⟨_,q⟩:=x a _ r
  exact q
def Mut:Option HO->Prop
 |some (.lst _)=>True
 |some (.dK _)=>True
 |some (.dT _)=>True
 |some (.set _ _)=>True
 |some (.ins _ _ _)=>True
 |some (.ext _)=>True
 |_=>False
section
variable{x e:Addr}{o':HO}
theorem HOk.write(ok:HOk P w H h)(mu:Mut (H x))(he:e=x\/H e=some (.own x))(k:∀b u,b≠e->h.get? b=some u->h'.get? b=some u)(heo:∃u,h'.get? e=some u)
  (new:ObjOk P w (upd H x o') h' x o'):HOk P w (upd H x o') h':=λb u q=>by
 have nown:∀c y,H c=some (.own y)->c≠x:=λc y r z=>by subst z;rw[r]at mu;exact mu
 have ntup:∀c xs,H c=some (.tup xs)->c≠x:=λc xs r z=>by subst z;rw[r]at mu;exact mu
 by_cases hb:b=x
 .subst hb;rw[Al]at q;cases q;exact new
 .rw[Aj hb]at q
  by_cases hbe:b=e
  .have q':H b=some (.own x):=by
    rcases he with z|z
    .exact absurd (hbe.trans z) hb
    .rw[hbe];exact z
   rw[q]at q';cases q'
   obtain⟨v,hv⟩:=heo
   exact⟨v,by rw[hbe];exact hv⟩
  .refine(ok b u q).stay (λc v hc r=>k c v ?_ r) (λc r=>by rw[Aj (nown c b r)];exact r) λc xs r=>by rw[Aj (ntup c xs r)];exact r
   rcases hc with rfl|hc
   .exact hbe
   .rintro rfl
    rcases he with z|z
    .exact nown c b hc z
    .rw[hc]at z;cases z;exact hb rfl
end
structure Un(fs ex:List Addr)(H H':Hp)(h h':Heap):Prop where
 keep:∀b o,h.get? b=some o->H b=none->b∉fs->b∉ex->h'.get? b=some o
 slot:∀b o,h.get? b=some o->H b=none->b∈fs->b∉ex->∃sl,h'.get? b=some {o with slots:=sl}
 free:∀b o,h.get? b=some o->H b=none->b∉ex->H' b=none
 there:∀b o,h.get? b=some o->b∉ex->∃o',h'.get? b=some o'
 tups:∀b xs,H b=some (.tup xs)->H' b=some (.tup xs)
 frzs:∀b o u,H b=some (.frz o u)->H' b=some (.frz o u)
 tbls:∀b ps,H b=some (.tbl ps)->∃more,H' b=some (.tbl (ps++more))
section
variable{fs fs' ex ex':List Addr}{H1 H2:Hp}{h1 h2:Heap}{x e:Addr}
theorem Un.any(u:Un fs ex H H1 h h1){ob:Obj}(q:h.get? b=some ob)(n:H b=none)(hx:b∉ex):∃sl,h1.get? b=some {ob with slots:=sl}:=by
 by_cases hb:b∈fs
 .exact u.slot b ob q n hb hx
 .exact⟨ob.slots,u.keep b ob q n hb hx⟩
theorem Un.kept(k:∀b u,h.get? b=some u->h'.get? b=some u):Un fs ex H H h h':=
 ⟨λb ob q _ _ _=>k b ob q,λb ob q _ _ _=>⟨ob.slots,k b ob q⟩,λ_ _ _ n _=>n,λb ob q _=>⟨ob,k b ob q⟩,λ_ _ q=>q,λ_ _ _ q=>q,λ_ ps q=>⟨#[],by rw[q];simp⟩⟩
theorem Un.refl:Un fs ex H H h h:=Un.kept λ_ _ q=>q
theorem Un.laid(k:∀b u,h.get? b=some u->h'.get? b=some u)(hp:h.objs.size<=a)(hn:H a=none):Un fs ex H (upd H a o) h h' where
 keep:=λb u q _ _ _=>k b u q
 slot:=λb u q _ _ _=>⟨u.slots,k b u q⟩
 free:=λb u q n _=>by rw[Aj (Nat.ne_of_lt (Nat.lt_of_lt_of_le (Heap.lt_size q) hp))];exact n
 there:=λb u q _=>⟨u,k b u q⟩
 tups:=λb xs q=>by rw[Aj (Av q hn)];exact q
 frzs:=λb u xs q=>by rw[Aj (Av q hn)];exact q
 tbls:=λb ps q=>⟨#[],by rw[Aj (Av q hn),q];simp⟩
theorem Un.write(mu:Mut (H x))(he:e=x\/H e=some (.own x))(k:∀b u,b≠e->h.get? b=some u->h'.get? b=some u)(heo:∃u,h'.get? e=some u):Un fs ex H (upd H x o) h h':=by
 have hx:∀b,H b=none->b≠x:=λb n z=>by subst z;rw[n]at mu;exact mu
 have hb:∀b,H b=none->b≠e:=λb n z=>by
  subst z
  rcases he with r|r
  .exact hx b n r
  .rw[n]at r;cases r
 have hm:∀b u,H b=some u->¬Mut (some u)->b≠x:=λb u q nm z=>by subst z;rw[q]at mu;exact nm mu
 refine⟨λb u q n _ _=>k b u (hb b n) q,λb u q n _ _=>⟨u.slots,k b u (hb b n) q⟩,λb u q n _=>by rw[Aj (hx b n)];exact n,λb u q _=>?_,
  λb xs q=>by rw[Aj (hm b _ q λz=>z)];exact q,λb u xs q=>by rw[Aj (hm b _ q λz=>z)];exact q,λb ps q=>⟨#[],by rw[Aj (hm b _ q λz=>z),q];simp⟩⟩
 by_cases hbe:b=e
 .subst hbe;exact heo
 .exact⟨u,k b u hbe q⟩
end
def trk(h:Heap)(H:Hp):List Addr:=(range h.objs.size).filter λa=>(H a).isSome
def hidT(h:Heap)(H:Hp):Heap:=PySem.W.hideAll h (trk h H)
theorem OC(h:Heap)(H:Hp):(hidT h H).objs.size=h.objs.size:=PySem.W.hideAll_size _ _
theorem Pn{o:Obj}(e:h.get? b=some o)(n:H b=none):(hidT h H).get? b=some o:=
 PySem.W.hideAll_get _ e λhm=>by
  have q:(H b).isSome=true:=(mem_filter.mp hm).2
  rw[n]at q;simp at q
theorem Rz{o:Obj}(e:(hidT h H).get? b=some o):h.get? b=some o/\H b=none:=by
 have e':h.get? b=some o:=PySem.W.of_hideAll (trk h H) e
 refine⟨e',?_⟩
 cases q:H b with
 |none=>rfl
 |some x=>
  have hm:b∈trk h H:=mem_filter.mpr ⟨mem_range.mpr (lt_size e'),by simp[q]⟩
  have z:(hidT h H).get? b=none:=PySem.W.hideAll_none (trk h H) hm
  rw[z]at e;cases e
def Ry(g h:Heap)(L:Addr):List (Addr×Obj):=(range h.objs.size).filterMap λa=>if a=L\/(g.get? a).isSome=true then none else(h.get? a).map λo=>(a,o)
def rest(g h:Heap)(L d:Addr):List (Addr×Obj):=(Ry g h L).filter λp=>decide (p.1≠d)
structure Mod(K:Frag)(mg:Str->Option Value)(base:Heap):Prop where
 kin:K.In base
 glob:base.Ns mainGlobals mg
 blt:∃mb,base.Ns builtinsNs mb/\∀x:Str,x≠"__name__"->mb x=bootBuiltins x
 nolimit:base.NoLimit
structure Cx where
 prog:Program
 w:World
 K:Frag
 mg:Str->Option Value
 base:Heap
 A:Around
 N:List Str
 s₀:Shared
 H₀:Hp
 env:Env
 outer:List Env
 stack:List Env
 ex:List Addr
 fn:Str->Bool
 calm:Bool
 pn:List (Addr×Obj)
 xe:Value->Shared->Prop
def frs(l:List Env):List Addr:=l.filterMap (·.frame)
abbrev Cx.fs(X:Cx):List Addr:=frs X.outer
def Vis(sc:Scope)(x:Str):Prop:=sc.names.lookup x=some .local\/sc.names.lookup x=some .cell\/sc.names.lookup x=some .free
def Loc(sc:Scope)(x:Str):Prop:=sc.names.lookup x=some .local\/sc.names.lookup x=some .cell
def Look(env:Env)(h:Heap)(m:Str->Option Value)(x:Str)(u:Value):Prop:=
 (env.kindOf x=some .local/\m x=some u)\/((env.kindOf x=some .cell\/env.kindOf x=some .free)/\∃c,env.cells.lookup x=some c/\h.IsCell c (some u))
structure Cx.Ok(X:Cx):Prop where
 mod:Mod X.K X.mg X.base
 kind:X.env.scope.kind=.function
 glob:X.env.globals=mainGlobals
 blt:X.env.builtins=builtinsNs
 above:X.s₀.heap.objs.size<=X.env.locals
 inj:∀x y c,X.env.cells.lookup x=some c->X.env.cells.lookup y=some c->x=y
 has:∀x,(X.env.kindOf x=some .cell\/X.env.kindOf x=some .free)->∃c,X.env.cells.lookup x=some c
 cab:∀x c,X.fn x=true->X.env.cells.lookup x=some c->X.s₀.heap.objs.size<=c
 hd:X.calm=true->X.A.handled=none
 frames:X.A.frames=some X.stack
 stk:X.stack=X.outer\/(X.stack=X.env::X.outer/\X.env.frame=some X.env.locals)
 exf:∀b∈X.ex,b≠X.env.locals/\∀x c,X.env.cells.lookup x=some c->c≠b
 bs:∀b o,X.base.get? b=some o->X.s₀.heap.get? b=some o/\X.H₀ b=none
 bsz:X.base.objs.size<=X.s₀.heap.objs.size
 noex:∀b o,X.base.get? b=some o->b∉X.ex
 exfs:∀b∈X.ex,b∉X.fs
 funs:X.s₀.heap.FunFrames X.base X.outer
 frf:∀b∈X.fs,X.H₀ b=none
structure Inv(X:Cx)(pins:List (Addr×Obj))(σ:List (Option V))(H:Hp)(s:Shared):Prop where
 ok:X.Ok
 os:s.os=X.s₀.os
 bare:AllBare s.gens
 base:Un X.fs X.ex X.H₀ H X.s₀.heap s.heap
 loc:∃m,s.heap.Ns X.env.locals m/\∀(i:Nat) (x:Str) (v:V),X.N[i]?=some x->σ[i]?=some (some v)->Vis X.env.scope x->∃u,RelV v u/\Look X.env s.heap m x u
 cell:∀x c,X.env.cells.lookup x=some c->∃v,s.heap.IsCell c v
 free:H X.env.locals=none
 freeC:∀x c,X.env.cells.lookup x=some c->H c=none
 pin:∀p∈X.pn++pins,s.heap.get? p.1=some p.2/\H p.1=none/\p.1≠X.env.locals/\p.1∉X.fs/\∀v,p.2.data≠.cell v
 hok:HOk X.prog X.w H s.heap
 len:σ.length=X.N.length
variable{X:Cx}{pins:List (Addr×Obj)}{s:Shared}
section
variable{σ:List (Option V)}
theorem Cx.Ok.nofr(ok:X.Ok){o:Obj}(e:X.base.get? b=some o):b∉X.fs:=λhb=>by
 have:=(ok.funs.mem hb).1
 rw[e]at this;cases this
theorem Inv.bs(I:Inv X pins σ H s):∀b o,X.base.get? b=some o->s.heap.get? b=some o/\H b=none:=λb o e=>
 ⟨I.base.keep b o (I.ok.bs b o e).1 (I.ok.bs b o e).2 (I.ok.nofr e) (I.ok.noex b o e),I.base.free b o (I.ok.bs b o e).1 (I.ok.bs b o e).2 (I.ok.noex b o e)⟩
theorem Inv.bk(I:Inv X pins σ H s):∀b o,X.base.get? b=some o->s.heap.get? b=some o:=λb o e=>(I.bs b o e).1
theorem Inv.mod(I:Inv X pins σ H s):Mod X.K X.mg X.base:=I.ok.mod
theorem Inv.kIn(I:Inv X pins σ H s):X.K.In s.heap:=I.ok.mod.kin.keeps I.bk
theorem Inv.lt(I:Inv X pins σ H s):X.env.locals<s.heap.objs.size:=let⟨_,hn,_⟩:=I.loc;hn.lt
theorem Inv.sz(I:Inv X pins σ H s):X.s₀.heap.objs.size<=s.heap.objs.size:=Nat.le_trans I.ok.above (Nat.le_of_lt I.lt)
theorem Inv.nofs(I:Inv X pins σ H s)(h:s.heap.objs.size<=a):a∉X.fs:=λhb=>by
 obtain⟨_,o,ho,_⟩:=I.ok.funs.mem hb
 exact absurd (Nat.lt_of_lt_of_le (Heap.lt_size ho) (Nat.le_trans I.sz h)) (Nat.lt_irrefl _)
theorem Inv.cne(I:Inv X pins σ H s):∀x c,X.env.cells.lookup x=some c->c≠X.env.locals:=λx c e z=>by
 obtain⟨v,o,ho,hd⟩:=I.cell x c e
 obtain⟨m,⟨o',es,ep,ho',hd',_⟩,_⟩:=I.loc
 rw[z,ho']at ho;cases ho;rw[hd']at hd;cases hd
theorem Inv.funs(I:Inv X pins σ H s):s.heap.FunFrames X.base X.outer:=by
 have all:∀(l:List Env),(∀b∈frs l,b∈X.fs)->X.s₀.heap.FunFrames X.base l->s.heap.FunFrames X.base l:=by
  intro l
  induction l with
  |nil=>intro _ _;trivial
  |cons env r ih=>
   intro hs hl
   obtain⟨hk,⟨L,o,hf,hn,ho,hd⟩,hr⟩:=hl
   have hL:L∈X.fs:=hs L (by unfold frs;rw[List.filterMap_cons,hf];exact List.mem_cons_self)
   obtain⟨sl,e⟩:=I.base.slot L o ho (I.ok.frf L hL) hL λz=>I.ok.exfs L z hL
   exact⟨hk,⟨L,_,hf,hn,e,hd⟩,ih (λb hb=>hs b (by unfold frs;rw[List.filterMap_cons,hf];exact List.mem_cons_of_mem _ hb)) hr⟩
 exact all X.outer (λ_ hb=>hb) I.ok.funs
theorem Inv.stack(I:Inv X pins σ H s):s.heap.FunFrames X.base X.stack:=by
 rcases I.ok.stk with e|⟨e,hf⟩
 .rw[e];exact I.funs
 .rw[e]
  obtain⟨m,hn,_⟩:=I.loc
  refine .cons (by rw[I.ok.kind];decide) hf hn ?_ I.funs
  exact Heap.get?_none_of_le (Nat.le_trans I.ok.bsz I.ok.above)
theorem Inv.stkSub(I:Inv X pins σ H s):∀b∈frs X.stack,b∈X.env.locals::X.fs:=λb hb=>by
 rcases I.ok.stk with e|⟨e,hf⟩
 .rw[e]at hb;exact List.mem_cons_of_mem _ hb
 .rw[e]at hb
  unfold frs at hb
  rw[List.filterMap_cons,hf]at hb
  exact hb
theorem Inv.stkFree(I:Inv X pins σ H s):∀b∈frs X.stack,H b=none:=λb hb=>by
 rcases List.mem_cons.mp (I.stkSub b hb)with e|hb
 .rw[e];exact I.free
 .obtain⟨_,o,ho,_⟩:=I.ok.funs.mem hb
  exact I.base.free b o ho (I.ok.frf b hb) λz=>I.ok.exfs b z hb
theorem Inv.step{g':Array GenState}{t':Nat}{d':Drawn}{ch:List Addr}(I:Inv X pins σ H s)
  (hch:∀b∈ch,(b∈X.ex\/X.s₀.heap.objs.size<=b)/\b≠X.env.locals/\(∀x c,X.env.cells.lookup x=some c->c≠b)/\∀p∈X.pn++pins,p.1≠b)
  (keep:∀b o,b≠X.env.locals->b∉X.fs->b∉ch->s.heap.get? b=some o->H b=none->h'.get? b=some o)
  (slot:∀b o,b≠X.env.locals->b∈X.fs->b∉ch->s.heap.get? b=some o->H b=none->∃sl,h'.get? b=some {o with slots:=sl})(free:∀b o,b∉ch->s.heap.get? b=some o->H b=none->H' b=none)
  (there:∀b o,b∉ch->s.heap.get? b=some o->∃o',h'.get? b=some o')
  (tups:∀b xs,H b=some (.tup xs)->H' b=some (.tup xs))(frzs:∀b o u,H b=some (.frz o u)->H' b=some (.frz o u))(tbls:∀b ps,H b=some (.tbl ps)->∃more,H' b=some (.tbl (ps++more)))
  (ns:∀m,s.heap.Ns X.env.locals m->h'.Ns X.env.locals m)(hok:HOk X.prog X.w H' h')(hg:AllBare g'):
  Inv X pins σ H' {s with heap:=h',gens:=g',drawn:=d',toks:=t'}:=by
 have neL:∀b o,X.s₀.heap.get? b=some o->b≠X.env.locals:=λb o e=>Nat.ne_of_lt (Nat.lt_of_lt_of_le (Heap.lt_size e) I.ok.above)
 have neC:∀b o,X.s₀.heap.get? b=some o->b∉X.ex->b∉ch:=λb o e hx hb=>by
  rcases(hch b hb).1 with z|z
  .exact hx z
  .exact absurd (Nat.lt_of_lt_of_le (Heap.lt_size e) z) (Nat.lt_irrefl _)
 have cellK:∀x c,X.env.cells.lookup x=some c->∀v,s.heap.IsCell c v->h'.IsCell c v:=λx c e v ⟨o,ho,hd⟩=>by
  have nch:c∉ch:=λz=>(hch c z).2.2.1 x c e rfl
  by_cases hc:c∈X.fs
  .obtain⟨sl,q⟩:=slot c o (I.cne x c e) hc nch ho (I.freeC x c e)
   exact⟨_,q,hd⟩
  .exact⟨o,keep c o (I.cne x c e) hc nch ho (I.freeC x c e),hd⟩
 refine⟨I.ok,I.os,hg,⟨λb o e n hb hx=>?_,λb o e n hb hx=>?_,λb o e n hx=>?_,λb o e hx=>?_,λb xs e=>tups b xs (I.base.tups b xs e),λb o xs e=>frzs b o xs (I.base.frzs b o xs e),λb ps e=>?_⟩,?_,λx c e=>?_,?_,λx c e=>?_,λp hp=>?_,hok,I.len⟩
 .exact keep b o (neL b o e) hb (neC b o e hx) (I.base.keep b o e n hb hx) (I.base.free b o e n hx)
 .obtain⟨sl,e1⟩:=I.base.slot b o e n hb hx
  obtain⟨sl',e2⟩:=slot b _ (neL b o e) hb (neC b o e hx) e1 (I.base.free b o e n hx)
  exact⟨sl',e2⟩
 .obtain⟨o',e1⟩:=I.base.there b o e hx
  exact free b o' (neC b o e hx) e1 (I.base.free b o e n hx)
 .obtain⟨o',e1⟩:=I.base.there b o e hx
  exact there b o' (neC b o e hx) e1
 .obtain⟨m1,e1⟩:=I.base.tbls b ps e
  obtain⟨m2,e2⟩:=tbls b _ e1
  exact⟨m1++m2,by rw[e2,Array.append_assoc]⟩
 .obtain⟨m,hn,hl⟩:=I.loc
  refine⟨m,ns m hn,λi x v e1 e2 e3=>?_⟩
  obtain⟨u,r,l⟩:=hl i x v e1 e2 e3
  refine⟨u,r,?_⟩
  rcases l with l|⟨k,c,e,z⟩
  .exact .inl l
  .exact .inr ⟨k,c,e,cellK x c e _ z⟩
 .obtain⟨v,z⟩:=I.cell x c e
  exact⟨v,cellK x c e v z⟩
 .obtain⟨m,⟨o,_,_,ho,_⟩,_⟩:=I.loc
  exact free _ o (λz=>(hch _ z).2.1 rfl) ho I.free
 .obtain⟨v,o,ho,hd⟩:=I.cell x c e
  exact free c o (λz=>(hch c z).2.2.1 x c e rfl) ho (I.freeC x c e)
 .obtain⟨e,n,ne,nf,d⟩:=I.pin p hp
  have nch:p.1∉ch:=λz=>(hch p.1 z).2.2.2 p hp rfl
  exact⟨keep p.1 p.2 ne nf nch e n,free p.1 p.2 nch e n,ne,nf,d⟩
theorem Inv.un{t':Nat}(I:Inv X pins σ H s)(u:Un X.fs [] H H' s.heap h')(hok:HOk X.prog X.w H' h'):Inv X pins σ H' {s with heap:=h',toks:=t'}:=by
 obtain⟨m,⟨o,es,ep,ho,r⟩,_⟩:=id I.loc
 obtain⟨sl,hL⟩:=u.any ho I.free (by simp)
 exact I.step (g':=s.gens) (d':=s.drawn) (ch:=[]) (λ_ z=>nomatch z) (λb o _ hb _ e n=>u.keep b o e n hb (by simp)) (λb o _ hb _ e n=>u.slot b o e n hb (by simp)) (λb o _ e n=>u.free b o e n (by simp)) (λb o _ e=>u.there b o e (by simp)) u.tups u.frzs u.tbls (λm' hm=>by
  obtain⟨o',es',ep',ho',r'⟩:=hm
  rw[ho]at ho';cases ho'
  exact⟨_,es',ep',hL,r'⟩) hok I.bare
theorem Inv.call{g':Array GenState}{t':Nat}{d':Drawn}{ch:List Addr}(I:Inv X pins σ H s)(u:Un (frs X.stack) ch H H' s.heap h')(hok:HOk X.prog X.w H' h')(hg:AllBare g')
  (hch:∀b∈ch,(b∈X.ex\/X.s₀.heap.objs.size<=b)/\b≠X.env.locals/\(∀x c,X.env.cells.lookup x=some c->c≠b)/\∀p∈X.pn++pins,p.1≠b):
  Inv X pins σ H' {s with heap:=h',gens:=g',drawn:=d',toks:=t'}:=by
 obtain⟨m,⟨o,es,ep,ho,r⟩,_⟩:=id I.loc
 obtain⟨sl,hL⟩:=u.any ho I.free λz=>(hch _ z).2.1 rfl
 exact I.step (ch:=ch) hch (λb o hL hb hc e n=>u.keep b o e n (λz=>(List.mem_cons.mp (I.stkSub b z)).elim hL hb) hc) (λb o _ _ hc e n=>u.any e n hc) (λb o hc e n=>u.free b o e n hc) (λb o hc e=>u.there b o e hc) u.tups u.frzs u.tbls (λm' hm=>by
  obtain⟨o',es',ep',ho',r'⟩:=hm
  rw[ho]at ho';cases ho'
  exact⟨_,es',ep',hL,r'⟩) hok hg
theorem Inv.turned{t':Nat}{it:Addr}(I:Inv X pins σ H s)(k:∀b o,b≠it->s.heap.get? b=some o->h'.get? b=some o)(hn:H it=none)(hL:it≠X.env.locals)
  (h1:it∈X.ex\/X.s₀.heap.objs.size<=it)(h2:∀x c,X.env.cells.lookup x=some c->c≠it)(h3:∀p∈X.pn++pins,p.1≠it):Inv X pins σ H {s with heap:=h',toks:=t'}:=by
 have nit:∀b u,H b=some u->b≠it:=λb u e z=>by rw[z,hn]at e;cases e
 refine I.step (g':=s.gens) (d':=s.drawn) (ch:=[it]) (λb hb=>?_) (λb o _ _ hc e _=>k b o (λz=>hc (by simp[z])) e) (λb o _ _ hc e _=>⟨o.slots,k b o (λz=>hc (by simp[z])) e⟩) (λ_ _ _ _ n=>n)
  (λb o hc e=>⟨o,k b o (λz=>hc (by simp[z])) e⟩) (λ_ _ e=>e) (λ_ _ _ e=>e) (λb ps e=>⟨#[],by rw[e];simp⟩) (λm hm=>?_) (λb u e=>?_) I.bare
 .have e:b=it:=by simpa using hb
  subst e
  exact⟨h1,hL,h2,h3⟩
 .obtain⟨o,es,ep,ho,r⟩:=hm
  exact⟨o,es,ep,k _ o (Ne.symm hL) ho,r⟩
 .refine(I.hok b u e).stay (λc v hc q=>k c v ?_ q) (λ_ q=>q) λ_ _ q=>q
  rcases hc with z|z
  .rw[z];exact nit b u e
  .exact nit c _ z
theorem Inv.tok(I:Inv X pins σ H s)(t:Nat):Inv X pins σ H {s with toks:=t}:=I.un (h':=s.heap) (t':=t) Un.refl I.hok
theorem Inv.kept{t':Nat}(I:Inv X pins σ H s)(k:∀b u,s.heap.get? b=some u->h'.get? b=some u):Inv X pins σ H {s with heap:=h',toks:=t'}:=I.un (Un.kept k) (I.hok.kept k)
theorem Inv.laid{t':Nat}(I:Inv X pins σ H s)(k:∀b u,s.heap.get? b=some u->h'.get? b=some u)(hp:s.heap.objs.size<=a)(new:ObjOk X.prog X.w (upd H a o) h' a o):
  Inv X pins σ (upd H a o) {s with heap:=h',toks:=t'}:=I.un (Un.laid k hp (I.hok.fresh hp)) (I.hok.laid k hp new)
theorem Inv.write{x e:Addr}{t':Nat}(I:Inv X pins σ H s)(mu:Mut (H x))(he:e=x\/H e=some (.own x))(k:∀b u,b≠e->s.heap.get? b=some u->h'.get? b=some u)(heo:∃u,h'.get? e=some u)
  (new:ObjOk X.prog X.w (upd H x o) h' x o):Inv X pins σ (upd H x o) {s with heap:=h',toks:=t'}:=I.un (Un.write mu he k heo) (I.hok.write mu he k heo new)
theorem Inv.weak{σ':List (Option V)}(I:Inv X pins σ H s)(hl:σ'.length=σ.length)(w:∀(i:Nat) v,σ'[i]?=some (some v)->σ[i]?=some (some v)):Inv X pins σ' H s:=
 ⟨I.ok,I.os,I.bare,I.base,let⟨m,hn,hl'⟩:=I.loc;⟨m,hn,λi x v e1 e2 e3=>hl' i x v e1 (w i v e2) e3⟩,I.cell,I.free,I.freeC,I.pin,I.hok,hl.trans I.len⟩
theorem Inv.pins_of{pins':List (Addr×Obj)}(I:Inv X pins σ H s)(h:∀p∈pins',s.heap.get? p.1=some p.2/\H p.1=none/\p.1≠X.env.locals/\p.1∉X.fs/\∀v,p.2.data≠.cell v):Inv X pins' σ H s:=
 ⟨I.ok,I.os,I.bare,I.base,I.loc,I.cell,I.free,I.freeC,λp hp=>(List.mem_append.mp hp).elim (λz=>I.pin p (List.mem_append_left _ z)) (h p),I.hok,I.len⟩
theorem KQ{N:List Str}(hN:N.Nodup){i j:Nat}{x:Str}(a:N[i]?=some x)(b:N[j]?=some x):i=j:=by
 obtain⟨h1,e1⟩:=List.getElem?_eq_some_iff.mp a
 obtain⟨h2,e2⟩:=List.getElem?_eq_some_iff.mp b
 exact(getElem_inj hN).mp (e1.trans e2.symm)
abbrev Zlo(X:Cx)(x:Str):Prop:=X.fn x=true\/X.env.scope.names.lookup x=some .local
theorem OA{M:Model}{A:Around}{E:Value->Shared->Prop}{i:Nat}{x:Str}{v:V}{Q:Unit->Shared->Prop}(I:Inv X pins σ H s)(hN:X.N.Nodup)(hi:X.N[i]?=some x)(hx:Loc X.env.scope x)(r:RelV v u)
  (h:∀s',Inv X pins (σ.set i (some v)) H s'->(∃a,SameBut a s.heap s'.heap/\(a=X.env.locals\/X.env.cells.lookup x=some a))->Q () s')(hf:Zlo X x:=by first|exact .inl rfl|exact .inr rfl|assumption):wpAny M A (storeName X.env x u) Q E s:=by
 obtain⟨m,hn,hl⟩:=id I.loc
 have hcls:(X.env.scope.kind==.class||(X.env.scope.kind==.module&&X.env.locals != X.env.globals))=false:=by rw[I.ok.kind];rfl
 have hiσ:i<σ.length:=by rw[I.len];exact(List.getElem?_eq_some_iff.mp hi).1
 have cne:=I.cne
 have tracked:∀{a:Addr}{h':Heap},(∃o,s.heap.get? a=some o/\H a=none)->SameBut a s.heap h'->HOk X.prog X.w H h':=λ{a h'} ha hs b ob e=>by
  obtain⟨_,_,hfree⟩:=ha
  refine(I.hok b ob e).stay (λc w' hc q=>(hs.2 c ?_).trans q) (λ_ q=>q) λ_ _ q=>q
  rintro rfl
  rcases hc with rfl|hc
  .rw[hfree]at e;cases e
  .rw[hfree]at hc;cases hc
 rcases hx with hk|hk
 .refine wpAny_storeName_local hk hn (λh' hn' hs=>?_) hcls
  obtain⟨oL,_,_,hoL,_⟩:=id hn
  refine h _ ⟨I.ok,I.os,I.bare,⟨λb o e n hb hx=>?_,λb o e n hb hx=>?_,I.base.free,λb o e hx=>?_,I.base.tups,I.base.frzs,I.base.tbls⟩,⟨_,hn',λj y v' e1 e2 e3=>?_⟩,λy c e=>?_,I.free,I.freeC,λp hp=>?_,tracked ⟨oL,hoL,I.free⟩ hs,by simpa using I.len⟩ ⟨_,hs,.inl rfl⟩
  .exact(hs.2 b (ne_of_lt (lt_of_lt_of_le (lt_size e) I.ok.above))).trans (I.base.keep b o e n hb hx)
  .obtain⟨sl,e1⟩:=I.base.slot b o e n hb hx
   exact⟨sl,(hs.2 b (ne_of_lt (lt_of_lt_of_le (lt_size e) I.ok.above))).trans e1⟩
  .obtain⟨o',e1⟩:=I.base.there b o e hx
   exact⟨o',(hs.2 b (ne_of_lt (lt_of_lt_of_le (lt_size e) I.ok.above))).trans e1⟩
  .by_cases hj:j=i
   .subst hj
    rw[hi]at e1;cases e1
    rw[getElem?_set_self hiσ]at e2
    cases e2
    exact⟨u,r,.inl ⟨hk,by simp⟩⟩
   .rw[getElem?_set_ne (symm hj)]at e2
    obtain⟨u',r',q⟩:=hl j y v' e1 e2 e3
    refine⟨u',r',?_⟩
    rcases q with⟨k,e⟩|⟨k,c,e,z⟩
    .refine .inl ⟨k,?_⟩
     have:y≠x:=λe=>hj (KQ hN e1 (e▸hi))
     simp[this,e]
    .exact .inr ⟨k,c,e,z.sameBut hs (cne y c e)⟩
  .obtain⟨w',z⟩:=I.cell y c e
   exact⟨w',z.sameBut hs (cne y c e)⟩
  .obtain⟨e,n,ne,nf,d⟩:=I.pin p hp
   exact⟨(hs.2 p.1 ne).trans e,n,ne,nf,d⟩
 .have hfn:X.fn x=true:=by
   rcases hf with z|z
   .exact z
   .rw[z]at hk;cases hk
  obtain⟨c,hc⟩:=I.ok.has x (.inl hk)
  obtain⟨w',z⟩:=I.cell x c hc
  refine wpAny_storeName_cell I.ok.kind hk hc z (λh' hc' hs=>?_)
  obtain⟨oc,hoc,hocd⟩:=id z
  refine h {s with heap:=h'} ⟨I.ok,I.os,I.bare,⟨λb o e n hb hx=>?_,λb o e n hb hx=>?_,I.base.free,λb o e hx=>?_,I.base.tups,I.base.frzs,I.base.tbls⟩,⟨m,hn.sameBut hs (symm (cne x c hc)),λj y v' e1 e2 e3=>?_⟩,λy c' e=>?_,I.free,I.freeC,λp hp=>?_,tracked ⟨oc,hoc,I.freeC x c hc⟩ hs,by simpa using I.len⟩ ⟨c,hs,.inr hc⟩
  .exact(hs.2 b (ne_of_lt (lt_of_lt_of_le (lt_size e) (I.ok.cab x c hfn hc)))).trans (I.base.keep b o e n hb hx)
  .obtain⟨sl,e1⟩:=I.base.slot b o e n hb hx
   exact⟨sl,(hs.2 b (ne_of_lt (lt_of_lt_of_le (lt_size e) (I.ok.cab x c hfn hc)))).trans e1⟩
  .obtain⟨o',e1⟩:=I.base.there b o e hx
   exact⟨o',(hs.2 b (ne_of_lt (lt_of_lt_of_le (lt_size e) (I.ok.cab x c hfn hc)))).trans e1⟩
  .by_cases hj:j=i
   .subst hj
    rw[hi]at e1;cases e1
    rw[getElem?_set_self hiσ]at e2
    cases e2
    exact⟨u,r,.inr ⟨.inl hk,c,hc,hc'⟩⟩
   .rw[getElem?_set_ne (symm hj)]at e2
    obtain⟨u',r',q⟩:=hl j y v' e1 e2 e3
    refine⟨u',r',?_⟩
    rcases q with q|⟨k,c',e,z'⟩
    .exact .inl q
    .refine .inr ⟨k,c',e,z'.sameBut hs ?_⟩
     rintro rfl
     exact hj (KQ hN e1 (I.ok.inj _ _ _ e hc▸hi))
  .by_cases hcc:c'=c
   .subst hcc;exact⟨_,hc'⟩
   .obtain⟨w2,z2⟩:=I.cell y c' e
    exact⟨w2,z2.sameBut hs hcc⟩
  .obtain⟨e,n,ne,nf,d⟩:=I.pin p hp
   refine⟨(hs.2 p.1 ?_).trans e,n,ne,nf,d⟩
   intro q
   rw[q,hoc]at e
   have q':oc=p.2:=Option.some.inj e
   exact d w' (by rw[<-q'];exact hocd)
theorem Ia{M:Model}{A:Around}{E:Value->Shared->Prop}{i:Nat}{x:Str}{v:V}{Q:Unit->Shared->Prop}(I:Inv X pins σ H s)(hN:X.N.Nodup)(hi:X.N[i]?=some x)(hx:Loc X.env.scope x)(r:RelV v u)
  (h:∀s',Inv X pins (σ.set i (some v)) H s'->Q () s')(hf:Zlo X x:=by first|exact .inl rfl|exact .inr rfl|assumption):wpAny M A (storeName X.env x u) Q E s:=
 OA I hN hi hx r (λs' I' _=>h s' I') hf
theorem Inv.call'{s':Shared}{ch:List Addr}(I:Inv X pins σ H s)(ho:s'.os=s.os)(u:Un (frs X.stack) ch H H' s.heap s'.heap)(hok:HOk X.prog X.w H' s'.heap)(hg:AllBare s'.gens)
  (hch:∀b∈ch,(b∈X.ex\/X.s₀.heap.objs.size<=b)/\b≠X.env.locals/\(∀x c,X.env.cells.lookup x=some c->c≠b)/\∀p∈X.pn++pins,p.1≠b):Inv X pins σ H' s':=by
 obtain⟨h',g',d',t',o'⟩:=s'
 have e:o'=s.os:=ho
 subst e
 exact I.call (g':=g') (t':=t') (d':=d') u hok hg hch
end
abbrev XK:=Value->Option Addr->Hp->Prop
abbrev St:=List (Option V)
abbrev VK:=V->Hp->Prop
abbrev TE:=St->Hp->VK->Prop
abbrev TT:=St->Hp->(Bool->Hp->Prop)->Prop
abbrev TA:=St->Hp->(List V->Hp->Prop)->Prop
structure Ends where
 nx:St->Hp->Prop
 rt:VK
 bk:St->Hp->Prop:=λ_ _=>False
 ct:St->Hp->Prop:=λ_ _=>False
abbrev TS:=Ends->St->Hp->Prop
def EP(X:Cx)(pins:List (Addr×Obj))(σ:St)(Q:VK)(u:Value)(s':Shared):Prop:=∃v H',Inv X pins σ H' s'/\RelV v u/\Q v H'
def TP(X:Cx)(pins:List (Addr×Obj))(σ:St)(Q:Bool->Hp->Prop)(b:Bool)(s':Shared):Prop:=∃H',Inv X pins σ H' s'/\Q b H'
def AP(X:Cx)(pins:List (Addr×Obj))(σ:St)(Q:List V->Hp->Prop)(us:List Value)(s':Shared):Prop:=∃vs H',Inv X pins σ H' s'/\Vals vs us/\Q vs H'
def SP(X:Cx)(pins:List (Addr×Obj))(D:Ends)(f:Flow)(s':Shared):Prop:=
 match f with
 | .next=>∃σ' H',Inv X pins σ' H' s'/\D.nx σ' H'
 | .brk=>∃σ' H',Inv X pins σ' H' s'/\D.bk σ' H'
 | .cont=>∃σ' H',Inv X pins σ' H' s'/\D.ct σ' H'
 | .ret u=>∃v σ' H',Inv X pins σ' H' s'/\RelV v u/\D.rt v H'
def PE(X:Cx)(e:Expr)(t:TE):Prop:=
 ∀(pins:List (Addr×Obj)) (s:Shared) (σ:St) (H:Hp) (Q:VK),Inv X pins σ H s->t σ H Q->wpAny (model X.prog X.w) X.A (eval e X.env) (EP X pins σ Q) X.xe s
def PT(X:Cx)(e:Expr)(t:TT):Prop:=
 ∀(pins:List (Addr×Obj)) (s:Shared) (σ:St) (H:Hp) (Q:Bool->Hp->Prop),Inv X pins σ H s->t σ H Q->wpAny (model X.prog X.w) X.A (isTrue e X.env (eval e X.env)) (TP X pins σ Q) X.xe s
def PW(X:Cx)(e:Expr)(t:TT):Prop:=
 ∀(whole:Sem Value) (pins:List (Addr×Obj)) (s:Shared) (σ:St) (H:Hp) (Q:Bool->Hp->Prop),Inv X pins σ H s->t σ H Q->wpAny (model X.prog X.w) X.A (isTrue e X.env whole) (TP X pins σ Q) X.xe s
variable{e:Expr}
theorem PW.pt{t:TT}(h:PW X e t):PT X e t:=h _
def PA(X:Cx)(es:List Expr)(t:TA):Prop:=
 ∀(pos:Pos) (pins:List (Addr×Obj)) (s:Shared) (σ:St) (H:Hp) (Q:List V->Hp->Prop),Inv X pins σ H s->t σ H Q->wpAny (model X.prog X.w) X.A (spliced (backTo pos (starEach es X.env))) (AP X pins σ Q) X.xe s
def PS(X:Cx)(st:Stmt)(t:TS):Prop:=
 ∀(pins:List (Addr×Obj)) (s:Shared) (σ:St) (H:Hp) (D:Ends),Inv X pins σ H s->t D σ H->wpAny (model X.prog X.w) X.A (exec st X.env) (SP X pins D) X.xe s
def PSs(X:Cx)(st:List Stmt)(t:TS):Prop:=
 ∀(pins:List (Addr×Obj)) (s:Shared) (σ:St) (H:Hp) (D:Ends),Inv X pins σ H s->t D σ H->wpAny (model X.prog X.w) X.A (execs st X.env) (SP X pins D) X.xe s
variable{M:Model}{A:Around}{E:Value->Shared->Prop}
theorem thn{α:Type}{t:Sem α}{Q Q':α->Shared->Prop}(h:wpAny M A t Q E s)(hQ:∀a s,Q a s->Q' a s):wpAny M A t Q' E s:=wpAny_mono h hQ λ_ _ x=>x
variable{ta:TE}{pos:Pos}
section
def tVar(i:Nat):TE:=λσ H Q=>∃v,σ[i]?=some (some v)/\Q v H
def tC(v:V):TE:=λ_ H Q=>Q v H
theorem Um{i:Nat}{x:Str}{pos:Pos}(hN:X.N[i]?=some x)(hv:Vis X.env.scope x)(hd:(x==("__debug__":Str))=false:=by decide)(hcd:(x==("__classdict__":Str))=false:=by decide):PE X (.Name x pos) (tVar i):=by
 intro pins s σ H Q I h
 obtain⟨v,e,h⟩:=h
 obtain⟨m,hn,hl⟩:=I.loc
 obtain⟨u,r,l⟩:=hl i x v hN e hv
 have fin:EP X pins σ Q u s:=⟨v,H,I,r,h⟩
 rcases l with⟨hk,hm⟩|⟨hk,c,hc,hcell⟩
 .exact wpAny_Name (wpAny_loadName_local I.ok.kind hk hn hm fin) hd
 .rcases hk with hk|hk
  .exact wpAny_Name (wpAny_loadName_cell I.ok.kind hk hc hcell fin) hd
  .exact wpAny_Name (wpAny_loadName_free I.ok.kind hk hc hcell fin hcd) hd
theorem pe_int{i j pos}:PE X (.Constant (.int i) j pos) (tC (.int i)):=λ_ _ _ H _ I h=>wpAny_Constant_int ⟨.int i,H,I.tok _,⟨_,rfl⟩,h⟩
theorem pe_bl{b j pos}:PE X (.Constant (.bool b) j pos) (tC (.bl b)):=λ_ _ _ H _ I h=>Constant_bool ⟨.bl b,H,I,rfl,h⟩
theorem pe_non{j pos}:PE X (.Constant .none j pos) (tC .non):=λ_ _ _ H _ I h=>Constant_none ⟨.non,H,I,rfl,h⟩
theorem pe_str{x j pos}:PE X (.Constant (.str x) j pos) (tC (.str x)):=λ_ _ _ H _ I h=>Calls.Constant_str ⟨.str x,H,I.tok _,⟨_,rfl⟩,h⟩
def Gl(X:Cx)(x:Str):Prop:=X.env.kindOf x=some .globalImplicit
theorem JA{σ:St}{x:Str}{pos:Pos}{Q:Value->Shared->Prop}(I:Inv X pins σ H s)(hg:Gl X x)(hm:X.mg x=some u)(h:Q u s)
  (hd:(x==("__debug__":Str))=false:=by decide):wpAny (model X.prog X.w) X.A (eval (.Name x pos) X.env) Q E s:=
 Calls.Name_function_global I.ok.kind hg (Calls.loadGlobal_global (by rw[I.ok.glob];exact I.mod.glob.keeps I.bk) hm h) hd
theorem Fm{σ:St}{x:Str}{pos:Pos}{Q:Value->Shared->Prop}(I:Inv X pins σ H s)(hg:Gl X x)(hm:X.mg x=none)(hv:bootBuiltins x=some u)(h:Q u s)
  (hn:x≠"__name__":=by decide)(hd:(x==("__debug__":Str))=false:=by decide):wpAny (model X.prog X.w) X.A (eval (.Name x pos) X.env) Q E s:=by
 obtain⟨mb,h1,h2⟩:=I.mod.blt
 exact Calls.Name_function_global I.ok.kind hg (Calls.loadGlobal_builtin (by rw[I.ok.glob];exact I.mod.glob.keeps I.bk) hm (by rw[I.ok.blt];exact h1.keeps I.bk) ((h2 x hn).trans hv) h) hd
theorem Hf{x:Str}{v:V}{pos:Pos}(hg:Gl X x)(hm:X.mg x=some u)(r:RelV v u)(hd:(x==("__debug__":Str))=false:=by decide):PE X (.Name x pos) (tC v):=
 λ_ _ _ H _ I h=>JA I hg hm ⟨v,H,I,r,h⟩ hd
theorem RU{x:Str}{v:V}{pos:Pos}(hg:Gl X x)(hm:X.mg x=none)(hv:bootBuiltins x=some u)(r:RelV v u)(hn:x≠"__name__":=by decide)(hd:(x==("__debug__":Str))=false:=by decide):PE X (.Name x pos) (tC v):=
 λ_ _ _ H _ I h=>Fm I hg hm hv ⟨v,H,I,r,h⟩ hn hd
variable{a b:Expr}{tb:TE}
def PC(X:Cx)(op:CmpOp)(a b:Expr)(t:TE):Prop:=
 ∀(pins:List (Addr×Obj)) (s:Shared) (σ:St) (H:Hp) (Q:VK),Inv X pins σ H s->t σ H Q->
  wpAny (model X.prog X.w) X.A (eval a X.env) (λv s₁=>wpAny (model X.prog X.w) X.A (eval b X.env) (λu s₂=>wpAny (model X.prog X.w) X.A (compareOp op v u) (EP X pins σ Q) X.xe s₂) X.xe s₁) X.xe s
theorem Rp(b:Expr){op:CmpOp}(h:op≠.In)(h2:op≠.NotIn):behindInMarks op b=false:=by
 have e1:(op==CmpOp.In)=false:=by cases op<;>first|rfl|exact absurd rfl h
 have e2:(op==CmpOp.NotIn)=false:=by cases op<;>first|rfl|exact absurd rfl h2
 cases b<;>simp[behindInMarks,e1,e2]
def tIsN(ta:TE):TE:=λσ H Q=>ta σ H λx H1=>Q (.bl (decide (x=.non))) H1
theorem RelV.none_iff{x:V}{v:Value}(r:RelV x v):(v==Value.none)=decide (x=.non):=by
 cases x with
 |non=>cases r;rfl
 |bl _=>cases r;rfl
 |int _=>obtain⟨t,rfl⟩:=r;rfl
 |str _=>obtain⟨t,rfl⟩:=r;rfl
 |byt _=>obtain⟨t,rfl⟩:=r;rfl
 |flt _=>obtain⟨t,rfl⟩:=r;rfl
 |ref _=>cases r;rfl
 |ty _=>cases r;rfl
theorem T8{j pos'}(ha:PE X a ta):PC X .Is a (.Constant .none j pos') (tIsN ta):=by
 intro pins s σ H Q I h
 refine thn (ha pins s σ H _ I h) λv s1 ⟨x,H1,I1,r1,q1⟩=>?_
 exact Constant_none (is_none_gen ⟨.bl _,H1,I1,by rw[r1.none_iff];rfl,q1⟩)
def tB(t:TE):TT:=λσ H Q=>t σ H λx H1=>∃c,x=.bl c/\Q c H1
theorem Tf{op:CmpOp}{t:TE}(h:PC X op a b t)(h1:behindInMarks op b=false:=by first|exact Rp _ (by decide) (by decide)|rfl):PT X (.Compare a [op] [b] pos) (tB t):=by
 intro pins s σ H Q I hw
 refine wpAny_isTrue_Compare1 (thn (h pins s σ H _ I hw) λv s1 h1=>thn h1 λu s2 h2=>thn h2 λc s3 ⟨x,H1,I1,r1,q1⟩=>?_) h1
 obtain⟨d,rfl,q⟩:=q1
 cases r1
 exact wpAny_truthy_bool ⟨H1,I1,q⟩
theorem PR{t:TE}(h:PE X e t)(he:∀whole,isTrue e X.env whole=(do let v <-whole;standAt e.pos;holding [v] (truthy v)):=by intro _;rfl):PT X e (tB t):=by
 intro pins s σ H Q I hw
 refine isTrue_plain (thn (h pins s σ H _ I hw) λv s1 ⟨x,H1,I1,r1,q1⟩=>?_) (he _)
 obtain⟨d,rfl,q⟩:=q1
 cases r1
 exact wpAny_truthy_bool ⟨H1,I1,q⟩
variable{tA tB':TT}{rest:List Expr}
def tAnd(t u:TT):TT:=λσ H Q=>t σ H λc H1=>if c=true then u σ H1 Q else Q false H1
def tOr(t u:TT):TT:=λσ H Q=>t σ H λc H1=>if c=true then Q true H1 else u σ H1 Q
def tNot(t:TT):TT:=λσ H Q=>t σ H λc H1=>Q (!c) H1
theorem RN(ha:PT X a tA):PW X (.BoolOp .And [a] pos) tA:=by
 intro wh pins s σ H Q I h
 refine isTrue_and (thn (ha pins s σ H Q I h) λc s1 e=>?_)
 cases c with
 |true=>exact isTrue_and_nil e
 |false=>exact e
theorem T_(ha:PT X a tA):PW X (.BoolOp .Or [a] pos) tA:=by
 intro wh pins s σ H Q I h
 refine isTrue_or (thn (ha pins s σ H Q I h) λc s1 e=>?_)
 cases c with
 |false=>exact isTrue_or_nil e
 |true=>exact e
theorem TM(ha:PT X a tA)(hb:PW X (.BoolOp .And (b::rest) pos) tB'):PW X (.BoolOp .And (a::b::rest) pos) (tAnd tA tB'):=by
 intro wh pins s σ H Q I h
 refine isTrue_and (thn (ha pins s σ H _ I h) λc s1 ⟨H1,I1,q1⟩=>?_)
 cases c with
 |true=>exact hb wh pins s1 σ H1 Q I1 q1
 |false=>exact⟨H1,I1,q1⟩
theorem Vo(ha:PT X a tA)(hb:PW X (.BoolOp .Or (b::rest) pos) tB'):PW X (.BoolOp .Or (a::b::rest) pos) (tOr tA tB'):=by
 intro wh pins s σ H Q I h
 refine isTrue_or (thn (ha pins s σ H _ I h) λc s1 ⟨H1,I1,q1⟩=>?_)
 cases c with
 |true=>exact⟨H1,I1,q1⟩
 |false=>exact hb wh pins s1 σ H1 Q I1 q1
theorem Q5(ha:PT X a tA):PT X (.UnaryOp .Not a pos) (tNot tA):=by
 intro pins s σ H Q I h
 exact isTrue_not (ha pins s σ H (λc H1=>Q (!c) H1) I h)
def U_(ta tb:TE):TE:=λσ H Q=>ta σ H λx H1=>∃c,x=.bl c/\if c=true then tb σ H1 Q else Q (.bl false) H1
def tOrV(ta tb:TE):TE:=λσ H Q=>ta σ H λx H1=>∃c,x=.bl c/\if c=true then Q (.bl true) H1 else tb σ H1 Q
def Vc(ta:TE):TE:=λσ H Q=>ta σ H λx H1=>∃c,x=.bl c/\Q (.bl (!c)) H1
theorem Te{op}{t:TE}(h:PE X a t):PE X (.BoolOp op [a] pos) t:=λpins s σ H Q I hw=>BoolOp_one (h pins s σ H Q I hw)
theorem Pz(ha:PE X a ta)(hb:PE X (.BoolOp .And (b::rest) pos) tb):PE X (.BoolOp .And (a::b::rest) pos) (U_ ta tb):=by
 intro pins s σ H Q I h
 refine BoolOp_and (thn (ha pins s σ H _ I h) λv s1 ⟨x,H1,I1,r1,q1⟩=>?_)
 obtain⟨c,rfl,q1⟩:=q1
 cases r1
 refine wpAny_truthy_bool ?_
 cases c with
 |true=>exact hb pins s1 σ H1 Q I1 q1
 |false=>exact⟨.bl false,H1,I1,rfl,q1⟩
theorem UZ(ha:PE X a ta)(hb:PE X (.BoolOp .Or (b::rest) pos) tb):PE X (.BoolOp .Or (a::b::rest) pos) (tOrV ta tb):=by
 intro pins s σ H Q I h
 refine BoolOp_or (thn (ha pins s σ H _ I h) λv s1 ⟨x,H1,I1,r1,q1⟩=>?_)
 obtain⟨c,rfl,q1⟩:=q1
 cases r1
 refine wpAny_truthy_bool ?_
 cases c with
 |false=>exact hb pins s1 σ H1 Q I1 q1
 |true=>exact⟨.bl true,H1,I1,rfl,q1⟩
theorem Tc(ha:PE X a ta):PE X (.UnaryOp .Not a pos) (Vc ta):=by
 intro pins s σ H Q I h
 refine UnaryOp_ (thn (ha pins s σ H _ I h) λv s1 ⟨x,H1,I1,r1,q1⟩=>?_)
 obtain⟨c,rfl,q1⟩:=q1
 cases r1
 exact not_of (wpAny_truthy_bool ⟨.bl (!c),H1,I1,rfl,q1⟩)
end
def SqL(K:Frag)(H:Hp)(a:Addr)(xs:List V):Prop:=
 Rd H a (.lst xs)\/
  ∃(o:Obj) (its:Array Value) (n:Nat),K.lookup a=some o/\o.cls=.type "list"/\o.dict=none/\o.data=.seq its n/\its.size<=sizeLine/\Vals xs its.toList
def SqT(K:Frag)(H:Hp)(a:Addr)(xs:List V):Prop:=
 Rd H a (.tup xs)\/
  ∃(o:Obj) (its:Array Value) (n:Nat),K.lookup a=some o/\o.cls=.type "tuple"/\o.data=.seq its n/\o.dict=none/\its.size<=sizeLine/\Vals xs its.toList
def absV:Value->Option V
 | .none=>some .non
 | .bool b=>some (.bl b)
 | .int i _=>some (.int i)
 | .str x _=>some (.str x)
 | .bytes b _=>some (.byt b)
 | .float b _=>some (.flt b)
 | .ref a=>some (.ref a)
 | .type n=>some (.ty n)
 |_=>none
theorem RelV.abs{x:V}(r:RelV x u):absV u=some x:=by
 cases x with
 |non=>cases r;rfl
 |bl _=>cases r;rfl
 |int _=>obtain⟨t,rfl⟩:=r;rfl
 |str _=>obtain⟨t,rfl⟩:=r;rfl
 |byt _=>obtain⟨t,rfl⟩:=r;rfl
 |flt _=>obtain⟨t,rfl⟩:=r;rfl
 |ref _=>cases r;rfl
 |ty _=>cases r;rfl
theorem RelV.inj{x y:V}(r:RelV x u)(q:RelV y u):x=y:=Option.some.inj (r.abs.symm.trans q.abs)
theorem Vals.inj:∀{xs ys:List V}{us:List Value},Vals xs us->Vals ys us->xs=ys
 |_,_,_,.nil,.nil=>rfl
 |_,_,_,.cons r t,.cons r' t'=>by rw[r.inj r',Vals.inj t t']
variable{σ:St}{xs:List V}
section
variable{ys:List V}
theorem SqL.of{K:PySem.W.Frag}(h:H a=some (.lst xs)):SqL K H a xs:=.inl (.inl h)
theorem SqT.of{K:PySem.W.Frag}(h:H a=some (.tup xs)):SqT K H a xs:=.inl (.inl h)
theorem Inv.list(I:Inv X pins σ H s)(h:SqL X.K H a xs):∃its:List Value,Vals xs its/\PlainL s.heap a its.toArray/\xs.length<=sizeLine:=by
 rcases h with h|⟨o,its,n,hk,hc,hd,hs,hz,r⟩
 .obtain⟨z,its,n,r,e⟩:=h.ok I.hok
  exact⟨its,r,⟨_,n,e,rfl,rfl,rfl⟩,z⟩
 .refine⟨its.toList,r,⟨o,n,I.kIn a o hk,hc,hd,by simpa using hs⟩,?_⟩
  have e:=r.length
  simp only[Array.length_toList]at e
  omega
theorem Inv.tuple(I:Inv X pins σ H s)(h:SqT X.K H a xs):∃its:List Value,Vals xs its/\IsTup s.heap a its.toArray/\xs.length<=sizeLine:=by
 rcases h with h|⟨o,its,n,hk,hc,hs,hd0,hz,r⟩
 .obtain⟨z,⟨its,r,p⟩,_⟩:=h.ok I.hok
  exact⟨its,r,p,z⟩
 .refine⟨its.toList,r,⟨o,I.kIn a o hk,hc,n,by simpa using hs⟩,?_⟩
  have e:=r.length
  simp only[Array.length_toList]at e
  omega
theorem Inv.list_inj(I:Inv X pins σ H s)(h:SqL X.K H a xs)(h':SqL X.K H a ys):xs=ys:=by
 obtain⟨its,r,⟨o,n,e,_,_,d⟩,_⟩:=I.list h
 obtain⟨its',r',⟨o',n',e',_,_,d'⟩,_⟩:=I.list h'
 rw[e]at e';cases e'
 rw[d]at d'
 injection d' with d1 _
 have:its=its':=by simpa using congrArg Array.toList d1
 subst this
 exact r.inj r'
theorem Inv.tuple_inj(I:Inv X pins σ H s)(h:SqT X.K H a xs)(h':SqT X.K H a ys):xs=ys:=by
 obtain⟨its,r,⟨o,e,_,n,d⟩,_⟩:=I.tuple h
 obtain⟨its',r',⟨o',e',_,n',d'⟩,_⟩:=I.tuple h'
 rw[e]at e';cases e'
 rw[d]at d'
 injection d' with d1 _
 have:its=its':=by simpa using congrArg Array.toList d1
 subst this
 exact r.inj r'
end
abbrev Cx.wish(X:Cx)(E:Value->Shared->Prop):Cx:={X with xe:=E}
abbrev Cx.nox(X:Cx):Cx:=X.wish λ_ _=>False
theorem Cx.Ok.wish(ok:X.Ok)(E:Value->Shared->Prop):(X.wish E).Ok:=
 ⟨ok.mod,ok.kind,ok.glob,ok.blt,ok.above,ok.inj,ok.has,ok.cab,ok.hd,ok.frames,ok.stk,ok.exf,ok.bs,ok.bsz,ok.noex,ok.exfs,ok.funs,ok.frf⟩
theorem Cx.Ok.unwish(ok:(X.wish E).Ok):X.Ok:=
 ⟨ok.mod,ok.kind,ok.glob,ok.blt,ok.above,ok.inj,ok.has,ok.cab,ok.hd,ok.frames,ok.stk,ok.exf,ok.bs,ok.bsz,ok.noex,ok.exfs,ok.funs,ok.frf⟩
theorem Inv.wish(I:Inv X pins σ H s)(E:Value->Shared->Prop):Inv (X.wish E) pins σ H s:=⟨I.ok.wish E,I.os,I.bare,I.base,I.loc,I.cell,I.free,I.freeC,I.pin,I.hok,I.len⟩
theorem Inv.unwish(I:Inv (X.wish E) pins σ H s):Inv X pins σ H s:=⟨I.ok.unwish,I.os,I.bare,I.base,I.loc,I.cell,I.free,I.freeC,I.pin,I.hok,I.len⟩
theorem SP.unwish{D:Ends}{f:Flow}{s':Shared}(h:SP (X.wish E) pins D f s'):SP X pins D f s':=by
 cases f with
 |next=>obtain⟨σ',H',I,q⟩:=h;exact⟨σ',H',I.unwish,q⟩
 |brk=>obtain⟨σ',H',I,q⟩:=h;exact⟨σ',H',I.unwish,q⟩
 |cont=>obtain⟨σ',H',I,q⟩:=h;exact⟨σ',H',I.unwish,q⟩
 |ret u=>obtain⟨v,σ',H',I,r,q⟩:=h;exact⟨v,σ',H',I.unwish,r,q⟩
theorem PSs.nox{st:List Stmt}{t:TS}(h:PSs X.nox st t):PSs X st t:=λpins s σ H D I hw=>
 wpAny_mono (h pins s σ H D (I.wish _) hw) (λ_ _ q=>q.unwish) λ_ _ z=>False.elim z
variable{te:TE}
section
variable{st:Stmt}{rest:List Stmt}{t u:TS}
def UL:TS:=λD σ H=>D.nx σ H
def tSeq(t u:TS):TS:=λD σ H=>t {D with nx:=u D} σ H
theorem pss_nil:PSs X [] UL:=λ_ _ σ H _ I h=>wpAny_execs_nil ⟨σ,H,I,h⟩
theorem Az(h1:PS X st t)(h2:PSs X rest u):PSs X (st::rest) (tSeq t u):=by
 intro pins s σ H D I h
 refine wpAny_execs_cons (thn (h1 pins s σ H {D with nx:=u D} I h) λf s1 q=>?_)
 cases f with
 |next=>
  obtain⟨σ',H',I',q⟩:=q
  exact h2 pins s1 σ' H' D I' q
 |ret v=>exact q
 |brk=>exact q
 |cont=>exact q
theorem Inv.quiet(I:Inv X pins σ H s):interactive X.env=false:=by simp[interactive,I.ok.kind]
def UN(te:TE):TS:=λD σ H=>te σ H λ_ H1=>D.nx σ H1
theorem BG(he:PE X e te)(hs:swapsWith e none pos.line X.env=pure false:=by rfl):PS X (.Expr e pos) (UN te):=by
 intro pins s σ H D I h
 exact wpAny_Expr_any (thn (he pins s σ H _ I h) λv s1 ⟨x,H1,I1,r1,q1⟩=>⟨σ,H1,I1,q1⟩) I.quiet hs
def tRet(te:TE):TS:=λD σ H=>te σ H D.rt
theorem EW(he:PE X e te):PS X (.Return (some e) pos) (tRet te):=by
 intro pins s σ H D I h
 exact wpAny_Return_some (thn (he pins s σ H _ I h) λv s1 ⟨x,H1,I1,r1,q1⟩=>⟨x,σ,H1,I1,r1,q1⟩)
def tIfS(c:TT)(t u:TS):TS:=λD σ H=>c σ H λb H1=>if b=true then t D σ H1 else u D σ H1
theorem Cu{c:Expr}{a b:List Stmt}{tc:TT}(hc:PT X c tc)(ha:PSs X a t)(hb:PSs X b u):PS X (.If c a b pos) (tIfS tc t u):=by
 intro pins s σ H D I h
 refine wpAny_If (thn (hc pins s σ H _ I h) λd s1 ⟨H1,I1,q1⟩=>?_)
 cases d with
 |true=>exact ha pins s1 σ H1 D I1 q1
 |false=>exact hb pins s1 σ H1 D I1 q1
def QR:TS:=λ_ _ _=>False
theorem AA{sts:List Stmt}:PSs X sts QR:=λ_ _ _ _ _ _ h=>h.elim
end
abbrev TG:=V->St->Hp->(St->Hp->Prop)->Prop
abbrev TGs:=List V->St->Hp->(St->Hp->Prop)->Prop
def PG(X:Cx)(target:Expr)(t:TG):Prop:=
 ∀(pins:List (Addr×Obj)) (s:Shared) (σ:St) (H:Hp) (v:V) (u:Value) (Q:St->Hp->Prop),Inv X pins σ H s->RelV v u->t v σ H Q->
  wpAny (model X.prog X.w) X.A (assign target X.env u) (λ_ s'=>∃σ' H',Inv X pins σ' H' s'/\Q σ' H') X.xe s
def PGs(X:Cx)(ts:List Expr)(t:TGs):Prop:=
 ∀(pins:List (Addr×Obj)) (s:Shared) (σ:St) (H:Hp) (vs:List V) (us:List Value) (Q:St->Hp->Prop),Inv X pins σ H s->Vals vs us->t vs σ H Q->
  wpAny (model X.prog X.w) X.A (assignInOrder ((assignEach ts X.env).map (·.2)) us) (λ_ s'=>∃σ' H',Inv X pins σ' H' s'/\Q σ' H') X.xe s
abbrev TSet:=V->V->V->Hp->(Hp->Prop)->Prop
def PSet(X:Cx)(t:TSet):Prop:=
 ∀(pins:List (Addr×Obj)) (s:Shared) (σ:St) (H:Hp) (o i v:V) (ov iv u:Value) (Q:Hp->Prop),Inv X pins σ H s->RelV o ov->RelV i iv->RelV v u->t o i v H Q->
  wpAny (model X.prog X.w) X.A (setItem ov iv u) (λ_ s'=>∃H',Inv X pins σ H' s'/\Q H') X.xe s
def BO(i:Nat):TG:=λv σ H Q=>Q (σ.set i (some v)) H
theorem Aw{i:Nat}{x:Str}(hN:X.N.Nodup)(hi:X.N[i]?=some x)(hx:Loc X.env.scope x)(hf:Zlo X x:=by first|exact .inl rfl|exact .inr rfl|assumption):PG X (.Name x pos) (BO i):=by
 intro pins s σ H v u Q I r h
 exact wpAny_assign_Name (Ia I hN hi hx r (λs' I'=>⟨_,H,I',h⟩) hf)
def gNil:TGs:=λvs σ H Q=>vs=[]/\Q σ H
def KW(t:TG)(u:TGs):TGs:=λvs σ H Q=>∃v r,vs=v::r/\t v σ H λσ' H'=>u r σ' H' Q
theorem BT:PGs X [] gNil:=by
 intro pins s σ H vs us Q I r h
 obtain⟨e,h⟩:=h
 subst e
 cases r
 exact assignInOrder_nil ⟨σ,H,I,h⟩
theorem A5{es:List Expr}{t:TG}{u:TGs}(h1:PG X e t)(h2:PGs X es u)
  (hs:(assignEach (e::es) X.env).map (·.2)=assign e X.env::(assignEach es X.env).map (·.2):=by rfl):PGs X (e::es) (KW t u):=by
 intro pins s σ H vs us Q I r h
 obtain⟨v,vr,e1,h⟩:=h
 subst e1
 cases r with
 |cons r rr=>
  rw[hs]
  refine assignInOrder_cons (thn (h1 pins s σ H _ _ _ I r h) λ_ s1 ⟨σ1,H1,I1,q1⟩=>?_)
  exact h2 pins s1 σ1 H1 _ _ Q I1 rr q1
def gTup(K:Frag)(n:Nat)(t:TGs):TG:=λv σ H Q=>∃a xs,v=.ref a/\SqT K H a xs/\xs.length=n/\t xs σ H Q
theorem Dl{es:List Expr}{k:Nat}{t:TGs}{n:Nat}(hc:X.calm=true)(h:PGs X es t)
  (hn:(assignEach es X.env).length=n:=by rfl)(hst:(assignEach es X.env).findIdx? (·.1)=none:=by rfl):PG X (.Tuple es k pos) (gTup X.K n t):=by
 intro pins s σ H v u Q I r hw
 obtain⟨a,xs,e1,hq,hl,hw⟩:=hw
 subst e1
 cases r
 obtain⟨its,rv,ht,hz⟩:=I.tuple hq
 refine assign_Tuple_tuple (I.ok.hd hc) ht (by simp[hn,<-hl,rv.length]) hst λh' hx=>?_
 have I1:Inv X pins σ H {s with heap:=h'}:=I.kept (t':=s.toks) λb o e=>hx b o (ne_of_lt (lt_size e)) e
 exact h pins _ σ H xs _ Q I1 (by simpa using rv) hw
def gSub(to ti:TE)(t:TSet):TG:=λv σ H Q=>to σ H λo H1=>ti σ H1 λi H2=>t o i v H2 λH3=>Q σ H3
theorem HJ{o i:Expr}{to ti:TE}{t:TSet}(ho:PE X o to)(hi:PE X i ti)(hs:PSet X t)
  (ha:∀v,assign (.Subscript o i pos) X.env v=(do
   let ov <-holding [v] (eval o X.env)
   let iv <-holding [v,ov] (eval i X.env)
   standAt pos
   holding [v,ov,iv] (setItem ov iv v)
   release [v,ov,iv] []):=by intro _;rfl):PG X (.Subscript o i pos) (gSub to ti t):=by
 intro pins s σ H v u Q I r h
 rw[ha]
 refine wpAny_bind (wpAny_holding (thn (ho pins s σ H _ I h) λov s1 ⟨x,H1,I1,r1,q1⟩=>?_))
 refine wpAny_bind (wpAny_holding (thn (hi pins s1 σ H1 _ I1 q1) λiv s2 ⟨y,H2,I2,r2,q2⟩=>?_))
 refine wpAny_bind (wpAny_standAt (wpAny_bind (wpAny_holding (thn (hs pins s2 σ H2 x y v ov iv u _ I2 r1 r2 r q2) λ_ s3 ⟨H3,I3,q3⟩=>?_))))
 exact wpAny_release ⟨σ,H3,I3,q3⟩
def tAsg(te:TE)(g:TG):TS:=λD σ H=>te σ H λx H1=>g x σ H1 D.nx
theorem C8{tg:Expr}{g:TG}(he:PE X e te)(hg:PG X tg g)(hs:swapsWithSole [tg] e pos.line X.env=pure false:=by rfl)(hw:swappedStores [tg] e X.env=pure none:=by rfl)
  (h1:(assignEach [tg] X.env).map (·.2)=[assign tg X.env]:=by rfl):PS X (.Assign [tg] e pos) (tAsg te g):=by
 intro pins s σ H D I h
 refine wpAny_Assign_stores (thn (he pins s σ H _ I h) λv s1 ⟨x,H1,I1,r1,q1⟩=>?_) hs hw
 rw[h1]
 exact thn (hg pins s1 σ H1 x v _ I1 r1 q1) λ_ s2 q=>q
theorem BL{i:Nat}{x:Str}{pos':Pos}(hN:X.N.Nodup)(hi:X.N[i]?=some x)(hx:Loc X.env.scope x)(he:PE X e te)(hs:swapsWith e (some (.Name x pos')) pos.line X.env=pure false:=by rfl)(hf:Zlo X x:=by first|exact .inl rfl|exact .inr rfl|assumption):
  PS X (.Assign [.Name x pos'] e pos) (tAsg te (BO i)):=by
 intro pins s σ H D I h
 refine wpAny_Assign_Name (thn (he pins s σ H _ I h) λv s1 ⟨y,H1,I1,r1,q1⟩=>?_) hs
 exact Ia I1 hN hi hx r1 (λs2 I2=>⟨_,H1,I2,q1⟩) hf
structure It where
 go:Nat->Hp->Prop
 yld:Nat->Hp->V->Hp->Prop
 stop:Nat->Hp->Prop
def FpOk(X:Cx)(pins:List (Addr×Obj))(H:Hp)(b:Addr):Prop:=
 H b=none/\b≠X.env.locals/\b∉X.fs/\(b∈X.ex\/X.s₀.heap.objs.size<=b)/\(∀x c,X.env.cells.lookup x=some c->c≠b)/\∀p∈X.pn++pins,p.1≠b
theorem Inv.fpOk(I:Inv X pins σ H s)(hb:s.heap.objs.size<=b)(hn:H' b=none):FpOk X pins H' b:=by
 refine⟨hn,Nat.ne_of_gt (Nat.lt_of_lt_of_le I.lt hb),I.nofs hb,.inr (Nat.le_trans I.sz hb),λx c e z=>?_,λp hp z=>?_⟩
 .obtain⟨v,q⟩:=I.cell x c e
  exact absurd (Nat.lt_of_lt_of_le q.lt (by rw[z];exact hb)) (Nat.lt_irrefl _)
 .exact absurd (Nat.lt_of_lt_of_le (Heap.lt_size (I.pin p hp).1) (by rw[z];exact hb)) (Nat.lt_irrefl _)
structure Turn(P:Program)(w:World)(K:Frag)(tg:Expr)(J:It)(fp:List Addr)(it:Addr)(tn:Nat->Heap->Prop):Prop where
 mem:it∈fp
 obj:∀i h,tn i h->∀b∈fp,∃o,h.get? b=some o/\∀v,o.data≠.cell v
 keep:∀i h h',tn i h->(∀b∈fp,∀o,h.get? b=some o->h'.get? b=some o)->tn i h'
 item:∀(X:Cx),X.prog=P->X.w=w->X.K=K->X.calm=true->∀(i:Nat) (pins:List (Addr×Obj)) (s:Shared) (σ:St) (H:Hp) (E:Value->Shared->Prop),Inv X pins σ H s->(∀b∈fp,FpOk X pins H b)->tn i s.heap->J.go i H->
  wpAny (model P w) X.A (pyNext (.ref it)) (λr s1=>∃u,r=some u/\
   wpAny (model P w) X.A (letOwnedTupleGo tg (.ref it) u) (λ_ s2=>∃x H',Inv X pins σ H' s2/\RelV x u/\J.yld i H x H'/\tn (i+1) s2.heap/\∀b∈fp,H' b=none) E s1) E s
 done:∀(X:Cx),X.prog=P->X.w=w->X.K=K->X.calm=true->∀(i:Nat) (pins:List (Addr×Obj)) (s:Shared) (σ:St) (H:Hp) (E:Value->Shared->Prop),Inv X pins σ H s->(∀b∈fp,FpOk X pins H b)->tn i s.heap->J.stop i H->
  wpAny (model P w) X.A (pyNext (.ref it)) (λr s1=>r=none/\Inv X pins σ H s1) E s
 self:∀(A:Around) (i:Nat) (s:Shared) (Q:Value->Shared->Prop) (E:Value->Shared->Prop),tn i s.heap->Q (.ref it) s->wpAny (model P w) A (pyIter (.ref it)) Q E s
abbrev TI:=St->Hp->(It->Hp->Prop)->Prop
def PIE(X:Cx)(pins:List (Addr×Obj))(σ:St)(tg:Expr)(R:It->Hp->Prop)(itv:Value)(s2:Shared):Prop:=
 ∃(it:Addr) (fp:List Addr) (tn:Nat->Heap->Prop) (J:It) (H':Hp),itv=.ref it/\Inv X pins σ H' s2/\Turn X.prog X.w X.K tg J fp it tn/\tn 0 s2.heap/\(∀b∈fp,FpOk X pins H' b)/\R J H'
def PI(X:Cx)(tg iter:Expr)(wi:TI):Prop:=
 ∀(pins:List (Addr×Obj)) (s:Shared) (σ:St) (H:Hp) (R:It->Hp->Prop),Inv X pins σ H s->wi σ H R->
  wpAny (model X.prog X.w) X.A (eval iter X.env) (λv s1=>wpAny (model X.prog X.w) X.A (pyIter v) (PIE X pins σ tg R) X.xe s1) X.xe s
variable{tg:Expr}
theorem Np{it:Addr}{o:Obj}{n:String}{vs:Array Value}{Q:Unit->Shared->Prop}(ho:s.heap.get? it=some o)(hc:o.cls=.type n)(hd:o.data=.fields vs)
  (hn:["enumerate","zip","dict_itemiterator","dict_reverseitemiterator","odict_iterator","itertools.zip_longest","itertools.pairwise"].contains n=false)(hQ:Q () s):wpAny M A (letOwnedTupleGo tg (.ref it) u) Q E s:=by
 unfold letOwnedTupleGo
 cases tg<;>first
  |exact wpAny_pure hQ
  |(cases u<;>first
   |exact wpAny_pure hQ
   |(refine wpAny_bind (wpAny_load ho ?_)
     rw[hc,hd]
     show wpAny M A (if(["enumerate","zip","dict_itemiterator","dict_reverseitemiterator","odict_iterator","itertools.zip_longest","itertools.pairwise"].contains n&&vs[0]?==some (rawInt _))=true then _ else _) Q E s
     rw[if_neg (by intro h;rw[hn,Bool.false_and]at h;cases h)]
     exact wpAny_pure hQ))
def Itl(K:Frag)(a:Addr):It:=
 ⟨λi H=>∃xs x,SqL K H a xs/\xs[i]?=some x,λi H x H'=>H'=H/\∀xs,SqL K H a xs->xs[i]?=some x,λi H=>∃xs,SqL K H a xs/\xs.length<=i⟩
def Itt(K:Frag)(a:Addr):It:=
 ⟨λi H=>∃xs x,SqT K H a xs/\xs[i]?=some x,λi H x H'=>H'=H/\∀xs,SqT K H a xs->xs[i]?=some x,λi H=>∃xs,SqT K H a xs/\xs.length<=i⟩
def Itr(lo:Int)(n:Nat):It:=⟨λi _=>i<n,λi H x H'=>H'=H/\x=.int (lo+i),λi _=>n<=i⟩
variable{K:Frag}
theorem Oe(a it:Addr):Turn P w K tg (Itl K a) [it] it (λi h=>h.IsListIter it a i)where
 mem:=by simp
 obj:=λi h st b hb=>by
  have e:b=it:=by simpa using hb
  subst e
  obtain⟨o,e,c,d⟩:=st
  exact⟨o,e,λv z=>by rw[d]at z;cases z⟩
 keep:=λi h h' st k=>st.at λo e=>k it (by simp) o e
 item:=by
  intro X hP hw hK hc i pins s σ H E I hf st hg
  subst hP hw hK
  obtain⟨xs,x,hq,hx⟩:=hg
  obtain⟨its,rv,p,hz⟩:=I.list hq
  obtain⟨u,hu,ru⟩:=rv.get hx
  obtain⟨f0,f1,f2,f3,f4,f5⟩:=hf it (by simp)
  refine wpAny_pyNext_list_item st p.isList (x:=u) (by simpa using hu) λh' st' sb=>?_
  have I1:Inv X pins σ H {s with heap:=h'}:=I.turned (t':=s.toks) (λb o hb e=>(sb.2 b hb).trans e) f0 f1 f3 f4 f5
  obtain⟨o,e,c,d⟩:=id st'
  exact⟨u,rfl,Np (s:={s with heap:=h'}) e c d (by decide) ⟨x,H,I1,ru,⟨rfl,λys hy=>by rw[I.list_inj hy hq];exact hx⟩,st',λb hb=>(hf b hb).1⟩⟩
 done:=by
  intro X hP hw hK hc i pins s σ H E I hf st hg
  subst hP hw hK
  obtain⟨xs,hq,hx⟩:=hg
  obtain⟨its,rv,p,hz⟩:=I.list hq
  obtain⟨f0,f1,f2,f3,f4,f5⟩:=hf it (by simp)
  have hl:=rv.length
  exact wpAny_pyNext_list_end (I.ok.hd hc) st p.isList (by simp;omega) λh' eb=>⟨rfl,I.turned (t':=s.toks) (λb o hb e=>eb b o hb e) f0 f1 f3 f4 f5⟩
 self:=λ_ _ _ _ _ st h=>wpAny_pyIter_listiter st h
theorem LY(a it:Addr):Turn P w K tg (Itt K a) [it] it (λi h=>h.IsTupleIter it a i)where
 mem:=by simp
 obj:=λi h st b hb=>by
  have e:b=it:=by simpa using hb
  subst e
  obtain⟨o,e,c,d⟩:=st
  exact⟨o,e,λv z=>by rw[d]at z;cases z⟩
 keep:=λi h h' st k=>st.at λo e=>k it (by simp) o e
 item:=by
  intro X hP hw hK hc i pins s σ H E I hf st hg
  subst hP hw hK
  obtain⟨xs,x,hq,hx⟩:=hg
  obtain⟨its,rv,p,hz⟩:=I.tuple hq
  obtain⟨u,hu,ru⟩:=rv.get hx
  obtain⟨f0,f1,f2,f3,f4,f5⟩:=hf it (by simp)
  refine wpAny_pyNext_tuple_item st (show s.heap.IsTuple a its.toArray from p) (x:=u) (by simpa using hu) λh' st' sb=>?_
  have I1:Inv X pins σ H {s with heap:=h'}:=I.turned (t':=s.toks) (λb o hb e=>(sb.2 b hb).trans e) f0 f1 f3 f4 f5
  obtain⟨o,e,c,d⟩:=id st'
  exact⟨u,rfl,Np (s:={s with heap:=h'}) e c d (by decide) ⟨x,H,I1,ru,⟨rfl,λys hy=>by rw[I.tuple_inj hy hq];exact hx⟩,st',λb hb=>(hf b hb).1⟩⟩
 done:=by
  intro X hP hw hK hc i pins s σ H E I hf st hg
  subst hP hw hK
  obtain⟨xs,hq,hx⟩:=hg
  obtain⟨its,rv,p,hz⟩:=I.tuple hq
  obtain⟨f0,f1,f2,f3,f4,f5⟩:=hf it (by simp)
  have hl:=rv.length
  exact wpAny_pyNext_tuple_end (I.ok.hd hc) st (show s.heap.IsTuple a its.toArray from p) (by simp;omega) λh' eb=>⟨rfl,I.turned (t':=s.toks) (λb o hb e=>eb b o hb e) f0 f1 f3 f4 f5⟩
 self:=λ_ _ _ _ _ st h=>wpAny_pyIter_tupleiter st h
theorem Lx(it:Addr)(lo:Int)(n:Nat):Turn P w K tg (Itr lo n) [it] it (λi h=>IsRangeIter h it (lo+(i:Nat)*1) ((n:Int)- (i:Nat)) 1)where
 mem:=by simp
 obj:=λi h st b hb=>by
  have e:b=it:=by simpa using hb
  subst e
  exact⟨_,st,λv z=>by
   have z':Data.fields _=Data.cell v:=z
   cases z'⟩
 keep:=λi h h' st k=>k it (by simp) _ st
 item:=by
  intro X hP hw hK hc i pins s σ H E I hf st hg
  subst hP hw hK
  obtain⟨f0,f1,f2,f3,f4,f5⟩:=hf it (by simp)
  have W:=Walks.range (prog:=X.prog) (w:=X.w) (I.ok.hd hc) it lo 1 n
  refine W.item i s _ _ hg st λv h' tk hv st' kk=>?_
  obtain⟨t,rfl⟩:=hv
  have I1:Inv X pins σ H {s with heap:=h',toks:=tk}:=I.turned (λb o hb e=>kk b o (by simpa using hb) e) f0 f1 f3 f4 f5
  refine⟨_,rfl,Np (s:={s with heap:=h',toks:=tk}) (n:="range_iterator") st' rfl rfl (by decide) ⟨.int (lo+i),H,I1,⟨t,?_⟩,⟨rfl,rfl⟩,st',λb hb=>(hf b hb).1⟩⟩
  rw[Int.mul_one]
 done:=by
  intro X hP hw hK hc i pins s σ H E I hf st hg
  subst hP hw hK
  obtain⟨f0,f1,f2,f3,f4,f5⟩:=hf it (by simp)
  exact wpAny_pyNext_range_end (I.ok.hd hc) st (by have:n<=i:=hg;omega) λh' eb=>⟨rfl,I.turned (t':=s.toks) (λb o hb e=>eb b o hb e) f0 f1 f3 f4 f5⟩
 self:=λ_ _ _ _ _ st h=>wpAny_pyIter_rangeiter st h
def Vw(K:Frag)(tl:TE):TI:=λσ H R=>tl σ H λx H1=>∃a,x=.ref a/\(∃xs,SqL K H1 a xs)/\R (Itl K a) H1
def iTup(K:Frag)(tl:TE):TI:=λσ H R=>tl σ H λx H1=>∃a,x=.ref a/\(∃xs,SqT K H1 a xs)/\R (Itt K a) H1
theorem G_{l:Expr}{tl:TE}(hl:PE X l tl):PI X tg l (Vw X.K tl):=by
 intro pins s σ H R I h
 refine thn (hl pins s σ H _ I h) λv s1 ⟨x,H1,I1,r1,q1⟩=>?_
 obtain⟨a,e,⟨xs,hq⟩,q⟩:=q1
 subst e
 cases r1
 obtain⟨its,rv,p,hz⟩:=I1.list hq
 refine wpAny_pyIter_list p.isList ?_
 refine⟨s1.heap.objs.size,[s1.heap.objs.size],_,_,H1,rfl,I1.kept (t':=s1.toks) λb o e=>get?_push_of_some _ e,Oe a _,⟨_,get?_push_size _ rfl,rfl,rfl⟩,λb hb=>?_,q⟩
 have e:b=s1.heap.objs.size:=by simpa using hb
 subst e
 exact I1.fpOk (le_refl _) (I1.hok.fresh (le_refl _))
theorem To{l:Expr}{tl:TE}(hl:PE X l tl):PI X tg l (iTup X.K tl):=by
 intro pins s σ H R I h
 refine thn (hl pins s σ H _ I h) λv s1 ⟨x,H1,I1,r1,q1⟩=>?_
 obtain⟨a,e,⟨xs,hq⟩,q⟩:=q1
 subst e
 cases r1
 obtain⟨its,rv,p,hz⟩:=I1.tuple hq
 refine wpAny_pyIter_tuple (show s1.heap.IsTuple a its.toArray from p) ?_
 refine⟨s1.heap.objs.size,[s1.heap.objs.size],_,_,H1,rfl,I1.kept (t':=s1.toks) λb o e=>get?_push_of_some _ e,LY a _,⟨_,get?_push_size _ rfl,rfl,rfl⟩,λb hb=>?_,q⟩
 have e:b=s1.heap.objs.size:=by simpa using hb
 subst e
 exact I1.fpOk (le_refl _) (I1.hok.fresh (le_refl _))
theorem K_{R:It->Hp->Prop}{lo hi:Int}{t u v:Tok}{tk:Nat}(I:Inv X pins σ H s)(h1:-(2^62)<=lo)(h2:lo<2^62)(h3:-(2^62)<=hi)(h4:hi<2^62)
  (q:R (Itr lo (hi-lo).toNat) H):wpAny (model X.prog X.w) X.A (pyIter (.ref s.heap.objs.size)) (PIE X pins σ tg R) E {s with heap:=s.heap.push {cls:=.type "range",data:=.fields #[.int lo t,.int hi u,.int 1 v]},toks:=tk}:=by
 refine wpAny_pyIter_range (IsRange.new ..) (small_one h1 h2 h3 h4) ?_
 have I1:Inv X pins σ H {s with heap:=s.heap.push {cls:=.type "range",data:=.fields #[.int lo t,.int hi u,.int 1 v]},toks:=tk}:=I.kept λb o e=>get?_push_of_some _ e
 refine⟨(s.heap.push {cls:=.type "range",data:=.fields #[.int lo t,.int hi u,.int 1 v]}).objs.size,[(s.heap.push {cls:=.type "range",data:=.fields #[.int lo t,.int hi u,.int 1 v]}).objs.size],_,_,H,rfl,
  I1.kept (t':=tk) λb o e=>get?_push_of_some _ e,Lx _ lo (hi-lo).toNat,?_,λb hb=>?_,q⟩
 .have e1:lo+((0:Nat):Int)*1=lo:=by simp
  have e2:(((hi-lo).toNat:Nat):Int)- ((0:Nat):Int)=Builtin.Range.rangeSize lo hi 1:=by rw[rangeSize_one];split<;>omega
  show IsRangeIter _ _ (lo+((0:Nat):Int)*1) ((((hi-lo).toNat:Nat):Int)- ((0:Nat):Int)) 1
  rw[e1,e2]
  exact get?_push_size _ rfl
 .have e:b=(s.heap.push {cls:=.type "range",data:=.fields #[.int lo t,.int hi u,.int 1 v]}).objs.size:=by simpa using hb
  subst e
  exact I1.fpOk (le_refl _) (I1.hok.fresh (le_refl _))
def U5(ta:TA):TI:=λσ H R=>ta σ H λvs H1=>∃j:Int,vs=[.int j]/\-(2^62)<=j/\j<2^62/\R (Itr 0 j.toNat) H1
def U8(ta:TA):TI:=λσ H R=>ta σ H λvs H1=>∃i j:Int,vs=[.int i,.int j]/\(-(2^62)<=i/\i<2^62/\-(2^62)<=j/\j<2^62)/\R (Itr i (j-i).toNat) H1
theorem Jm{a:Expr}{ta:TA}{p:Pos}(hg:Gl X "range")(hm:X.mg "range"=none)(ha:PA X [a] ta)(hs:starEach [a] X.env=[(false,eval a X.env)]:=by rfl):PI X tg (.Call (.Name "range" p) [a] [] pos) (U5 ta):=by
 intro pins s σ H R I h
 refine Call_ (Fm I hg hm boot_range (PyProof.Rows.callWith_type1 (thn (ha pos pins s σ H _ I h) λus s1 ⟨vs,H1,I1,r1,q1⟩=>?_) hs rfl))
 obtain⟨j,e,q1,q2,q⟩:=q1
 subst e
 cases r1 with
 |cons r rr=>
  cases rr
  obtain⟨t,rfl⟩:=r
  exact call_range_1 (K_ I1 (by omega) (by omega) q1 q2 (by simpa using q))
theorem OJ{a b:Expr}{ta:TA}{p:Pos}(hg:Gl X "range")(hm:X.mg "range"=none)(ha:PA X [a,b] ta)(hs:starEach [a,b] X.env=[(false,eval a X.env),(false,eval b X.env)]:=by rfl)(hs2:starEach [b] X.env=[(false,eval b X.env)]:=by rfl):
  PI X tg (.Call (.Name "range" p) [a,b] [] pos) (U8 ta):=by
 intro pins s σ H R I h
 refine Call_ (Fm I hg hm boot_range (PyProof.Rows.callWith_type1 (thn (ha pos pins s σ H _ I h) λus s1 ⟨vs,H1,I1,r1,q1⟩=>?_) (by rw[hs,hs2]) (by rw[hs2];rfl)))
 obtain⟨i,j,e,⟨q1,q2,q3,q4⟩,q⟩:=q1
 subst e
 cases r1 with
 |cons r rr=>
  cases rr with
  |cons r' rr=>
   cases rr
   obtain⟨t,rfl⟩:=r
   obtain⟨t',rfl⟩:=r'
   exact call_range_2 (K_ I1 q1 q2 q3 q4 q)
def tFor(wi:TI)(g:TG)(tb:TS):TS:=λD σ H=>wi σ H λJ H1=>∃W:Nat->Nat->St->Hp->Prop,(∃m,W 0 m σ H1)/\∀i m σ H,W i m σ H->
 (J.stop i H/\D.nx σ H)\/(J.go i H/\∃N:St->Hp->Prop,(∀σ' H',N σ' H'->∃m',m'<m/\W (i+1) m' σ' H')/\∀x H',J.yld i H x H'->g x σ H' λσ2 H2=>tb {D with nx:=N,ct:=N,bk:=D.nx} σ2 H2)
def HE(fp:List Addr)(h:Heap):List (Addr×Obj):=fp.filterMap λb=>(h.get? b).map λo=>(b,o)
theorem DQ{fp:List Addr}{o:Obj}(hb:b∈fp)(e:h.get? b=some o):(b,o)∈HE fp h:=List.mem_filterMap.mpr ⟨b,hb,by rw[e];rfl⟩
theorem OW{fp:List Addr}{p:Addr×Obj}(hp:p∈HE fp h):p.1∈fp/\h.get? p.1=some p.2:=by
 obtain⟨b,hb,e⟩:=List.mem_filterMap.mp hp
 cases q:h.get? b with
 |none=>rw[q]at e;cases e
 |some o=>
  rw[q]at e
  have e':(b,o)=p:=Option.some.inj e
  subst e'
  exact⟨hb,q⟩
theorem Inv.pinned{fp:List Addr}(I:Inv X pins σ H s)(hf:∀b∈fp,FpOk X pins H b)(ho:∀b∈fp,∃o,s.heap.get? b=some o/\∀v,o.data≠.cell v):Inv X (pins++HE fp s.heap) σ H s:=
 I.pins_of λp hp=>(List.mem_append.mp hp).elim (λz=>I.pin p (List.mem_append_right _ z)) λz=>by
   obtain⟨hb,e⟩:=OW z
   obtain⟨f0,f1,f2,_⟩:=hf p.1 hb
   obtain⟨o,e',d⟩:=ho p.1 hb
   rw[e]at e';cases e'
   exact⟨e,f0,f1,f2,d⟩
theorem Inv.unpinned{pl:List (Addr×Obj)}(I:Inv X (pins++pl) σ H s):Inv X pins σ H s:=I.pins_of λp hp=>I.pin p (List.mem_append_right _ (List.mem_append_left _ hp))
theorem Gy{iter:Expr}{body:List Stmt}{wi:TI}{g:TG}{tb:TS}(hp:PassesOwn (model X.prog X.w) X.A X.env X.xe)(hc:X.calm=true)(hi:PI X tg iter wi)(hg:PG X tg g)(hb:PSs X body tb)
  (hs:∀x,foldedSetIterable iter X.env x=pure x:=by intro _;rfl):PS X (.For tg iter body [] pos) (tFor wi g tb):=by
 intro pins s σ H D I h
 refine wpAny_For (thn (hi pins s σ H _ I h) λv s1 h1=>thn h1 λitv s2 h2=>?_) hs
 obtain⟨it,fp,tn,J,H2,e,I2,T,st2,f2,W,⟨m0,w0⟩,turn⟩:=h2
 subst e
 have stat:∀{H':Hp},(∀b∈fp,H' b=none)->∀b∈fp,FpOk X pins H' b:=λhn b hb=>⟨hn b hb,(f2 b hb).2⟩
 refine codeAny_forLoop_any (λn s'=>∃i σ' H',Inv X pins σ' H' s'/\tn i s'.heap/\(∀b∈fp,H' b=none)/\W i n σ' H') ?_ m0 ⟨0,σ,H2,I2,st2,λb hb=>(f2 b hb).1,w0⟩
 rintro n s3 ⟨i,σ3,H3,I3,st3,fr3,w3⟩
 rcases turn i n σ3 H3 w3 with⟨stop,qn⟩|⟨go,N,hN,step⟩
 .refine wpAny_passesOwn hp (thn (T.done X rfl rfl rfl hc i pins s3 σ3 H3 X.xe I3 (stat fr3) st3 stop) λr s4 ⟨hr,I4⟩=>?_)
  subst hr
  exact wpAny_execs_nil ⟨σ3,H3,I4,qn⟩
 .refine wpAny_passesOwn hp (thn (T.item X rfl rfl rfl hc i pins s3 σ3 H3 X.xe I3 (stat fr3) st3 go) λr s4 ⟨u,hr,h4⟩=>?_)
  subst hr
  refine wpAny_passesOwn hp (thn h4 λ_ s5 ⟨x,H5,I5,r5,y5,st5,fr5⟩=>?_)
  have I5':=I5.pinned (stat fr5) (T.obj _ _ st5)
  refine wpAny_passesOwn hp (thn (hg _ s5 σ3 H5 x u _ I5' r5 (step x H5 y5)) λ_ s6 ⟨σ6,H6,I6,q6⟩=>?_)
  refine wpAny_passesOwn hp (thn (hb _ s6 σ6 H6 _ I6 q6) λf s7 q7=>?_)
  have again:∀{σ7:St}{H7:Hp},Inv X (pins++HE fp s5.heap) σ7 H7 s7->N σ7 H7->∃m,m<n/\∃i σ' H',Inv X pins σ' H' s7/\tn i s7.heap/\(∀b∈fp,H' b=none)/\W i m σ' H':=λ{σ7 H7} I7 n7=>by
   obtain⟨m',hm,w7⟩:=hN σ7 H7 n7
   refine⟨m',hm,i+1,σ7,H7,I7.unpinned,T.keep _ _ _ st5 λb hb o e=>(I7.pin (b,o) (mem_append_right _ (mem_append_right _ (DQ hb e)))).1,λb hb=>?_,w7⟩
   obtain⟨o,e,d⟩:=T.obj _ _ st5 b hb
   exact(I7.pin (b,o) (mem_append_right _ (mem_append_right _ (DQ hb e)))).2.1
  cases f with
  |next=>obtain⟨σ7,H7,I7,n7⟩:=q7;exact again I7 n7
  |cont=>obtain⟨σ7,H7,I7,n7⟩:=q7;exact again I7 n7
  |brk=>obtain⟨σ7,H7,I7,q7⟩:=q7;exact⟨σ7,H7,I7.unpinned,q7⟩
  |ret v=>obtain⟨x7,σ7,H7,I7,r7,q7⟩:=q7;exact⟨x7,σ7,H7,I7.unpinned,r7,q7⟩
theorem KP{g:TG}{tb:TS}{D:Ends}(Pv:Nat->St->Hp->Prop)(h0:Pv 0 σ H)(hl:∀i σ H,i<=xs.length->Pv i σ H->SqL K H a xs)
  (hs:∀i x σ H,xs[i]?=some x->Pv i σ H->g x σ H λσ2 H2=>tb {D with nx:=Pv (i+1),ct:=Pv (i+1),bk:=D.nx} σ2 H2)(hd:∀σ H,Pv xs.length σ H->D.nx σ H):
  ∃W:Nat->Nat->St->Hp->Prop,(∃m,W 0 m σ H)/\∀i m σ H,W i m σ H->
   ((Itl K a).stop i H/\D.nx σ H)\/((Itl K a).go i H/\∃N:St->Hp->Prop,(∀σ' H',N σ' H'->∃m',m'<m/\W (i+1) m' σ' H')/\∀x H',(Itl K a).yld i H x H'->g x σ H' λσ2 H2=>tb {D with nx:=N,ct:=N,bk:=D.nx} σ2 H2):=by
 refine⟨λi m σ H=>m=xs.length-i/\i<=xs.length/\Pv i σ H,⟨xs.length,by simp,zero_le _,h0⟩,?_⟩
 rintro i m σ H ⟨rfl,hi,p⟩
 have q:=hl i σ H hi p
 by_cases hlt:i<xs.length
 .refine .inr ⟨⟨xs,xs[i],q,by simp[hlt]⟩,Pv (i+1),λσ' H' p'=>⟨xs.length- (i+1),by omega,rfl,hlt,p'⟩,λx H' y=>?_⟩
  obtain⟨e,y⟩:=y
  subst e
  exact hs i x σ _ (y xs q) p
 .have e:i=xs.length:=by omega
  subst e
  exact .inl ⟨⟨xs,q,le_refl _⟩,hd σ H p⟩
theorem Jl{lo:Int}{n:Nat}{g:TG}{tb:TS}{D:Ends}(Pv:Nat->St->Hp->Prop)(h0:Pv 0 σ H)
  (hs:∀i σ H,i<n->Pv i σ H->g (.int (lo+i)) σ H λσ2 H2=>tb {D with nx:=Pv (i+1),ct:=Pv (i+1),bk:=D.nx} σ2 H2)(hd:∀σ H,Pv n σ H->D.nx σ H):
  ∃W:Nat->Nat->St->Hp->Prop,(∃m,W 0 m σ H)/\∀i m σ H,W i m σ H->
   ((Itr lo n).stop i H/\D.nx σ H)\/((Itr lo n).go i H/\∃N:St->Hp->Prop,(∀σ' H',N σ' H'->∃m',m'<m/\W (i+1) m' σ' H')/\∀x H',(Itr lo n).yld i H x H'->g x σ H' λσ2 H2=>tb {D with nx:=N,ct:=N,bk:=D.nx} σ2 H2):=by
 refine⟨λi m σ H=>m=n-i/\i<=n/\Pv i σ H,⟨n,by simp,zero_le _,h0⟩,?_⟩
 rintro i m σ H ⟨rfl,hi,p⟩
 by_cases hlt:i<n
 .refine .inr ⟨hlt,Pv (i+1),λσ' H' p'=>⟨n- (i+1),by omega,rfl,hlt,p'⟩,λx H' y=>?_⟩
  obtain⟨e,y⟩:=y
  subst e y
  exact hs i σ _ hlt p
 .have e:i=n:=by omega
  subst e
  exact .inl ⟨le_refl _,hd σ H p⟩
abbrev R2:=V->V->Hp->VK->Prop
def OpR(X:Cx)(f:Value->Value->Sem Value)(r:R2):Prop:=
 ∀(pins:List (Addr×Obj)) (s:Shared) (σ:St) (H:Hp) (x y:V) (v u:Value) (Q:VK),Inv X pins σ H s->RelV x v->RelV y u->r x y H Q->
  wpAny (model X.prog X.w) X.A (f v u) (EP X pins σ Q) X.xe s
def UnR(X:Cx)(f:Value->Sem Value)(r:V->Hp->VK->Prop):Prop:=
 ∀(pins:List (Addr×Obj)) (s:Shared) (σ:St) (H:Hp) (x:V) (v:Value) (Q:VK),Inv X pins σ H s->RelV x v->r x H Q->
  wpAny (model X.prog X.w) X.A (f v) (EP X pins σ Q) X.xe s
def CallR(X:Cx)(f:Value)(r:List V->Hp->VK->Prop):Prop:=
 ∀(pins:List (Addr×Obj)) (s:Shared) (σ:St) (H:Hp) (xs:List V) (us:List Value) (Q:VK),Inv X pins σ H s->Vals xs us->r xs H Q->
  wpAny (model X.prog X.w) X.A (call f us) (EP X pins σ Q) X.xe s
def tOp(r:R2)(ta tb:TE):TE:=λσ H Q=>ta σ H λx H1=>tb σ H1 λy H2=>r x y H2 Q
def tUn(r:V->Hp->VK->Prop)(ta:TE):TE:=λσ H Q=>ta σ H λx H1=>r x H1 Q
def rI(C:Int->Int->Prop)(g:Int->Int->V):R2:=λx y H Q=>∃i j,x=.int i/\y=.int j/\C i j/\Q (g i j) H
def rI0(g:Int->Int->V):R2:=λx y H Q=>∃i j,x=.int i/\y=.int j/\Q (g i j) H
def rU(g:Int->V):V->Hp->VK->Prop:=λx H Q=>∃i,x=.int i/\Q (g i) H
variable{c:Expr}
section
variable{a b:Expr}{tb tc:TE}
theorem binT(ha:PE X a ta)(hb:PE X b tb){R:V->V->Hp->Prop}(I:Inv X pins σ H s)
  (h:ta σ H λx H1=>tb σ H1 λy H2=>R x y H2){Q:Value->Shared->Prop}{f:Value->Value->Sem Value}
  (hf:∀v u s2 x y H2,Inv X pins σ H2 s2->RelV x v->RelV y u->R x y H2->wpAny (model X.prog X.w) X.A (f v u) Q X.xe s2):
  wpAny (model X.prog X.w) X.A (eval a X.env) (λv s₁=>wpAny (model X.prog X.w) X.A (eval b X.env) (λu s₂=>wpAny (model X.prog X.w) X.A (f v u) Q X.xe s₂) X.xe s₁) X.xe s:=by
 refine thn (ha pins s σ H _ I h) λv s1 ⟨x,H1,I1,r1,q1⟩=>?_
 refine thn (hb pins s1 σ H1 _ I1 q1) λu s2 ⟨y,H2,I2,r2,q2⟩=>?_
 exact hf v u s2 x y H2 I2 r1 r2 q2
theorem SX{op:Operator}{r:R2}(ho:OpR X (binaryOp op) r)(ha:PE X a ta)(hb:PE X b tb):PE X (.BinOp a op b pos) (tOp r ta tb):=by
 intro pins s σ H Q I h
 exact wpAny_BinOp (binT ha hb I h λv u s2 x y H2 I2 rx ry q=>ho pins s2 σ H2 x y v u Q I2 rx ry q)
theorem UV{op:UnaryOp}{r:V->Hp->VK->Prop}(ho:UnR X (unaryOp op) r)(ha:PE X a ta):PE X (.UnaryOp op a pos) (tUn r ta):=by
 intro pins s σ H Q I h
 exact UnaryOp_ (thn (ha pins s σ H _ I h) λv s1 ⟨x,H1,I1,r1,q1⟩=>ho pins s1 σ H1 x v Q I1 r1 q1)
theorem opI{f:Value->Value->Sem Value}{C:Int->Int->Prop}{g:Int->Int->Int}
  (rule:∀(i j:Int) (t u:Tok) (s:Shared) (Q:Value->Shared->Prop) (E:Value->Shared->Prop),C i j->Q (.int (g i j) s.toks) {s with toks:=s.toks+1}->wpAny (model X.prog X.w) X.A (f (.int i t) (.int j u)) Q E s):
  OpR X f (rI C λi j=>.int (g i j)):=by
 intro pins s σ H x y v u Q I rx ry h
 obtain⟨i,j,rfl,rfl,hc,q⟩:=h
 obtain⟨t,rfl⟩:=rx
 obtain⟨t',rfl⟩:=ry
 exact rule i j t t' s _ _ hc ⟨.int (g i j),H,I.tok _,⟨_,rfl⟩,q⟩
theorem opI0{f:Value->Value->Sem Value}{g:Int->Int->Int}
  (rule:∀(i j:Int) (t u:Tok) (s:Shared) (Q:Value->Shared->Prop) (E:Value->Shared->Prop),Q (.int (g i j) s.toks) {s with toks:=s.toks+1}->wpAny (model X.prog X.w) X.A (f (.int i t) (.int j u)) Q E s):
  OpR X f (rI0 λi j=>.int (g i j)):=by
 intro pins s σ H x y v u Q I rx ry h
 obtain⟨i,j,rfl,rfl,q⟩:=h
 obtain⟨t,rfl⟩:=rx
 obtain⟨t',rfl⟩:=ry
 exact rule i j t t' s _ _ ⟨.int (g i j),H,I.tok _,⟨_,rfl⟩,q⟩
theorem opB0{f:Value->Value->Sem Value}{g:Int->Int->Bool}
  (rule:∀(i j:Int) (t u:Tok) (s:Shared) (Q:Value->Shared->Prop) (E:Value->Shared->Prop),Q (.bool (g i j)) s->wpAny (model X.prog X.w) X.A (f (.int i t) (.int j u)) Q E s):
  OpR X f (rI0 λi j=>.bl (g i j)):=by
 intro pins s σ H x y v u Q I rx ry h
 obtain⟨i,j,rfl,rfl,q⟩:=h
 obtain⟨t,rfl⟩:=rx
 obtain⟨t',rfl⟩:=ry
 exact rule i j t t' s _ _ ⟨.bl (g i j),H,I,rfl,q⟩
def CDiv(i j:Int):Prop:=0<j/\j<1073741824
def CPow(i j:Int):Prop:=0<=j/\j<=1000000/\i.natAbs<2^64
def CMul(i j:Int):Prop:=(-(2^64)<i/\i<2^64)\/(-(2^64)<j/\j<2^64)
theorem CMul.ok{i j:Int}(h:CMul i j):IntMulOk i j:=by
 rcases h with⟨h1,h2⟩|⟨h1,h2⟩
 .exact .of_left (intBits_le_64 h1 h2)
 .exact .of_right (intBits_le_64 h1 h2)
theorem Uu:OpR X (binaryOp .Add) (rI0 λi j=>.int (i+j)):=opI0 λ_ _ _ _ _ _ _ q=>add_int q
theorem U0:OpR X (binaryOp .Sub) (rI0 λi j=>.int (i-j)):=opI0 λ_ _ _ _ _ _ _ q=>sub_int q
theorem Tq:OpR X (binaryOp .Mult) (rI CMul λi j=>.int (i*j)):=opI λ_ _ _ _ _ _ _ hc q=>mul_int q hc.ok
theorem RA:OpR X (binaryOp .FloorDiv) (rI CDiv λi j=>.int (i/j)):=opI λi j _ _ _ _ _ hc q=>by
 have h1:(0:Int)<j:=hc.1
 have h2:j<1073741824:=hc.2
 exact floordiv_int (by omega) (by rw[Int.fdiv_eq_ediv_of_nonneg i (by omega)];exact q) (.inl (PyProof.noPylong_small (by omega)))
theorem Uz:OpR X (binaryOp .Mod) (rI (λ_ j=>0<j) λi j=>.int (i%j)):=opI λi j _ _ _ _ _ hc q=>by
 have h1:(0:Int)<j:=hc
 exact mod_int' (by omega) (by rw[Int.fmod_eq_emod_of_nonneg i (by omega)];exact q)
theorem U3:OpR X (binaryOp .Pow) (rI CPow λi j=>.int (i^j.toNat)):=opI λ_ _ _ _ _ _ _ hc q=>pow_int_small hc.1 hc.2.1 hc.2.2 q
theorem Ts:OpR X (binaryOp .BitAnd) (rI0 λi j=>.int (Builtin.bitAnd i j)):=opI0 λ_ _ _ _ _ _ _ q=>and_int q
theorem Tp:OpR X (binaryOp .BitXor) (rI0 λi j=>.int (Builtin.bitXor i j)):=opI0 λ_ _ _ _ _ _ _ q=>xor_int q
theorem unI{f:Value->Sem Value}{g:Int->Int}
  (rule:∀(i:Int) (t:Tok) (s:Shared) (Q:Value->Shared->Prop) (E:Value->Shared->Prop),Q (.int (g i) s.toks) {s with toks:=s.toks+1}->wpAny (model X.prog X.w) X.A (f (.int i t)) Q E s):
  UnR X f (rU λi=>.int (g i)):=by
 intro pins s σ H x v Q I rx h
 obtain⟨i,rfl,q⟩:=h
 obtain⟨t,rfl⟩:=rx
 exact rule i t s _ _ ⟨.int (g i),H,I.tok _,⟨_,rfl⟩,q⟩
theorem T7:UnR X (unaryOp .USub) (rU λi=>.int (-i)):=unI λ_ _ _ _ _ q=>neg_int q
theorem Pb{Q:VK}{k k':Bool}(I:Inv X pins σ H s)(q:Q (.bl k) H)(e:k=k'):EP X pins σ Q (.bool k') s:=by
 subst e
 exact⟨.bl k,H,I,rfl,q⟩
theorem UB:OpR X (compareOp .Lt) (rI0 λi j=>.bl (decide (i<j))):=opB0 λ_ _ _ _ _ _ _ q=>lt_int q
theorem Vb:OpR X (compareOp .LtE) (rI0 λi j=>.bl (decide (i<=j))):=opB0 λ_ _ _ _ _ _ _ q=>le_int q
theorem Vd:OpR X (compareOp .Gt) (rI0 λi j=>.bl (decide (j<i))):=opB0 λ_ _ _ _ _ _ _ q=>gt_int q
theorem Vq:OpR X (compareOp .GtE) (rI0 λi j=>.bl (decide (j<=i))):=opB0 λ_ _ _ _ _ _ _ q=>ge_int q
theorem op_in_str:OpR X (compareOp .In) (λx y H Q=>∃i j,x=.str i/\y=.str j/\Q (.bl (!(occurrences j i 0 j.length 1).isEmpty)) H):=by
 intro pins s σ H x y v u Q I rx ry h
 obtain⟨i,j,rfl,rfl,q⟩:=h
 obtain⟨t,rfl⟩:=rx
 obtain⟨t',rfl⟩:=ry
 exact in_str (Pb I q rfl)
theorem op_notin_str:OpR X (compareOp .NotIn) (λx y H Q=>∃i j,x=.str i/\y=.str j/\Q (.bl (!(!(occurrences j i 0 j.length 1).isEmpty))) H):=by
 intro pins s σ H x y v u Q I rx ry h
 obtain⟨i,j,rfl,rfl,q⟩:=h
 obtain⟨t,rfl⟩:=rx
 obtain⟨t',rfl⟩:=ry
 exact notIn_str (Pb I q rfl)
theorem Af(b:Expr){op:CmpOp}(h:op≠.In:=by decide)(h2:op≠.NotIn:=by decide):behindInMarks op b=false:=by
 have e1:(op==CmpOp.In)=false:=by cases op<;>first|rfl|exact absurd rfl h
 have e2:(op==CmpOp.NotIn)=false:=by cases op<;>first|rfl|exact absurd rfl h2
 cases b<;>simp[behindInMarks,e1,e2]
theorem Ni{op:CmpOp}{r:R2}(ho:OpR X (compareOp op) r)(ha:PE X a ta)(hb:PE X b tb)(hm:behindInMarks op b=false):PE X (.Compare a [op] [b] pos) (tOp r ta tb):=by
 intro pins s σ H Q I h
 exact wpAny_Compare1 (binT ha hb I h λv u s2 x y H2 I2 rx ry q=>ho pins s2 σ H2 x y v u Q I2 rx ry q) hm
def SE(t:TE):TT:=λσ H Q=>t σ H λx H'=>∃k,x=.bl k/\Q k H'
theorem NM{op:CmpOp}{r:R2}(ho:OpR X (compareOp op) r)(ha:PE X a ta)(hb:PE X b tb)(hm:behindInMarks op b=false):PT X (.Compare a [op] [b] pos) (SE (tOp r ta tb)):=by
 intro pins s σ H Q I h
 refine wpAny_isTrue_Compare1 (thn (ha pins s σ H _ I h) λv s1 ⟨x,H1,I1,r1,q1⟩=>thn (hb pins s1 σ H1 _ I1 q1) λu s2 ⟨y,H2,I2,r2,q2⟩=>
  thn (ho pins s2 σ H2 x y v u _ I2 r1 r2 q2) λc s3 ⟨z,H3,I3,r3,k,e,q3⟩=>?_) hm
 subst e
 cases r3
 exact wpAny_truthy_bool ⟨H3,I3,q3⟩
def Q4(r r':R2)(ta tb tc:TE):TE:=λσ H Q=>ta σ H λx H1=>tb σ H1 λy H2=>r x y H2 λz H3=>∃k,z=.bl k/\
 (if k=true then tc σ H3 λw' H4=>r' y w' H4 Q else Q (.bl false) H3)
theorem PP{op op':CmpOp}{r r':R2}(ho:OpR X (compareOp op) r)(ho':OpR X (compareOp op') r')(ha:PE X a ta)(hb:PE X b tb)(hc:PE X c tc)
  (hm:lastMarks [op,op'] [b,c]=false:=by with_unfolding_all rfl):PE X (.Compare a [op,op'] [b,c] pos) (Q4 r r' ta tb tc):=by
 intro pins s σ H Q I h
 refine Compare_chain (thn (ha pins s σ H _ I h) λv s1 ⟨x,H1,I1,r1,q1⟩=>chain_link (thn (hb pins s1 σ H1 _ I1 q1) λu s2 ⟨y,H2,I2,r2,q2⟩=>
  thn (ho pins s2 σ H2 x y v u _ I2 r1 r2 q2) λd s3 ⟨z,H3,I3,r3,k,e,q3⟩=>?_)) hm
 subst e
 cases r3
 refine wpAny_truthy_bool ?_
 cases k with
 |false=>exact ite_ff ⟨.bl false,H3,I3,rfl,q3⟩
 |true=>exact ite_tt (chain_last (thn (hc pins s3 σ H3 _ I3 q3) λw' s4 ⟨z',H4,I4,r4,q4⟩=>ho' pins s4 σ H4 y z' u w' Q I4 r2 r4 q4))
theorem QQ{op op':CmpOp}{r r':R2}(ho:OpR X (compareOp op) r)(ho':OpR X (compareOp op') r')(ha:PE X a ta)(hb:PE X b tb)(hc:PE X c tc)
  (hm:lastMarks [op,op'] [b,c]=false:=by with_unfolding_all rfl):PT X (.Compare a [op,op'] [b,c] pos) (SE (Q4 r r' ta tb tc)):=by
 intro pins s σ H Q I h
 refine isTrue_chain (thn (ha pins s σ H _ I h) λv s1 ⟨x,H1,I1,r1,q1⟩=>test_link (thn (hb pins s1 σ H1 _ I1 q1) λu s2 ⟨y,H2,I2,r2,q2⟩=>
  thn (ho pins s2 σ H2 x y v u _ I2 r1 r2 q2) λd s3 ⟨z,H3,I3,r3,k,e,q3⟩=>?_)) hm
 subst e
 cases r3
 refine wpAny_truthy_bool ?_
 cases k with
 |false=>
  obtain⟨k',e',q'⟩:=q3
  cases e'
  exact ite_ff ⟨H3,I3,q'⟩
 |true=>
  refine ite_tt (test_last (thn (hc pins s3 σ H3 _ I3 q3) λw' s4 ⟨z',H4,I4,r4,q4⟩=>thn (ho' pins s4 σ H4 y z' u w' _ I4 r2 r4 q4) λd' s5 ⟨z2,H5,I5,r5,k2,e2,q5⟩=>?_))
  subst e2
  cases r5
  exact wpAny_truthy_bool ⟨H5,I5,q5⟩
theorem Hw:(sizeLine:Nat)<2^63:=by rw[sizeLine_eq];decide
theorem vals1{x:V}(r:Vals [x] us):∃u,us=[u]/\RelV x u:=by
 cases r with
 |cons r1 r2=>cases r2;exact⟨_,rfl,r1⟩
theorem vals2{x y:V}(r:Vals [x,y] us):∃u w',us=[u,w']/\RelV x u/\RelV y w':=by
 cases r with
 |cons r1 r2=>
  cases r2 with
  |cons r3 r4=>cases r4;exact⟨_,_,rfl,r1,r3⟩
theorem OS(hc:X.calm=true):CallR X (.builtin "max") (λxs H Q=>∃i j,xs=[.int i,.int j]/\Q (.int (if j>i then j else i)) H):=by
 intro pins s σ H xs us Q I r h
 obtain⟨i,j,rfl,q⟩:=h
 obtain⟨u,w',rfl,⟨t,rfl⟩,⟨t',rfl⟩⟩:=vals2 r
 refine max_two_ints (I.ok.hd hc) λh' tk k=>⟨_,H,I.kept k,?_,q⟩
 by_cases hj:j>i
 .rw[if_pos hj,if_pos hj];exact⟨_,rfl⟩
 .rw[if_neg hj,if_neg hj];exact⟨_,rfl⟩
theorem Ow(hc:X.calm=true):CallR X (.builtin "min") (λxs H Q=>∃i j,xs=[.int i,.int j]/\Q (.int (if j<i then j else i)) H):=by
 intro pins s σ H xs us Q I r h
 obtain⟨i,j,rfl,q⟩:=h
 obtain⟨u,w',rfl,⟨t,rfl⟩,⟨t',rfl⟩⟩:=vals2 r
 refine min_two_ints (I.ok.hd hc) λh' tk k=>⟨_,H,I.kept k,?_,q⟩
 by_cases hj:j<i
 .rw[if_pos hj,if_pos hj];exact⟨_,rfl⟩
 .rw[if_neg hj,if_neg hj];exact⟨_,rfl⟩
theorem call_int1:CallR X (.type "int") (λxs H Q=>(∃i,xs=[.int i]/\Q (.int i) H)\/∃k,xs=[.bl k]/\Q (.int (if k then 1 else 0)) H):=by
 intro pins s σ H xs us Q I r h
 rcases h with⟨i,rfl,q⟩|⟨k,rfl,q⟩
 .obtain⟨u,rfl,t,rfl⟩:=vals1 r
  exact call_int_int ⟨.int i,H,I,⟨_,rfl⟩,q⟩
 .obtain⟨u,rfl,r1⟩:=vals1 r
  cases r1
  exact call_int_bool ⟨.int (if k then 1 else 0),H,I.tok _,⟨_,rfl⟩,q⟩
end
structure ObjM(h:Heap)(x dx C:Addr)(mA:Str->Option Value):Prop where
 obj:h.get? x=some (instObj C dx)
 ns:h.Ns1 dx mA
 ne:dx≠x
variable{dx:Addr}
theorem Oo{mA:Str->Option Value}(n:h.Ns1 dx mA):∃od,h.get? dx=some od/\∀name,lookIn name od=some (mA name):=by
 obtain⟨o,es,ep,ho,hd,hk,_,hm⟩:=n
 refine⟨o,ho,λname=>?_⟩
 have e:=hm name
 unfold nsFind findBy at e
 rw[<-Array.find?_toList]at e
 unfold lookIn
 rw[hd]
 dsimp only
 split
 .rename_i y q
  rw[q]at e
  exact congrArg some e
 .rename_i q
  rw[q]at e
  have a:es.toList.any (·.refKey)=false:=by
   rw[List.any_eq_false]
   intro y hy
   obtain⟨z,t,hkey⟩:=hk y (Array.mem_toList_iff.mp hy)
   simp[DictEntry.refKey,hkey]
  have a':¬es.toList.any (·.refKey)=true:=by rw[a];exact Bool.false_ne_true
  rw[if_neg a']
  exact congrArg some e
variable{C:Addr}
theorem ObjM.look{x:Addr}{mA:Str->Option Value}(I:ObjM h x dx C mA):∃od,PySem.W.InstAt h x (PySem.W.instObj C dx) C (some od)/\∀name,PySem.W.lookIn name od=some (mA name):=
 let⟨od,ho,hl⟩:=Oo I.ns
 ⟨od,⟨I.obj,rfl,rfl,ho⟩,hl⟩
variable{prog:Program}{mA:Str->Option Value}{name:Str}
section
variable{x f:Addr}{v:Value}
theorem get_map{expr:Bool}{Q:Value->Shared->Prop}(X:K.In s.heap)(I:ObjM s.heap x dx C mA)(hg:plainGet K C name=true)(hh:hasDictIn K C=true)
  (ha:findIn K (.ref C) name=some none)(hv:mA name=some v)(hv':handedIn v=true)(h:Q v {s with toks:=s.toks+1}):
  wpAny (model prog w) A (getAttr (.ref x) name expr) Q E s:=by
 obtain⟨od,J,hl⟩:=I.look
 exact PySem.W.get_value X J (plainGet_of hg).1 (PySem.W.findObj_own hh ha rfl (by rw[hl,hv])) hv' h
theorem Qy{pl:Sem Bool}{Q:Value×List Value->Shared->Prop}(X:K.In s.heap)(I:ObjM s.heap x dx C mA)(hg:plainGet K C name=true)
  (hf:findIn K (.ref C) name=some (some (.ref f)))(ht:isFn K (.ref f)=true)(hv:mA name=none)(h:Q (.ref f,[.ref x]) s):
  wpAny (model prog w) A (getMethod (.ref x) name pl) Q E s:=by
 obtain⟨od,J,hl⟩:=I.look
 exact PySem.W.method_fn X J (plainGet_of hg).1 (plainGet_of hg).2 hf (beq_iff_eq.mp ht) (by show(lookIn name od).map (·.isSome)=some false;rw[hl,hv];rfl) h
theorem RV{ns:List Str}{Q:Unit->Shared->Prop}(X:K.In s.heap)(I:ObjM s.heap x dx C mA)
  (hs:findIn K (.ref C) "__setattr__"=some (some (.builtin "object.__setattr__")))(hp:plainOver K C=true)(ht:takerIn K C name=some none)(hh:hasDictIn K C=true)
  (hw:PySem.Within mA ns)(hsz:ns.length<=sizeLine)
  (h:∀h',ObjM h' x dx C (λy=>if y=name then some v else mA y)->SameBut dx s.heap h'->Q () {s with heap:=h',toks:=s.toks+2}):
  wpAny (model prog w) A (setAttr (.ref x) name v) Q E s:=by
 obtain⟨od,J,hl⟩:=I.look
 refine PySem.W.set_plain X J hs (PySem.W.osa_open (s:={s with toks:=s.toks+1}) (r:=none) X J hp ht λb=>?_)
 obtain⟨cd,hc,hd'⟩:=PySem.W.any_some hh
 have hx:s.heap.get? x=some ⟨.ref C,some dx,.plain,#[]⟩:=I.obj
 refine wpAny_bind (wpAny_pure (wpAny_bind (wpAny_bind (wpAny_loadPart hx (wpAny_bind (PySem.W.Looks.here (s:={s with toks:=s.toks+1}) (PySem.W.looks_clsIn X hc) ?_))))))
 rw[hd']
 refine wpAny_pure (a:=some dx) (wpAny_bind (wpAny_pure (wpAny_bind ?_)))
 refine wpAny_nsSet1 (s:={s with toks:=s.toks+1}) I.ns λh' hn2 hs2=>?_
 obtain⟨oD,esD,epD,hoD,hdD,hcD⟩:=hn2.count (PySem.Within.cons name v hw)
 refine wpAny_bind (wpAny_lookBehind hoD (by rw[hdD];exact pastItsLine_dict (le_trans hcD (by rw[length_cons];omega))) ?_)
 exact wpAny_pure (h _ ⟨(hs2.2 _ (symm I.ne)).trans I.obj,hn2,I.ne⟩ hs2)
theorem Pj{R:Result->Shared->Prop}{vs:List Value}{kw:List (Str×Value)}(X:K.In s.heap)(hm:makesIn K C=true)
  (hi:findIn K (.ref C) "__init__"=some (some (.ref f)))(hf:typeIn K (.ref f)=some (.type "function"))
  (h:codeAny (model prog w) (A.under (.builtin "type.__call__" ⟨.ref C::vs,kw⟩)) (.call (.ref f) ⟨.ref (s.heap.objs.size+1)::vs,kw⟩) (PySem.W.InitBack (s.heap.objs.size+1) R)
   {s with heap:=(s.heap.push emptyDict).push (instObj C s.heap.objs.size)}):
  codeAny (model prog w) A (.call (.ref C) ⟨vs,kw⟩) R s:=by
 obtain⟨hh,g,d,t,os⟩:=s
 exact PySem.W.make_core (PySem.W.makes_of X hm) (PySem.W.looks_findIn X hi) (λself=>PySem.W.bind_fn X self hf) (.inl rfl) h
end
def putF(f:Str)(v:V):List (Str×V)->List (Str×V)
 |[]=>[(f,v)]
 |(g,x)::r=>if g=f then(g,v)::r else(g,x)::putF f v r
theorem A4(f g:Str)(v:V):∀fs:List (Str×V),(putF f v fs).lookup g=if g=f then some v else fs.lookup g
 |[]=>by
  show List.lookup g [(f,v)]=_
  by_cases h:g=f
  .have hb:(g==f)=true:=beq_iff_eq.mpr h
   simp only[List.lookup,hb,if_pos h]
  .have hb:(g==f)=false:=beq_eq_false_iff_ne.mpr h
   simp only[List.lookup,hb,if_neg h]
 |(k,x)::r=>by
  have ih:=A4 f g v r
  rw[show putF f v ((k,x)::r)=(if k=f then(k,v)::r else(k,x)::putF f v r)from rfl]
  by_cases hk:k=f
  .rw[if_pos hk]
   by_cases h:g=k
   .have hb:(g==k)=true:=beq_iff_eq.mpr h
    simp only[List.lookup,hb,if_pos (h.trans hk)]
   .have hb:(g==k)=false:=beq_eq_false_iff_ne.mpr h
    simp only[List.lookup,hb,if_neg (λe:g=f=>h (e.trans hk.symm))]
  .rw[if_neg hk]
   by_cases h:g=k
   .have hb:(g==k)=true:=beq_iff_eq.mpr h
    simp only[List.lookup,hb,if_neg (λe:g=f=>hk (h.symm.trans e))]
   .have hb:(g==k)=false:=beq_eq_false_iff_ne.mpr h
    simp only[List.lookup,hb]
    exact ih
theorem Ge(f:Str)(v:V):∀fs:List (Str×V),f∈(putF f v fs).map (·.1)/\∀g,g∈fs.map (·.1)->g∈(putF f v fs).map (·.1)
 |[]=>⟨by simp[putF],λg h=>by simp at h⟩
 |(k,x)::r=>by
  obtain⟨i1,i2⟩:=Ge f v r
  rw[show putF f v ((k,x)::r)=(if k=f then(k,v)::r else(k,x)::putF f v r)from rfl]
  by_cases hk:k=f
  .rw[if_pos hk]
   subst hk
   exact⟨by simp,λg h=>by simpa using h⟩
  .rw[if_neg hk]
   refine⟨?_,λg h=>?_⟩
   .rw[map_cons]
    exact mem_cons_of_mem _ i1
   .rw[map_cons]at h ⊢
    rcases mem_cons.mp h with e|e
    .exact mem_cons.mpr (.inl e)
    .exact mem_cons_of_mem _ (i2 g e)
theorem Dc(f:Str)(v:V):∀fs:List (Str×V),(putF f v fs).length<=fs.length+1
 |[]=>by simp[putF]
 |(k,x)::r=>by
  have ih:=Dc f v r
  rw[show putF f v ((k,x)::r)=(if k=f then(k,v)::r else(k,x)::putF f v r)from rfl]
  by_cases hk:k=f
  .rw[if_pos hk,length_cons,length_cons];omega
  .rw[if_neg hk,length_cons,length_cons];omega
variable{v:V}
theorem RelO.some_of{o:Option Value}(r:RelO (some v) o):∃u,o=some u/\RelV v u:=by
 cases o with
 |none=>exact(show False from r).elim
 |some u=>exact⟨u,rfl,r⟩
theorem RelO.none_of{o:Option Value}(r:RelO none o):o=none:=by
 cases o with
 |none=>rfl
 |some u=>exact(show False from r).elim
theorem O3(r:RelV v u):handedIn u=true:=by
 cases v with
 |non=>cases(show u=Value.none from r);rfl
 |bl b=>cases(show u=Value.bool b from r);rfl
 |int i=>obtain⟨t,e⟩:=(show ∃t,u=Value.int i t from r);cases e;rfl
 |str x=>obtain⟨t,e⟩:=(show ∃t,u=Value.str x t from r);cases e;rfl
 |byt b=>obtain⟨t,e⟩:=(show ∃t,u=Value.bytes b t from r);cases e;rfl
 |flt b=>obtain⟨t,e⟩:=(show ∃t,u=Value.float b t from r);cases e;rfl
 |ref a=>cases(show u=Value.ref a from r);rfl
 |ty n=>cases(show u=Value.type n from r);rfl
section
variable{fs fs':List (Str×V)}
theorem GU(hok:HOk P w H h)(e:H a=some (.ins C dx fs)):∃mA,ObjM h a dx C mA/\(∀f,RelO (fs.lookup f) (mA f))/\PySem.Within mA (fs.map (·.1))/\fs.length<=1000/\H dx=some (.own a):=by
 obtain⟨d,z,ne,ob,mA,n,r,q⟩:=(show ObjOk P w H h a (.ins C dx fs)from hok a _ e)
 exact⟨mA,⟨ob,n,ne⟩,r,q,z,d⟩
end
structure Cls(K:Frag)(C:Addr):Prop where
 pg:plainGet K C Str.empty=true
 hd:hasDictIn K C=true
 po:plainOver K C=true
 sa:findIn K (.ref C) "__setattr__"=some (some (.builtin "object.__setattr__"))
theorem Cls.get(c:Cls K C)(f:Str):PySem.W.plainGet K C f=true:=c.pg
def NoAttr(K:Frag)(C:Addr)(f:Str):Prop:=findIn K (.ref C) f=some none
theorem NoAttr.taker{f:Str}(n:NoAttr K C f):PySem.W.takerIn K C f=some none:=by
 unfold PySem.W.takerIn
 rw[show PySem.W.findIn K (.ref C) f=some none from n]
 rfl
structure Con(K:Frag)(C:Addr)(f:Str)(v:V)(u:Value):Prop where
 at_:findIn K (.ref C) f=some (some u)
 rel:RelV v u
 get:specialIn K u "__get__"=some none
 cp:PySem.W.copiedNames.contains f=false
structure Meth(K:Frag)(C:Addr)(m:Str)(f:Addr):Prop where
 at_:findIn K (.ref C) m=some (some (.ref f))
 fn:isFn K (.ref f)=true
 kp:keepIn K (.ref f)=true
section
variable{fs:List (Str×V)}{f:Str}
theorem Id{b:Bool}{Q:Value->Shared->Prop}(I:Inv X pins σ H s)(e:H a=some (.ins C dx fs))(c:Cls X.K C)(n:NoAttr X.K C f)(l:fs.lookup f=some v)
  (h:∀u s',Inv X pins σ H s'->RelV v u->Q u s'):wpAny (model X.prog X.w) A (getAttr (.ref a) f b) Q E s:=by
 obtain⟨mA,O,r,_,_,_⟩:=GU I.hok e
 obtain⟨u,hu,ru⟩:=RelO.some_of (v:=v) (o:=mA f) (by rw[<-l];exact r f)
 exact get_map I.kIn O (c.get f) c.hd n hu (O3 ru) (h u _ (I.tok _) ru)
theorem Ht{m:Str}{g:Addr}{pl:Sem Bool}{Q:Value×List Value->Shared->Prop}(I:Inv X pins σ H s)(e:H a=some (.ins C dx fs))(c:Cls X.K C)(k:Meth X.K C m g)(l:fs.lookup m=none)
  (h:Q (.ref g,[.ref a]) s):wpAny (model X.prog X.w) A (getMethod (.ref a) m pl) Q E s:=by
 obtain⟨mA,O,r,_,_,_⟩:=GU I.hok e
 have hn:mA m=none:=RelO.none_of (by rw[<-l];exact r m)
 exact Qy I.kIn O (c.get m) k.at_ k.fn hn h
theorem Il{y:V}{Q:Unit->Shared->Prop}(I:Inv X pins σ H s)(e:H a=some (.ins C dx fs))(c:Cls X.K C)(n:NoAttr X.K C f)(hl:fs.length<1000)(ry:RelV y u)
  (h:∀s',Inv X pins σ (upd H a (.ins C dx (putF f y fs))) s'->Q () s'):wpAny (model X.prog X.w) A (setAttr (.ref a) f u) Q E s:=by
 obtain⟨mA,O,r,wi,_,ho⟩:=GU I.hok e
 have hz:(fs.map (·.1)).length<=sizeLine:=by rw[length_map,sizeLine_eq];omega
 refine RV I.kIn O c.sa c.po n.taker c.hd wi hz λh' O' sb=>h _ ?_
 have hd:∃o,h'.get? dx=some o:=let⟨o,_,_,e',_⟩:=O'.ns;⟨o,e'⟩
 refine I.write (x:=a) (e:=dx) (by rw[e];exact True.intro) (.inr ho) (λb q hb z=>(sb.2 b hb).trans z) hd ?_
 refine⟨by rw[Aj O.ne];exact ho,?_,O.ne,O'.obj,_,O'.ns,λg=>?_,λg hg=>?_⟩
 .have:=Dc f y fs;omega
 .show RelO ((putF f y fs).lookup g) (if g=f then some u else mA g)
  rw[A4]
  by_cases q:g=f
  .rw[if_pos q,if_pos q];exact ry
  .rw[if_neg q,if_neg q];exact r g
 .by_cases q:g=f
  .rw[q];exact(Ge f y fs).1
  .refine(Ge f y fs).2 g (wi g λz=>hg ?_)
   show(if g=f then some u else mA g)=none
   rw[if_neg q];exact z
theorem Inv.made(I:Inv X pins σ H s):Inv X pins σ (upd (upd H s.heap.objs.size (.own (s.heap.objs.size+1))) (s.heap.objs.size+1) (.ins C s.heap.objs.size []))
  {s with heap:=(s.heap.push PySem.W.emptyDict).push (PySem.W.instObj C s.heap.objs.size)}:=by
 have e1:(s.heap.push PySem.W.emptyDict).get? s.heap.objs.size=some PySem.W.emptyDict:=Heap.get?_push_size s.heap rfl
 have e2:((s.heap.push PySem.W.emptyDict).push (PySem.W.instObj C s.heap.objs.size)).get? (s.heap.objs.size+1)=some (PySem.W.instObj C s.heap.objs.size):=by
  have:=Heap.get?_push_size (s.heap.push PySem.W.emptyDict) (o:=PySem.W.instObj C s.heap.objs.size) rfl
  rwa[Heap.size_push]at this
 have e3:(s.heap.push PySem.W.emptyDict).Ns s.heap.objs.size (λ_=>none):=⟨PySem.W.emptyDict,#[],_,e1,rfl,(λe he=>absurd he (by simp)),λ_=>rfl⟩
 have I1:=I.laid (a:=s.heap.objs.size) (o:=.own (s.heap.objs.size+1)) (h':=s.heap.push PySem.W.emptyDict) (t':=s.toks) (λb u q=>Heap.get?_push_of_some _ q) (Nat.le_refl _) ⟨_,e1⟩
 refine I1.laid (a:=s.heap.objs.size+1) (o:=.ins C s.heap.objs.size []) (t':=s.toks) (λb u q=>Heap.get?_push_of_some _ q) (Nat.le_of_eq (Heap.size_push _ _)) ?_
 have ne:s.heap.objs.size≠s.heap.objs.size+1:=Nat.ne_of_lt (Nat.lt_succ_self _)
 refine⟨by rw[Aj ne,Al],Nat.zero_le _,ne,e2,λ_=>none,(Heap.Ns1.of_empty e3).at λo q=>Heap.get?_push_of_some _ q,λ_=>True.intro,λy hy=>absurd rfl hy⟩
theorem R3{env:Env}{Q:Value->Shared->Prop}(hb:attributeBase e f env (eval e env)=eval e env)
  (h:wpAny (model prog w) A (eval e env) (λo s₁=>wpAny (model prog w) A (getAttr o f true) Q E s₁) E s):wpAny (model prog w) A (eval (.Attribute e f pos) env) Q E s:=
 Attribute_any_ h (by rw[arm_eval_Attribute,hb])
end
def tFld(K:Frag)(ta:TE)(f:Str):TE:=λσ H Q=>ta σ H λx H1=>∃a C dx fs v,x=.ref a/\H1 a=some (.ins C dx fs)/\Cls K C/\NoAttr K C f/\fs.lookup f=some v/\Q v H1
def sFld(K:Frag)(ta tv:TE)(f:Str):TS:=λD σ H=>tv σ H λy H1=>ta σ H1 λx H2=>∃a C dx fs,x=.ref a/\H2 a=some (.ins C dx fs)/\Cls K C/\NoAttr K C f/\fs.length<1000/\
 D.nx σ (upd H2 a (.ins C dx (putF f y fs)))
def InOp(X:Cx)(op:Operator)(rd:V->V->Hp->VK->Prop):Prop:=
 ∀(pins:List (Addr×Obj)) (s:Shared) (σ:St) (H:Hp) (x y:V) (u v:Value) (Q:VK),Inv X pins σ H s->RelV x u->RelV y v->rd x y H Q->wpAny (model X.prog X.w) X.A (inplaceOp op u v) (EP X pins σ Q) X.xe s
def Sy(K:Frag)(ta tv:TE)(rd:V->V->Hp->VK->Prop)(f:Str):TS:=λD σ H=>ta σ H λx H1=>∃a C dx fs v,x=.ref a/\H1 a=some (.ins C dx fs)/\Cls K C/\NoAttr K C f/\fs.lookup f=some v/\
 tv σ H1 λy H2=>rd v y H2 λz H3=>∃dx' fs',H3 a=some (.ins C dx' fs')/\fs'.length<1000/\D.nx σ (upd H3 a (.ins C dx' (putF f z fs')))
variable{pos':Pos}
section
variable{o value:Expr}{f:Str}{tpos:Pos}{tv:TE}
theorem L4(he:PE X e ta)(hb:attributeBase e f X.env (eval e X.env)=eval e X.env):PE X (.Attribute e f pos) (tFld X.K ta f):=by
 intro pins s σ H Q I h
 refine R3 hb (thn (he pins s σ H _ I h) λu s1 ⟨x,H1,I1,rx,a,C,dx,fs,v,ex,ea,c,n,l,q⟩=>?_)
 subst ex
 obtain rfl:u=Value.ref a:=rx
 exact Id I1 ea c n l λu' s2 I2 ru=>⟨v,H1,I2,ru,q⟩
theorem JP(ha:PE X o ta)(hv:PE X value tv)(hs:swapsWith value (some (.Attribute o f pos')) pos.line X.env=pure false):PS X (.Assign [.Attribute o f pos'] value pos) (sFld X.K ta tv f):=by
 intro pins s σ H D I h
 refine plainObj_wpAny_Assign_Attribute (thn (hv pins s σ H _ I h) λu s1 ⟨y,H1,I1,ry,q⟩=>thn (ha pins s1 σ H1 _ I1 q) λov s2 ⟨x,H2,I2,rx,a,C,dx,fs,ex,ea,c,n,l,q2⟩=>?_) hs
 subst ex
 obtain rfl:ov=Value.ref a:=rx
 exact Il I2 ea c n l ry λs3 I3=>⟨σ,_,I3,q2⟩
theorem O9{op:Operator}{rd:V->V->Hp->VK->Prop}(ha:PE X o ta)(hv:PE X value tv)(hop:InOp X op rd):PS X (.AugAssign (.Attribute o f tpos) op value pos) (Sy X.K ta tv rd f):=by
 intro pins s σ H D I h
 refine wpAny_AugAssign_AttributeAny (thn (ha pins s σ H _ I h) λov s1 ⟨x,H1,I1,rx,a,C,dx,fs,v,ex,ea,c,n,l,q⟩=>?_)
 subst ex
 obtain rfl:ov=Value.ref a:=rx
 refine Id I1 ea c n l λu s2 I2 ru=>thn (hv pins s2 σ H1 _ I2 q) λw3 s3 ⟨y,H2,I3,ry,q3⟩=>thn (hop pins s3 σ H2 v y u w3 _ I3 ru ry q3) λw4 s4 ⟨z,H3,I4,rz,dx',fs',ea',l',q4⟩=>?_
 exact Il I4 ea' c n l' rz λs5 I5=>⟨σ,_,I5,q4⟩
def rAdd:V->V->Hp->VK->Prop:=λx y H Q=>∃i j,x=.int i/\y=.int j/\Q (.int (i+j)) H
theorem T6:InOp X .Add rAdd:=by
 rintro pins s σ H x y u v Q I rx ry ⟨i,j,rfl,rfl,q⟩
 obtain⟨t,rfl⟩:=(show ∃t,u=Value.int i t from rx)
 obtain⟨t',rfl⟩:=(show ∃t',v=Value.int j t' from ry)
 exact PyProof.Rows.iadd_int ⟨.int (i+j),H,I.tok _,⟨_,rfl⟩,q⟩
end
variable{Q:Value->Shared->Prop}
section
variable{c:Value}{b:Bool}
inductive TyOf(K:Frag)(H:Hp):V->Value->Prop where
 |non:TyOf K H .non (.type "NoneType")
 |bl (x:Bool):TyOf K H (.bl x) (.type "bool")
 |int (i:Int):TyOf K H (.int i) (.type "int")
 |str (x:Str):TyOf K H (.str x) (.type "str")
 |flt (x:UInt64):TyOf K H (.flt x) (.type "float")
 |lst {a:Addr}{xs:List V}(e:H a=some (.lst xs)):TyOf K H (.ref a) (.type "list")
 |frz {a:Addr}{o:Obj}{xs:List V}(e:H a=some (.frz o (.lst xs))):TyOf K H (.ref a) (.type "list")
 |tup {a:Addr}{xs:List V}(e:H a=some (.tup xs)):TyOf K H (.ref a) (.type "tuple")
 |dK {a:Addr}{kvs:List (Key×V)}(e:H a=some (.dK kvs)):TyOf K H (.ref a) (.type "dict")
 |dT {a:Addr}{kvs:List (List Key×V)}(e:H a=some (.dT kvs)):TyOf K H (.ref a) (.type "dict")
 |ins {a C dx:Addr}{fs:List (Str×V)}(e:H a=some (.ins C dx fs)) (cl:Cls K C) (ha:findIn K (.ref C) "__class__"=some (some (.builtin "object.__class__")))
  (hn:specialIn K (.builtin "object.__class__") "__get__"=some (some (.builtin "getset_descriptor.__get__"))) (htk:PySem.W.takesIn K (.builtin "object.__class__")=some true)
  (hm:mroIn K C (.type "object")=some true):TyOf K H (.ref a) (.ref C)
theorem EB{x:V}{t:Value}(I:Inv X pins σ H s)(rx:RelV x u)(ty:TyOf X.K H x t)(e:kitOne X.K t c=some b)(h:∀tk,Q (.bool b) {s with toks:=tk}):
  wpAny (model X.prog X.w) A (call (.builtin "isinstance") [u,c]) Q E s:=by
 cases ty with
 |non=>cases(show u=Value.none from rx);exact kia_one PySem.W.kitx_none I.kIn True.intro e (λz=>nomatch z) h
 |bl y=>cases(show u=Value.bool y from rx);exact kia_one PySem.W.kitx_bool I.kIn True.intro e (λz=>nomatch z) h
 |int i=>obtain⟨t,q⟩:=(show ∃t,u=Value.int i t from rx);cases q;exact kia_one PySem.W.kitx_int I.kIn True.intro e (λz=>nomatch z) h
 |str y=>obtain⟨t,q⟩:=(show ∃t,u=Value.str y t from rx);cases q;exact kia_one PySem.W.kitx_str I.kIn True.intro e (λz=>nomatch z) h
 |flt y=>obtain⟨t,q⟩:=(show ∃t,u=Value.float y t from rx);cases q;exact kia_one PySem.W.kitx_float I.kIn True.intro e (λz=>nomatch z) h
 | @lst a xs ea=>
   cases(show u=Value.ref a from rx)
   obtain⟨_,_,n,_,h1⟩:=(show ObjOk X.prog X.w H s.heap a (.lst xs)from I.hok a _ ea)
   exact kia_one kitx_list I.kIn ⟨_,h1,rfl⟩ e (λz=>nomatch z) h
 | @frz a ob xs ea=>
   cases(show u=Value.ref a from rx)
   obtain⟨_,_,_,n,_,h1⟩:=(show ObjOk X.prog X.w H s.heap a (.frz ob (.lst xs))from I.hok a _ ea)
   exact kia_one kitx_list I.kIn ⟨_,h1,rfl⟩ e (λz=>nomatch z) h
 | @tup a xs ea=>
   cases(show u=Value.ref a from rx)
   obtain⟨_,⟨_,_,p⟩,_⟩:=(show ObjOk X.prog X.w H s.heap a (.tup xs)from I.hok a _ ea)
   obtain⟨o,h1,h2,_⟩:=p
   exact kia_one kitx_tuple I.kIn ⟨o,h1,h2⟩ e (λz=>nomatch z) h
 | @dK a kvs ea=>
   cases(show u=Value.ref a from rx)
   obtain⟨_,_,vs,_,p⟩:=(show ObjOk X.prog X.w H s.heap a (.dK kvs)from I.hok a _ ea)
   obtain⟨o,es,ep,h1,h2,_⟩:=p
   exact kia_one kitx_dict I.kIn ⟨o,h1,h2.1⟩ e (λz=>nomatch z) h
 | @dT a kvs ea=>
   cases(show u=Value.ref a from rx)
   obtain⟨_,_,xs,_,o,es,ep,h1,h2,_⟩:=(show ObjOk X.prog X.w H s.heap a (.dT kvs)from I.hok a _ ea)
   exact kia_one kitx_dict I.kIn ⟨o,h1,h2.1⟩ e (λz=>nomatch z) h
 | @ins a C dx fs ea cl ha hn htk hm=>
   cases(show u=Value.ref a from rx)
   obtain⟨mA,O,_⟩:=GU I.hok ea
   obtain⟨od,J,_⟩:=O.look
   exact kia_one (PySem.W.kitx_own (cl.get _) cl.hd ha hn htk hm) I.kIn J e (λz=>nomatch z) h
end
structure Room(k:Nat)(A:Around):Prop where
 hd:A.handled=none
 dp:A.depth+3*k+5<recursionLimit
 un:A.units+16*k+200<cLine
theorem Room.mono{j k:Nat}(r:Room k A)(h:j<=k):Room j A:=⟨r.hd,by have:=r.dp;omega,by have:=r.un;omega⟩
theorem Room.deeper{k:Nat}(r:Room (k+1) A)(env:Env):Room k (A.deeper env):=
 ⟨r.hd,by have:=r.dp;show A.depth+1+3*k+5<_;omega,by have:=r.un;show A.units+3+16*k+200<_;omega⟩
theorem LK{kw:List (Str×Value)}:(A.under (.builtin "type.__call__" ⟨.ref C::us,kw⟩)).depth=A.depth+1:=by
 first|rfl|simp[Around.under,Code.weight,Code.isCreation,Code.isGuard,Code.isCaller,Code.frames,Code.isFrame,guardIds]
theorem Lq{kw:List (Str×Value)}:(A.under (.builtin "type.__call__" ⟨.ref C::us,kw⟩)).units=A.units+1:=by
 first|rfl|simp[Around.under,Code.cUnits,Code.frames,Code.isFrame]
theorem Room.make{k:Nat}(r:Room (k+1) A)(C:Addr)(us:List Value)(kw:List (Str×Value)):Room k (A.under (.builtin "type.__call__" ⟨.ref C::us,kw⟩)):=
 ⟨r.hd,by have:=r.dp;rw[LK];omega,by have:=r.un;rw[Lq];omega⟩
theorem Room.depth{k:Nat}(r:Room k A):A.depth<recursionLimit:=by have:=r.dp;omega
theorem Room.units{k:Nat}(r:Room k A):A.units+64<cLine:=by have:=r.un;omega
def tNil:TA:=λ_ H Q=>Q [] H
def UF(ta:TE)(tr:TA):TA:=λσ H Q=>ta σ H λx H1=>tr σ H1 λxs H2=>Q (x::xs) H2
variable{es:List Expr}{t:TA}
theorem pa_nil:PA X [] tNil:=λ_ _ _ _ H Q I h=>Calls.spliced_nil ⟨[],H,I,.nil,h⟩
abbrev Zst(X:Cx)(e:Expr)(es:List Expr):Prop:=starEach (e::es) X.env=(false,eval e X.env)::starEach es X.env
theorem BS(ha:PE X e te)(hr:PA X es t)(hs:Zst X e es:=by rfl):PA X (e::es) (UF te t):=by
 intro pos pins s σ H Q I h
 rw[hs]
 show wpAny _ _ (spliced ((false,eval e X.env)::backTo pos (starEach es X.env))) _ _ s
 refine Calls.spliced_cons (thn (ha pins s σ H _ I h) λu s1 ⟨x,H1,I1,r1,q1⟩=>?_)
 exact thn (hr pos pins s1 σ H1 _ I1 q1) λus s2 ⟨xs,H2,I2,r2,q2⟩=>⟨x::xs,H2,I2,.cons r1 r2,q2⟩
def tTup(t:TA):TE:=λσ H Q=>t σ H λxs H1=>xs.length<=sizeLine/\∀p,H1 p=none->Q (.ref p) (upd H1 p (.tup xs))
def tLst(t:TA):TE:=λσ H Q=>t σ H λxs H1=>xs.length<=sizeLine/\∀p,H1 p=none->Q (.ref p) (upd H1 p (.lst xs))
theorem T5{x1}(h:PA X es t):PE X (.Tuple es x1 pos) (tTup t):=by
 intro pins s σ H Q I hq
 refine wpAny_Tuple_spliced (thn (h pos pins s σ H _ I hq) λus s1 ⟨xs,H1,I1,r,z,q⟩=>⟨by rw[<-r.length];exact z,?_⟩)
 have hf:H1 s1.heap.objs.size=none:=I1.hok.fresh (le_refl _)
 refine⟨.ref s1.heap.objs.size,upd H1 s1.heap.objs.size (.tup xs),I1.laid (t':=s1.toks) (λb u e=>get?_push_of_some _ e) (le_refl _) ?_,rfl,q _ hf⟩
 exact⟨z,⟨us,r,⟨_,get?_push_size _ rfl,rfl,_,rfl⟩⟩,_,get?_push_size _ rfl,rfl⟩
theorem Ho(h:PA X es t):PE X (.List es pos) (tLst t):=by
 intro pins s σ H Q I hq
 refine wpAny_List_spliced (thn (h pos pins s σ H _ I hq) λus s1 ⟨xs,H1,I1,r,z,q⟩=>⟨by rw[<-r.length];exact z,?_⟩)
 have hf:H1 s1.heap.objs.size=none:=I1.hok.fresh (le_refl _)
 refine⟨.ref s1.heap.objs.size,upd H1 s1.heap.objs.size (.lst xs),I1.laid (t':=s1.toks) (λb u e=>get?_push_of_some _ e) (le_refl _) ?_,rfl,q _ hf⟩
 exact⟨z,us,0,r,get?_push_size _ rfl⟩
abbrev Sp:=List V->Hp->VK->XK->Prop
abbrev CXT:=List Env->Hp->Shared->XK->Value->Shared->Prop
structure Env0(P:Program)(w:World)(K:Frag)(mg:Str->Option Value)(base:Heap)(A:Around)(outer:List Env)(s:Shared)(H:Hp):Prop where
 frames:A.frames=some outer
 mod:Mod K mg base
 bs:∀b o,base.get? b=some o->s.heap.get? b=some o/\H b=none
 bsz:base.objs.size<=s.heap.objs.size
 funs:s.heap.FunFrames base outer
 frf:∀b∈frs outer,H b=none
 hok:HOk P w H s.heap
 bare:AllBare s.gens
def CE(outer:List Env)(P:Program)(w:World)(H:Hp)(s:Shared)(Q:VK)(u:Value)(s':Shared):Prop:=
 ∃v H',s'.os=s.os/\AllBare s'.gens/\Un (frs outer) [] H H' s.heap s'.heap/\HOk P w H' s'.heap/\RelV v u/\Q v H'
def CR(CX:CXT)(outer:List Env)(P:Program)(w:World)(H:Hp)(s:Shared)(Q:VK)(E:XK)(r:Result)(s':Shared):Prop:=
 match r with
 | .ok (.ret u)=>CE outer P w H s Q u s'
 | .ok _=>False
 | .error e=>CX outer H s E e s'
structure FnOk(P:Program)(w:World)(K:Frag)(mg:Str->Option Value)(base:Heap)(CX:CXT)(k:Nat)(f:Addr)(fd:FuncData)(ps:List Str)(sp:Sp):Prop where
 len:∀vs H Q E,sp vs H Q E->vs.length=ps.length
 run:∀(A:Around) (outer:List Env) (s:Shared) (H:Hp) (args:Args) (us:List Value) (vs:List V) (Q:VK) (E:XK),Room k A->Env0 P w K mg base A outer s H->BindsTo s fd args (ps.zip us)->Vals vs us->sp vs H Q E->
  codeAny (model P w) A (.call (.ref f) args) (CR CX outer P w H s Q E) s
variable{mg:Str->Option Value}{base:Heap}{CX:CXT}{fd:FuncData}{ps:List Str}{sp:Sp}
theorem FnOk.imp{k:Nat}{f:Addr}{sp':Sp}(F:FnOk P w K mg base CX k f fd ps sp)
  (h:∀vs H Q E,sp' vs H Q E->sp vs H Q E):FnOk P w K mg base CX k f fd ps sp':=
 ⟨λvs H Q E q=>F.len vs H Q E (h _ _ _ _ q),λA outer s H args us vs Q E hr he hb hv hs=>F.run A outer s H args us vs Q E hr he hb hv (h _ _ _ _ hs)⟩
theorem Env0.make{outer:List Env}(e:Env0 P w K mg base A outer s H)(C:Addr)(us:List Value)(kw:List (Str×Value)):
  Env0 P w K mg base (A.under (.builtin "type.__call__" ⟨.ref C::us,kw⟩)) outer s H:=⟨by first|exact e.frames|(simpa[Around.under,Code.envs,Code.isFrame,pushEnvs]using e.frames),e.mod,e.bs,e.bsz,e.funs,e.frf,e.hok,e.bare⟩
variable{s':Shared}
theorem Inv.env0(I:Inv X pins σ H s):Env0 X.prog X.w X.K X.mg X.base X.A X.stack s H:=
 ⟨I.ok.frames,I.ok.mod,I.bs,Nat.le_trans I.ok.bsz I.sz,I.stack,I.stkFree,I.hok,I.bare⟩
theorem Inv.after{Q:VK}(I:Inv X pins σ H s)(h:CE X.stack X.prog X.w H s Q u s'):EP X pins σ Q u s':=by
 obtain⟨v,H',os,bare,un,hok,r,q⟩:=h
 obtain⟨hh,g,d,t,os'⟩:=s'
 obtain rfl:os'=s.os:=os
 exact⟨v,H',I.call (h':=hh) (g':=g) (d':=d) (t':=t) (ch:=[]) un hok bare (λb z=>absurd z (by simp)),r,q⟩
def Ve(sp:Sp)(dvs:List V)(E:XK)(t:TA):TE:=λσ H Q=>t σ H λvs H1=>sp (vs++dvs) H1 Q E
def SW(C:Addr)(m:Str)(sp:Sp)(dvs:List V)(E:XK)(ta:TE)(t:TA):TE:=λσ H Q=>ta σ H λx H1=>∃a dx fs,x=.ref a/\H1 a=some (.ins C dx fs)/\fs.lookup m=none/\
 t σ H1 λvs H2=>sp (x::(vs++dvs)) H2 Q E
def UQ(C:Addr)(sp:Sp)(dvs:List V)(E:XK)(t:TA):TE:=λσ H Q=>t σ H λvs H1=>∀x dx,H1 x=none->H1 dx=none->dx≠x->
 sp (.ref x::(vs++dvs)) (upd (upd H1 dx (.own x)) x (.ins C dx [])) (λv H2=>v=.non/\Q (.ref x) H2) E
def Binds(K:Frag)(fd:FuncData)(ps:List Str)(ds:List Value):Prop:=
 ∀(s:Shared) (us:List Value),K.In s.heap->(us++ds).length=ps.length->BindsTo s fd ⟨us,[]⟩ (ps.zip (us++ds))
theorem Binds.all(h:∀us:List Value,us.length=ps.length->bindArgs fd ⟨us,[]⟩=pure (ps.zip us)):Binds K fd ps []:=λs us _ hl=>by
 rw[List.append_nil]at hl ⊢
 exact .of_eq (h us hl)
def Fe(CX:CXT)(X:Cx)(E:XK):Prop:=∀(pins:List (Addr×Obj)) (σ:St) (H:Hp) (s:Shared) (e:Value) (s':Shared),Inv X pins σ H s->CX X.stack H s E e s'->X.xe e s'
variable{x m:Str}{p apos:Pos}
section
variable{k:Nat}{f:Addr}{dvs:List V}{ds:List Value}{E:XK}{o:Expr}
theorem LJ{Q:VK}{vs:List V}(F:FnOk X.prog X.w X.K X.mg X.base CX k f fd ps sp)(hr:Room k X.A)(hb:Binds X.K fd ps ds)(hd:Vals dvs ds)(hx:Fe CX X E)
  (I:Inv X pins σ H s)(r:Vals vs us)(h:sp (vs++dvs) H Q E):wpAny (model X.prog X.w) X.A (call (.ref f) us) (EP X pins σ Q) X.xe s:=by
 have r2:Vals (vs++dvs) (us++ds):=r.append hd
 have hl:(us++ds).length=ps.length:=by rw[<-r2.length];exact F.len _ _ _ _ h
 refine wpAny_call (codeAny_mono (F.run X.A X.stack s H ⟨us,[]⟩ (us++ds) (vs++dvs) Q E hr I.env0 (hb s us I.kIn hl) r2 h) λr s' hq=>?_)
 cases r with
 |error e=>exact hx pins σ H s e s' I hq
 |ok fl=>
  cases fl with
  |ret u=>exact I.after hq
  |next=>exact False.elim hq
  |brk=>exact False.elim hq
  |cont=>exact False.elim hq
theorem Ed(F:FnOk X.prog X.w X.K X.mg X.base CX k f fd ps sp)(hr:Room k X.A)(hg:Gl X x)(hm:X.mg x=some (.ref f))(hk:keepIn X.K (.ref f)=true)(hb:Binds X.K fd ps ds)(hd:Vals dvs ds)(hx:Fe CX X E)
  (ha:PA X (e::es) t)(hdb:(x==("__debug__":Str))=false:=by decide)(he:Zst X e es:=by rfl)(hpl:(backTo pos (starEach es X.env)).any (·.1)=false:=by rfl):
  PE X (.Call (.Name x p) (e::es) [] pos) (Ve sp dvs E t):=by
 intro pins s σ H Q I h
 refine wpAny_Call_Name_kw (JA I hg hm ?_ hdb)
 refine callWith_K (h₀:=X.base) I.ok.mod.kin hk (thn (ha pos pins s σ H _ I h) λus s1 ⟨vs,H1,I1,r,q⟩=>⟨I1.kIn,?_⟩) he hpl
 exact LJ F hr hb hd hx I1 r q
theorem Hh{pl:Sem Bool}(he:PE X o ta)(c:Cls X.K C)(hm:Meth X.K C m f)(F:FnOk X.prog X.w X.K X.mg X.base CX k f fd ps sp)(hr:Room k X.A)(hb:Binds X.K fd ps ds)(hd:Vals dvs ds)(hx:Fe CX X E)(ha:PA X (e::es) t)
  (hst:Zst X e es:=by rfl)(hpl:(backTo pos (starEach es X.env)).any (·.1)=false:=by rfl)
  (ht:eval (.Call (.Attribute o m apos) (e::es) [] pos) X.env=(do
   let ov <-eval o X.env
   standAt apos.atName
   let(f,first) <-holding [ov] (getMethod ov m pl)
   callWith pos f first (backTo pos (starEach (e::es) X.env)) (backToKw pos (keywordEach [] X.env))):=by rfl):
  PE X (.Call (.Attribute o m apos) (e::es) [] pos) (SW C m sp dvs E ta t):=by
 intro pins s σ H Q I h
 refine methodCall_KW (pl:=pl) (thn (he pins s σ H _ I h) λu s1 ⟨x,H1,I1,rx,a,dx,fs,ex,ea,l,q⟩=>?_) ht
 subst ex
 obtain rfl:u=Value.ref a:=rx
 refine Ht I1 ea c hm l ?_
 refine callWith_K (first:=[.ref a]) (h₀:=X.base) I.ok.mod.kin hm.kp (thn (ha pos pins s1 σ H1 _ I1 q) λus s2 ⟨vs,H2,I2,r,q2⟩=>⟨I2.kIn,?_⟩) hst hpl
 exact LJ (us:=.ref a::us) (vs:=.ref a::vs) F hr hb hd hx I2 (.cons rfl r) q2
theorem FS{pl:Sem Bool}(he:PE X o ta)(c:Cls X.K C)(hm:Meth X.K C m f)(F:FnOk X.prog X.w X.K X.mg X.base CX k f fd ps sp)(hr:Room k X.A)(hb:Binds X.K fd ps ds)(hd:Vals dvs ds)(hx:Fe CX X E)
  (ht:eval (.Call (.Attribute o m apos) [] [] pos) X.env=(do
   let ov <-eval o X.env
   standAt apos.atName
   let(f,first) <-holding [ov] (getMethod ov m pl)
   callWith pos f first (backTo pos (starEach [] X.env)) (backToKw pos (keywordEach [] X.env))):=by rfl):
  PE X (.Call (.Attribute o m apos) [] [] pos) (SW C m sp dvs E ta tNil):=by
 intro pins s σ H Q I h
 refine methodCall_KW (pl:=pl) (thn (he pins s σ H _ I h) λu s1 ⟨x,H1,I1,rx,a,dx,fs,ex,ea,l,q⟩=>?_) ht
 subst ex
 obtain rfl:u=Value.ref a:=rx
 refine Ht I1 ea c hm l ?_
 exact PySem.W.callWith_K0 (first:=[.ref a]) I1.kIn hm.kp (LJ (us:=[.ref a]) (vs:=[.ref a]) F hr hb hd hx I1 (.cons rfl .nil) q)
structure Mk(K:Frag)(C f:Addr):Prop where
 makes:makesIn K C=true
 init:findIn K (.ref C) "__init__"=some (some (.ref f))
 fn:isFn K (.ref f)=true
 kp:keepIn K (.ref C)=true
theorem PU{Q:VK}{vs:List V}(M:Mk X.K C f)(F:FnOk X.prog X.w X.K X.mg X.base CX k f fd ps sp)(hr:Room (k+1) X.A)(hb:Binds X.K fd ps ds)(hd:Vals dvs ds)
  (hx:Fe CX X E)(I:Inv X pins σ H s)(r:Vals vs us)
  (h:∀x dx,H x=none->H dx=none->dx≠x->sp (.ref x::(vs++dvs)) (upd (upd H dx (.own x)) x (.ins C dx [])) (λv H2=>v=.non/\Q (.ref x) H2) E):
  wpAny (model X.prog X.w) X.A (call (.ref C) us) (EP X pins σ Q) X.xe s:=by
 have hq:=h (s.heap.objs.size+1) s.heap.objs.size (I.hok.fresh (le_succ _)) (I.hok.fresh (le_refl _)) (ne_of_lt (Nat.lt_succ_self _))
 have I2:=Inv.made (C:=C) I
 have r2:Vals (V.ref (s.heap.objs.size+1)::(vs++dvs)) (Value.ref (s.heap.objs.size+1)::(us++ds)):=.cons rfl (r.append hd)
 have hl:(Value.ref (s.heap.objs.size+1)::us++ds).length=ps.length:=by
  have e:=r2.length
  rw[F.len _ _ _ _ hq]at e
  exact e.symm
 refine wpAny_call (Pj (f:=f) I.kIn M.makes M.init (beq_iff_eq.mp M.fn) (codeAny_mono (F.run _ X.stack _ _ ⟨Value.ref (s.heap.objs.size+1)::us,[]⟩ (Value.ref (s.heap.objs.size+1)::(us++ds)) _ _ E (hr.make C us [])
  (I2.env0.make C us []) (hb _ (Value.ref (s.heap.objs.size+1)::us) I2.kIn hl) r2 hq) λr s' hq'=>?_))
 cases r with
 |error e=>exact hx pins σ _ _ e s' I2 hq'
 |ok fl=>
  cases fl with
  |ret u=>
   obtain⟨v,H',I3,rv,ev,q3⟩:=I2.after hq'
   subst ev
   exact⟨rv,⟨V.ref (s.heap.objs.size+1),H',I3,rfl,q3⟩⟩
  |next=>exact False.elim hq'
  |brk=>exact False.elim hq'
  |cont=>exact False.elim hq'
theorem NJ(M:Mk X.K C f)(F:FnOk X.prog X.w X.K X.mg X.base CX k f fd ps sp)(hr:Room (k+1) X.A)(hg:Gl X x)(hm:X.mg x=some (.ref C))(hb:Binds X.K fd ps ds)(hd:Vals dvs ds)(hx:Fe CX X E)
  (ha:PA X (e::es) t)(hdb:(x==("__debug__":Str))=false:=by decide)(he:Zst X e es:=by rfl)(hpl:(backTo pos (starEach es X.env)).any (·.1)=false:=by rfl):
  PE X (.Call (.Name x p) (e::es) [] pos) (UQ C sp dvs E t):=by
 intro pins s σ H Q I h
 refine wpAny_Call_Name_kw (JA I hg hm ?_ hdb)
 refine callWith_K (h₀:=X.base) I.ok.mod.kin M.kp (thn (ha pos pins s σ H _ I h) λus s1 ⟨vs,H1,I1,r,q⟩=>⟨I1.kIn,?_⟩) he hpl
 exact PU M F hr hb hd hx I1 r q
end
section
variable{k:Nat}{f:Addr}{ks:List Str}{E:XK}{kpos:Pos}{o:Expr}{kws:List Keyword}{tk:TA}{nm:Option Str}
structure KBinds(K:Frag)(fd:FuncData)(ps ks:List Str)(g:List Value->List Value->List Value)(gV:List V->List V->List V):Prop where
 to:∀(s:Shared) (us ws:List Value),K.In s.heap->(g us ws).length=ps.length->BindsTo s fd ⟨us,ks.zip ws⟩ (ps.zip (g us ws))
 rel:∀{vs:List V}{us:List Value}{zs:List V}{ws:List Value},Vals vs us->Vals zs ws->Vals (gV vs zs) (g us ws)
variable{g:List Value->List Value->List Value}{gV:List V->List V->List V}
end
structure FnScope(N P:List Str)(sc:Scope):Prop where
 kind:sc.kind=.function
 co:sc.isCoroutine=false
 gen:sc.isGenerator=false
 nd:N.Nodup
 pre:N.take P.length=P
 par:∀x∈P,sc.names.lookup x=some .local\/sc.names.lookup x=some .cell
 nofree:∀y∈sc.names,y.2≠.free
theorem IH{kindOf:Str->Option NameKind}{x:Str}:∀{binds:List (Str×Value)}{m:Str->Option Value},(∀v,(x,v)∉binds)->bindL kindOf binds m x=m x
 |[],_,_=>rfl
 |(n,v)::r,m,h=>by
  unfold bindL
  rw[IH λw hw=>h w (mem_cons_of_mem _ hw)]
  split
  .have:x≠n:=by rintro rfl;exact h v mem_cons_self
   simp[this]
  .rfl
theorem Jb{kindOf:Str->Option NameKind}{x:Str}:∀{binds:List (Str×Value)}{m:Str->Option Value},(∀v,(x,v)∉binds)->bindC kindOf binds m x=m x
 |[],_,_=>rfl
 |(n,v)::r,m,h=>by
  unfold bindC
  rw[Jb λw hw=>h w (mem_cons_of_mem _ hw)]
  split
  .rfl
  .have:x≠n:=by rintro rfl;exact h v mem_cons_self
   simp[this]
theorem Jf{kindOf:Str->Option NameKind}{x:Str}{v:Value}:∀{P:List Str}{vs:List Value}{i:Nat}{m:Str->Option Value},P.Nodup->P[i]?=some x->vs[i]?=some v->kindOf x=some .local->
  bindL kindOf (P.zip vs) m x=some v
 |[],_,_,_,_,h,_,_=>by simp at h
 |_::_,[],_,_,_,_,h,_=>by simp at h
 |p::P,w::vs,0,m,nd,h1,h2,hk=>by
  simp at h1 h2;subst h1;subst h2
  show bindL kindOf ((p,w)::P.zip vs) m p=_
  unfold bindL
  rw[IH λv hv=>(nodup_cons.mp nd).1 (of_mem_zip hv).1,if_pos hk]
  simp
 |p::P,w::vs,i+1,m,nd,h1,h2,hk=>by
  show bindL kindOf ((p,w)::P.zip vs) m x=_
  unfold bindL
  exact Jf (i:=i) (nodup_cons.mp nd).2 (by simpa using h1) (by simpa using h2) hk
theorem IL{kindOf:Str->Option NameKind}{x:Str}{v:Value}:∀{P:List Str}{vs:List Value}{i:Nat}{m:Str->Option Value},P.Nodup->P[i]?=some x->vs[i]?=some v->kindOf x≠some .local->
  bindC kindOf (P.zip vs) m x=some v
 |[],_,_,_,_,h,_,_=>by simp at h
 |_::_,[],_,_,_,_,h,_=>by simp at h
 |p::P,w::vs,0,m,nd,h1,h2,hk=>by
  simp at h1 h2;subst h1;subst h2
  show bindC kindOf ((p,w)::P.zip vs) m p=_
  unfold bindC
  rw[Jb λv hv=>(nodup_cons.mp nd).1 (of_mem_zip hv).1,if_neg hk]
  simp
 |p::P,w::vs,i+1,m,nd,h1,h2,hk=>by
  show bindC kindOf ((p,w)::P.zip vs) m x=_
  unfold bindC
  exact IL (i:=i) (nodup_cons.mp nd).2 (by simpa using h1) (by simpa using h2) hk
def start(N:List Str)(vs:List V):St:=vs.map some++replicate (N.length-vs.length) none
def cxOf(CX:CXT)(P:Program)(w:World)(K:Frag)(mg:Str->Option Value)(base:Heap)(N:List Str)(qual:Str)(scope:Scope)(f:Addr)(cd:Value)(A:Around)(outer:List Env)(s:Shared)(H:Hp)(E:XK):Cx where
 prog:=P
 w:=w
 K:=K
 mg:=mg
 base:=base
 A:=A.deeper (envOfC qual scope s.heap.objs.size f cd)
 N:=N
 s₀:=s
 H₀:=H
 env:=envOfC qual scope s.heap.objs.size f cd
 outer:=outer
 stack:=envOfC qual scope s.heap.objs.size f cd::outer
 ex:=[]
 calm:=true
 fn:=λ_=>true
 pn:=[]
 xe:=λe s'=>wpAny (model P w) (A.deeper (envOfC qual scope s.heap.objs.size f cd)) (leaving (envOfC qual scope s.heap.objs.size f cd) e) (λ_ s''=>CX outer H s E e s'') (λe' s''=>CX outer H s E e' s'') s'
theorem K2{sc:Scope}{n:Nat}(h:sc.names.lookup x=some .cell):∃c,(cellsFrom n sc.names []).lookup x=some c:=by
 have q:=cellsFrom_some sc.names n [] (.inl h)
 exact Option.isSome_iff_exists.mp q
theorem Ox{N:List Str}{qual:Str}{scope:Scope}{f:Addr}{cd:Value}{outer:List Env}{s1:Shared}{E:XK}{vs:List V}
  (S:FnScope N ps scope)(hd:A.handled=none)(e0:Env0 P w K mg base A outer s H)(hl:vs.length=ps.length)(r:Vals vs us)
  (x:InCallC s s.heap.objs.size (bindL (envOfC qual scope s.heap.objs.size f cd).kindOf (ps.zip us) λ_=>none) (cellsFrom (s.heap.objs.size+1) scope.names []) (bindC (envOfC qual scope s.heap.objs.size f cd).kindOf (ps.zip us) λ_=>none) s1):
  Inv (cxOf CX P w K mg base N qual scope f cd A outer s H E) [] (start N vs) H s1:=by
 have hpl:ps.length<=N.length:=by have:=congrArg List.length S.pre;rw[length_take]at this;omega
 obtain⟨h1,tk,rfl,hk⟩:=x.done
 have noA:∀b:Addr,b∉(cxOf CX P w K mg base N qual scope f cd A outer s H E).ex:=λb z=>absurd (show b∈([]:List Addr)from z) (by simp)
 refine⟨⟨e0.mod,S.kind,rfl,rfl,le_refl _,λy z c h1 h2=>?_,λy hy=>?_,λy c _ h=>?_,λ_=>hd,Around.frames_deeper e0.frames,.inr ⟨rfl,rfl⟩,λb z=>absurd z (noA b),e0.bs,e0.bsz,λb _ _=>noA b,λb z=>absurd z (noA b),e0.funs,e0.frf⟩,
  rfl,e0.bare,Un.kept hk,⟨_,x.toInCall.ns,λi y v h1 h2 h3=>?_⟩,λy c h=>⟨_,x.cell y c h⟩,e0.hok.fresh (le_refl _),λy c h=>?_,λp hp=>absurd (show p∈([]:List (Addr×Obj))from hp) (by simp),e0.hok.kept hk,?_⟩
 .exact name_of_addr x.apart (PySem.mem_of_lookup h1) (PySem.mem_of_lookup h2)
 .have hy:scope.names.lookup y=some .cell\/scope.names.lookup y=some .free:=hy
  rcases hy with hy|hy
  .exact K2 hy
  .exact absurd rfl (S.nofree _ (PySem.mem_of_lookup hy))
 .exact le_of_lt (x.above y c (PySem.mem_of_lookup h))
 .have hi:i<vs.length:=by
   unfold start at h2
   by_cases hi:i<vs.length
   .exact hi
   .rw[List.getElem?_append_right (by simpa using hi)]at h2
    rw[getElem?_replicate]at h2
    split at h2<;>cases h2
  have ha:vs[i]?=some v:=by
   unfold start at h2
   rw[getElem?_append_left (by simpa using hi),getElem?_map]at h2
   cases e:vs[i]? with
   |none=>rw[e]at h2;cases h2
   |some a=>rw[e]at h2;cases h2;rfl
  obtain⟨u,hu,rv⟩:=r.get ha
  have hp:ps[i]?=some y:=by
   rw[<-S.pre,List.getElem?_take_of_lt (by omega)];exact h1
  have ndP:ps.Nodup:=by rw[<-S.pre];exact S.nd.sublist (List.take_sublist _ _)
  refine⟨u,rv,?_⟩
  rcases S.par y (mem_of_getElem? hp)with k|k
  .exact .inl ⟨k,Jf ndP hp hu k⟩
  .obtain⟨c,e⟩:=K2 (n:=s.heap.objs.size+1) k
   refine .inr ⟨.inl k,c,e,?_⟩
   have q:=x.cell y c e
   rw[IL ndP hp hu (by show scope.names.lookup y≠_;rw[k];decide)]at q
   exact q
 .exact e0.hok.fresh (le_of_lt (x.above y c (PySem.mem_of_lookup h)))
 .unfold start
  show _=N.length
  rw[length_append,length_map,length_replicate]
  omega
theorem Vk{k:Nat}{f:Addr}{qual:Str}{params:Arguments}{body:List Stmt}{scope:Scope}{dV kV doc pm cdv ct oc:Value}{an od:Option Addr}
  {osl:Array (Option Value)}{N:List Str}(lk:K.lookup f=some ⟨oc,od,.func (fnOf name qual params body scope dV kV doc pm an cdv ct),osl⟩)(hcd:codeIn K cdv qual=true)(S:FnScope N ps scope)
  (len:∀vs H Q E,sp vs H Q E->vs.length=ps.length)
  (hbody:∀(A:Around) (outer:List Env) (s:Shared) (H:Hp) (vs:List V) (Q:VK) (E:XK),Room k (A.deeper (envOfC qual scope s.heap.objs.size f cdv))->sp vs H Q E->
   ∃t,PSs (cxOf CX P w K mg base N qual scope f cdv A outer s H E) body t/\t {nx:=λ_ H'=>Q .non H',rt:=Q} (start N vs) H):
  FnOk P w K mg base CX (k+1) f (fnOf name qual params body scope dV kV doc pm an cdv ct) ps sp:=by
 refine⟨len,λA outer s H args us vs Q E hr e0 hb r hsp=>?_⟩
 have hl:=len _ _ _ _ hsp
 have KX:K.In s.heap:=e0.mod.kin.keeps λb o e=>(e0.bs b o e).1
 have lim:s.heap.NoLimit:=e0.mod.nolimit.keeps λb o e=>(e0.bs b o e).1
 have hkind:∀y∈ps.zip us,scope.names.lookup y.1=some .local\/(scope.names.lookup y.1=some .cell/\((cellsFrom (s.heap.objs.size+1) scope.names []).lookup y.1).isSome=true):=λ⟨n,v⟩ hy=>by
  rcases S.par n (of_mem_zip hy).1 with q|q
  .exact .inl q
  .exact .inr ⟨q,cellsFrom_some _ _ _ (.inl q)⟩
 refine codeAny_call_function hr.depth (KX _ _ lk) rfl S.co S.gen rfl (PySem.W.codeRec_of KX hcd) (hb _ _ _ _ ?_)
 refine wpAny_newFunctionEnv_cells S.kind hkind λenv he s1 x=>?_
 subst he
 refine⟨lim.keeps x.toInCall.keep,codeAny_func ?_⟩
 obtain⟨t,ht,hq⟩:=hbody A outer s H vs Q E (hr.deeper _) hsp
 have I:Inv (cxOf CX P w K mg base N qual scope f cdv A outer s H E) [] (start N vs) H s1:=Ox S hr.hd e0 hl r x
 refine wpAny_mono (ht [] s1 (start N vs) H _ I hq) (λfl s' hs=>?_) λe s' hs=>hs
 have fin:∀{σ':St}{H':Hp}{v:V}{u:Value},Inv (cxOf CX P w K mg base N qual scope f cdv A outer s H E) [] σ' H' s'->RelV v u->Q v H'->CE outer P w H s Q u s':=
  λ{σ' H' v u} J rv q=>⟨v,H',J.os,J.bare,J.base,J.hok,rv,q⟩
 cases fl with
 |ret u=>
  obtain⟨v,σ',H',J,rv,q⟩:=hs
  exact fin J rv q
 |next=>
  obtain⟨σ',H',J,q⟩:=hs
  exact fin (v:=V.non) (u:=Value.none) J rfl q
 |brk=>
  obtain⟨_,_,_,q⟩:=hs
  exact False.elim q
 |cont=>
  obtain⟨_,_,_,q⟩:=hs
  exact False.elim q
section
variable{id T:String}{r:List V->Hp->VK->Prop}
def tCB(r:List V->Hp->VK->Prop)(t:TA):TE:=λσ H Q=>t σ H λvs H1=>r vs H1 Q
theorem KY(hc:CallR X (.builtin id) r)(hg:Gl X x)(hm:X.mg x=none)(hv:bootBuiltins x=some (.builtin id))(ha:PA X (e::es) t)(hn:x≠"__name__":=by decide)(hdb:(x==("__debug__":Str))=false:=by decide)
  (he:Zst X e es:=by rfl)(hpl:(backTo pos (starEach es X.env)).any (·.1)=false:=by rfl):PE X (.Call (.Name x p) (e::es) [] pos) (tCB r t):=by
 intro pins s σ H Q I h
 refine wpAny_Call_Name_kw (Fm I hg hm hv ?_ hn hdb)
 exact PyProof.Rows.callWith_builtin1 (thn (ha pos pins s σ H _ I h) λus s1 ⟨vs,H1,I1,r1,q1⟩=>hc pins s1 σ H1 vs us Q I1 r1 q1) he hpl
theorem Ja(hc:CallR X (.type T) r)(hg:Gl X x)(hm:X.mg x=none)(hv:bootBuiltins x=some (.type T))(ha:PA X (e::es) t)(hn:x≠"__name__":=by decide)(hdb:(x==("__debug__":Str))=false:=by decide)
  (he:Zst X e es:=by rfl)(hpl:(backTo pos (starEach es X.env)).any (·.1)=false:=by rfl):PE X (.Call (.Name x p) (e::es) [] pos) (tCB r t):=by
 intro pins s σ H Q I h
 refine wpAny_Call_Name_kw (Fm I hg hm hv ?_ hn hdb)
 exact PyProof.Rows.callWith_type1 (thn (ha pos pins s σ H _ I h) λus s1 ⟨vs,H1,I1,r1,q1⟩=>hc pins s1 σ H1 vs us Q I1 r1 q1) he hpl
end
end L2
namespace HT
open PySem PyProof.Rows
section
open PySem.SeqAt
open PySem.AutoSeq1 (wpAny_loadPart')
open PySem.MeetsSeq PySem.MeetsSeq2 PySem.MeetsSeq3
end
section
variable{prog:Program}{w:World}{A:Around}{E:Value->Shared->Prop}{s:Shared}
theorem cat_tup{t b:Addr}{vs ws:List Value}{Q:Value->Shared->Prop}(ht:IsTup s.heap t vs.toArray)(hb:IsTup s.heap b ws.toArray)(hv:vs≠[])
  (h1:ws=[]->Q (.ref t) s)(h2:ws≠[]->Q (.ref s.heap.objs.size) {s with heap:=s.heap.push {cls:=.type "tuple",data:=.seq (vs++ws).toArray}})
  (hsz:vs.length+ws.length<=sizeLine):wpAny (model prog w) A (binaryOp .Add (.ref t) (.ref b)) Q E s:=by
 obtain⟨⟨cls,dd,data,sl⟩,ho,hc,n,hd⟩:=id ht
 obtain⟨⟨cls2,dd2,data2,sl2⟩,ho2,hc2,n2,hd2⟩:=id hb
 simp only at hc hd hc2 hd2
 subst hc hd hc2 hd2
 have e:vs.toArray++ws.toArray=(vs++ws).toArray:=by simp
 by_cases hw:ws=[]
 .exact concat_meets ⟨_,ho,rfl⟩ ⟨_,ho2,rfl⟩ noFill_tuple_add seq_tuple_add slot_tuple_add PySem.F.entry_tuple_add (PySem.F.args_tuple_add_2 _ _)
   (tuple_addW1 t b vs.toArray ws.toArray n n2 dd dd2 sl sl2 (by simpa using hv) (by simp[hw])) ⟨ho,ho2,h1 hw⟩
 .refine concat_meets ⟨_,ho,rfl⟩ ⟨_,ho2,rfl⟩ noFill_tuple_add seq_tuple_add slot_tuple_add PySem.F.entry_tuple_add (PySem.F.args_tuple_add_2 _ _)
   (tuple_addW2 t b vs.toArray ws.toArray n n2 dd dd2 sl sl2 (by simpa using hv) (by simpa using hw) (by rw[size_toArray,size_toArray];exact hsz)) ⟨ho,ho2,?_⟩
  rw[e]
  exact h2 hw
def sIx(n d:Nat):Option Int->Nat
 |none=>d
 |some v=>if v<0 then(v+(n:Int)).toNat else min v.toNat n
theorem sIx_nat(n d k:Nat):sIx n d (some (k:Int))=min k n:=by
 show(if(k:Int)<0 then((k:Int)+(n:Int)).toNat else min (k:Int).toNat n)=min k n
 rw[if_neg (by omega),toNat_natCast]
theorem Tj(n d:Nat)(hd:d<=n)(o:Option Int):sIx n d o<=n:=by
 cases o with
 |none=>exact hd
 |some v=>
  show(if v<0 then(v+(n:Int)).toNat else min v.toNat n)<=n
  by_cases hv:v<0
  .rw[if_pos hv];omega
  .rw[if_neg hv];exact Nat.min_le_right _ _
theorem NA(v:Int)(n d:Nat):(if v<0 then max (v+(n:Int)) 0 else min v (n:Int))=((sIx n d (some v):Nat):Int):=by
 show(if v<0 then max (v+(n:Int)) 0 else min v (n:Int))=(((if v<0 then(v+(n:Int)).toNat else min v.toNat n):Nat):Int)
 by_cases hv:v<0
 .simp only[if_pos hv];omega
 .simp only[if_neg hv];omega
theorem Mp(lo hi:Option Int)(n:Nat):sliceAdjust lo hi 1 (n:Int)=(((sIx n 0 lo:Nat):Int),((sIx n n hi:Nat):Int)):=by
 have h1:¬((1:Int)<0):=by omega
 unfold sliceAdjust
 simp only[h1,if_false]
 refine Prod.ext ?_ ?_
 .cases lo with
  |none=>rfl
  |some v=>exact NA v n 0
 .cases hi with
  |none=>rfl
  |some v=>exact NA v n n
theorem LR(i j:Nat):slicePlaces (i:Int) (j:Int) 1=j-i:=by
 unfold slicePlaces
 have h1:(1:Int)>0:=by omega
 simp only[h1,if_true,Int.ediv_one]
 split<;>omega
theorem Hs{v:Value}{o:Option Int}{Q:Option Int->Shared->Prop}(p:IsPart v o)(h:Q o s):wpAny (model prog w) A (Builtin.Slice.slicePartIndex v) Q E s:=by
 cases p with
 |none=>exact slicePart_none h
 |int i t=>exact slicePart_int h
theorem Gw{sl:Addr}{vl vu:Value}{lo hi:Option Int}{n:Nat}{Q:Int×Int×Nat->Shared->Prop}(hs:s.heap.IsSliceOf sl vl vu .none)(pl:IsPart vl lo)(pu:IsPart vu hi)
  (h:Q (((sIx n 0 lo:Nat):Int),1,sIx n n hi-sIx n 0 lo) s):wpAny (model prog w) A (sliceApplied (.ref sl) (pure (n:Int))) Q E s:=by
 obtain⟨os,hos,hcs,hds⟩:=id hs
 unfold sliceApplied sliceFields
 refine wpAny_bind (wpAny_bind (wpAny_field hos hds (x:=vl) rfl (wpAny_bind (wpAny_field hos hds (x:=vu) rfl (wpAny_bind (wpAny_field hos hds (x:=.none) rfl (wpAny_pure ?_)))))))
 refine wpAny_bind (slicePart_none ?_)
 show wpAny _ _ (if((1:Int)==0)=true then _ else _) _ _ s
 rw[if_neg (by decide)]
 refine wpAny_bind (Hs pl (wpAny_bind (Hs pu (wpAny_bind (wpAny_pure ?_)))))
 show wpAny _ _ (match sliceAdjust lo hi 1 (n:Int)with|(lo,hi)=>pure (lo,(1:Int),slicePlaces lo hi 1)) _ _ s
 rw[Mp lo hi n]
 show wpAny _ _ (pure (((sIx n 0 lo:Nat):Int),(1:Int),slicePlaces ((sIx n 0 lo:Nat):Int) ((sIx n n hi:Nat):Int) 1)) _ _ s
 rw[LR]
 exact wpAny_pure h
theorem Py(xs:Array Value)(i k:Nat):((range k).filterMap λ(m:Nat)=>xs[((i:Int)+(m:Int)*1).toNat]?).toArray=((xs.toList.drop i).take k).toArray:=by
 have e:(λ(m:Nat)=>xs[((i:Int)+(m:Int)*1).toNat]?)=λm=>xs[i+m]?:=by
  funext m
  have:((i:Int)+(m:Int)*1).toNat=i+m:=by omega
  rw[this]
 rw[e]
 have:=pick_run xs i k
 rw[List.filterMap_map]at this
 have e2:((λx=>xs[x]?) ∘ λx=>i+x)=λm=>xs[i+m]?:=rfl
 rw[e2]at this
 rw[this]
theorem getItem_tuple_cut{t sl:Addr}{items:Array Value}{vl vu:Value}{lo hi:Option Int}{Q:Value->Shared->Prop}(ht:IsTup s.heap t items)(hs:s.heap.IsSliceOf sl vl vu .none)(pl:IsPart vl lo)(pu:IsPart vu hi)
  (hw:¬(sIx items.size 0 lo=0/\sIx items.size items.size hi=items.size))
  (h:Q (.ref s.heap.objs.size) {s with heap:=s.heap.push {cls:=.type "tuple",data:=.seq ((items.toList.drop (sIx items.size 0 lo)).take (sIx items.size items.size hi-sIx items.size 0 lo)).toArray}})
  (hsz:items.size<=sizeLine):wpAny (model prog w) A (getItem (.ref t) (.ref sl)) Q E s:=by
 have htake:sizeOk (.seq ((items.toList.drop (sIx items.size 0 lo)).take (sIx items.size items.size hi-sIx items.size 0 lo)).toArray):=by
  show((items.toList.drop (sIx items.size 0 lo)).take (sIx items.size items.size hi-sIx items.size 0 lo)).toArray.size<=sizeLine
  rw[size_toArray,length_take,length_drop,length_toList]
  omega
 have hj:sIx items.size items.size hi<=items.size:=Tj _ _ (le_refl _) hi
 obtain⟨os,hos,hcs,hds⟩:=id hs
 have hTs:s.TypeIs (.ref sl) "slice":=⟨os,hos,hcs⟩
 unfold getItem
 try with_reducible refine wpAny_holding ?_
 first|refine wpAny_bind (wpAny_pure ?_)|skip
 refine wpAny_bind (wpAny_sequenceKey ht.typeIs (by decide) ?_)
 refine wpAny_bind (wpAny_callSpecial?_slot (name:=Str.ofString "__getitem__") ht.typeIs PyProof.Rows.slot_tuple_getitem
  (wpAny_call_entry PyProof.Rows.slot_tuple_getitem ht.typeIs entry_tuple_getitem ?_ (args_tuple_getitem _ _)))
 show wpAny _ _ (tupleItemsOf (.ref t)>>=_) _ _ s
 refine wpAny_bind (tupleItemsOf_ ht ?_)
 refine wpAny_bind (wpAny_typeOf hTs ?_)
 rw[if_pos (by decide)]
 refine wpAny_bind (Gw hs pl pu ?_)
 have hno:¬((((sIx items.size 0 lo:Nat):Int)==0&&(1:Int)==1&&(sIx items.size items.size hi-sIx items.size 0 lo)==items.size)=true):=by
  intro q
  rw[and_eq_true,and_eq_true]at q
  have q1:((sIx items.size 0 lo:Nat):Int)=0:=eq_of_beq q.1.1
  have q2:sIx items.size items.size hi-sIx items.size 0 lo=items.size:=eq_of_beq q.2
  exact hw ⟨by omega,by omega⟩
 show wpAny _ _ (if(((sIx items.size 0 lo:Nat):Int)==0&&(1:Int)==1&&(sIx items.size items.size hi-sIx items.size 0 lo)==items.size)=true then _ else _) _ _ s
 rw[if_neg hno,Py]
 first
  |exact wpAny_bind (m:=tupleExact _) (wpAny_newObj_type (wpAny_pure ⟨_,rfl,wpAny_pure h⟩) htake)
  |exact wpAny_bind (m:=tupleExact _) (wpAny_newObj_type (wpAny_bind (wpAny_pure (wpAny_pure ⟨_,rfl,wpAny_pure h⟩))) htake)
  |exact wpAny_bind (wpAny_bind (m:=tupleExact _) (wpAny_newObj_type (wpAny_pure (wpAny_pure ⟨_,rfl,wpAny_pure h⟩)) htake))
  |exact wpAny_bind (wpAny_bind (m:=tupleExact _) (wpAny_newObj_type (wpAny_pure ⟨_,rfl,wpAny_pure h⟩) htake))
end
end HT
namespace L2
open PySem PySem.Spec PyProof.Rows
abbrev TO:=St->Hp->(Option Int->Hp->Prop)->Prop
def PO(X:Cx)(e:Option Expr)(t:TO):Prop:=
 ∀(pins:List (Addr×Obj)) (s:Shared) (σ:St) (H:Hp) (Q:Option Int->Hp->Prop),Inv X pins σ H s->t σ H Q->
  wpAny (model X.prog X.w) X.A (evalPart e X.env) (λu s'=>∃o H',Inv X pins σ H' s'/\IsPart u o/\Q o H') X.xe s
def RM:TO:=λ_ H Q=>Q none H
def UW(t:TE):TO:=λσ H Q=>t σ H λx H1=>∃i,x=.int i/\Q (some i) H1
theorem intsAre_of{ns:List Int}:∀{us:List Value},Vals (ns.map V.int) us->IntsAre us ns:=by
 induction ns with
 |nil=>intro us r;rw[map_nil]at r;cases r;exact .nil
 |cons n ns ih=>
  intro us r
  rw[map_cons]at r
  cases r with
  |cons r1 r2=>
   obtain⟨t,e⟩:=r1
   subst e
   exact .cons n t (ih r2)
variable{X:Cx}{e:Expr}{pos:Pos}
section
variable{te:TE}{lo hi:Option Expr}{tl th:TO}{p2:Pos}
theorem Sq:PO X none RM:=by
 intro pins s σ H Q I h
 rw[evalPart_none]
 exact wpAny_pure ⟨none,H,I,.none,h⟩
theorem Sl(h:PE X e te):PO X (some e) (UW te):=by
 intro pins s σ H Q I hw
 rw[evalPart_some]
 refine thn (h pins s σ H _ I hw) λu s1 ⟨x,H1,I1,r1,q1⟩=>?_
 obtain⟨i,rfl,q⟩:=q1
 obtain⟨t,rfl⟩:=r1
 exact⟨some i,H1,I1,.int i t,q⟩
def SlR(X:Cx)(r:V->Option Int->Option Int->Hp->VK->Prop):Prop:=
 ∀(pins:List (Addr×Obj)) (s:Shared) (σ:St) (H:Hp) (x:V) (v vl vu:Value) (lo hi:Option Int) (sl:Addr) (Q:VK),Inv X pins σ H s->RelV x v->s.heap.IsSliceOf sl vl vu .none->IsPart vl lo->IsPart vu hi->r x lo hi H Q->
  ∃T id,typeLookup (.type T) "__getitem__"=pure (some (.builtin id))/\s.TypeIs v T/\wpAny (model X.prog X.w) X.A (getItem v (.ref sl)) (EP X pins σ Q) X.xe s
def tSl(r:V->Option Int->Option Int->Hp->VK->Prop)(te:TE)(tl th:TO):TE:=λσ H Q=>te σ H λx H1=>tl σ H1 λl H2=>th σ H2 λu H3=>r x l u H3 Q
theorem KG{r:V->Option Int->Option Int->Hp->VK->Prop}(hr:SlR X r)(he:PE X e te)(hl:PO X lo tl)(hu:PO X hi th):PE X (.Subscript e (.Slice lo hi none p2) pos) (tSl r te tl th):=by
 intro pins s σ H Q I h
 refine Subscript_ (thn (he pins s σ H _ I h) λv s1 ⟨x,H1,I1,r1,q1⟩=>?_)
 refine wpAny_Slice (thn (hl pins s1 σ H1 _ I1 q1) λvl s2 ⟨l,H2,I2,pl,q2⟩=>thn (hu pins s2 σ H2 _ I2 q2) λvu s3 ⟨u,H3,I3,pu,q3⟩=>?_)
 rw[evalPart_none]
 refine wpAny_pure ?_
 have I4:Inv X pins σ H3 {s3 with heap:=s3.heap.push {cls:=.type "slice",data:=.fields #[vl,vu,.none]}}:=I3.kept (t':=s3.toks) λb ob q=>get?_push_of_some _ q
 obtain⟨T,id,hT,ht,hg⟩:=hr pins {s3 with heap:=s3.heap.push {cls:=.type "slice",data:=.fields #[vl,vu,.none]}} σ H3 x v vl vu l u s3.heap.objs.size Q I4 r1 (Heap.IsSliceOf.new ..) pl pu q3
 show wpAny (model X.prog X.w) X.A (subscriptTail e (.Slice lo hi none p2) v (.ref s3.heap.objs.size)) (EP X pins σ Q) X.xe {s3 with heap:=s3.heap.push {cls:=.type "slice",data:=.fields #[vl,vu,.none]}}
 exact tail_any (ops:=[.ref s3.heap.objs.size,v]) ht hT hg (by with_unfolding_all rfl)
def cutV(xs:List V)(lo hi:Option Int):List V:=(xs.drop (HT.sIx xs.length 0 lo)).take (HT.sIx xs.length xs.length hi-HT.sIx xs.length 0 lo)
theorem GD(xs:List V)(lo hi:Option Int):(cutV xs lo hi).length<=xs.length:=by
 unfold cutV
 rw[length_take,length_drop]
 omega
def rSlT(K:Frag):V->Option Int->Option Int->Hp->VK->Prop:=λx lo hi H Q=>∃a xs,x=.ref a/\SqT K H a xs/\
 ¬(HT.sIx xs.length 0 lo=0/\HT.sIx xs.length xs.length hi=xs.length)/\∀p,H p=none->Q (.ref p) (upd H p (.tup (cutV xs lo hi)))
theorem Uv:SlR X (rSlT X.K):=by
 intro pins s σ H x v vl vu lo hi sl Q I rx hs pl pu h
 obtain⟨a,xs,rfl,hx,hw,q⟩:=h
 cases rx
 obtain⟨its,r,ht,hz⟩:=I.tuple hx
 have hlen:its.toArray.size=xs.length:=by rw[size_toArray];exact r.length.symm
 refine⟨"tuple",_,PyProof.Rows.slot_tuple_getitem.lookup,ht.typeIs,?_⟩
 refine HT.getItem_tuple_cut ht hs pl pu (by rw[hlen];exact hw) ?_ (by rw[hlen];exact hz)
 rw[hlen]
 refine⟨.ref s.heap.objs.size,_,I.laid (t':=s.toks) (o:=.tup (cutV xs lo hi)) (λb ob q=>get?_push_of_some _ q) (le_refl _) ?_,rfl,q _ (I.hok.fresh (le_refl _))⟩
 exact⟨le_trans (GD xs lo hi) hz,⟨_,(r.drop (HT.sIx xs.length 0 lo)).take (HT.sIx xs.length xs.length hi-HT.sIx xs.length 0 lo),IsTup.new _ _⟩,_,get?_push_size _ rfl,rfl⟩
def UU(K:Frag):R2:=λx y H Q=>∃a b xs ys,x=.ref a/\y=.ref b/\SqT K H a xs/\SqT K H b ys/\xs≠[]/\xs.length+ys.length<=sizeLine/\
 (ys=[]->Q (.ref a) H)/\(ys≠[]->∀p,H p=none->Q (.ref p) (upd H p (.tup (xs++ys))))
theorem Vals.nil_iff{xs:List V}{us:List Value}(r:Vals xs us):us=[]↔xs=[]:=by
 cases r with
 |nil=>simp
 |cons _ _=>simp
theorem op_catT:OpR X (binaryOp .Add) (UU X.K):=by
 intro pins s σ H x y v u Q I rx ry h
 obtain⟨a,b,xs,ys,rfl,rfl,ha,hb,hx,hz,q1,q2⟩:=h
 cases rx
 cases ry
 obtain⟨its,r1,p1,_⟩:=I.tuple ha
 obtain⟨its2,r2,p2,_⟩:=I.tuple hb
 refine HT.cat_tup p1 p2 (λz=>hx (r1.nil_iff.mp z)) (λz=>⟨.ref a,H,I,rfl,q1 (r2.nil_iff.mp z)⟩) (λz=>?_) (by rw[<-r1.length,<-r2.length];exact hz)
 refine⟨.ref s.heap.objs.size,_,I.laid (t':=s.toks) (o:=.tup (xs++ys)) (λb ob q=>get?_push_of_some _ q) (le_refl _) ?_,rfl,q2 (λw=>z (r2.nil_iff.mpr w)) _ (I.hok.fresh (le_refl _))⟩
 exact⟨by rw[length_append];exact hz,⟨_,r1.append r2,IsTup.new _ _⟩,_,get?_push_size _ rfl,rfl⟩
end
def ixN(n:Nat)(i:Int):Option Nat:=if 0<=i then(if i<n then some i.toNat else none)else if-(n:Int)<=i then some (i+n).toNat else none
def atI{α:Type}(xs:List α)(i:Int):Option α:=(ixN xs.length i).bind λj=>xs[j]?
variable{n:Nat}
theorem Na{i:Int}{j:Nat}(h:ixN n i=some j):seqIndex? i n=some j/\j<n/\-(n:Int)<=i/\i<n:=by
 unfold ixN at h
 by_cases h0:0<=i
 .rw[if_pos h0]at h
  by_cases h1:i<n
  .rw[if_pos h1]at h
   have e:i.toNat=j:=Option.some.inj h
   exact⟨by rw[seqIndex_of h0 h1,e],by omega,by omega,h1⟩
  .rw[if_neg h1]at h;cases h
 .rw[if_neg h0]at h
  by_cases h1:-(n:Int)<=i
  .rw[if_pos h1]at h
   have e:(i+n).toNat=j:=Option.some.inj h
   exact⟨by rw[seqIndex_neg (by omega) h1,e],by omega,h1,by omega⟩
  .rw[if_neg h1]at h;cases h
variable{α:Type}
theorem NF{xs:List α}{i:Int}{v:α}(h:atI xs i=some v):∃j,seqIndex? i xs.length=some j/\xs[j]?=some v/\j<xs.length/\-(xs.length:Int)<=i/\i<xs.length:=by
 unfold atI at h
 cases e:ixN xs.length i with
 |none=>rw[e]at h;cases h
 |some j=>
  rw[e]at h
  obtain⟨h1,h2,h3,h4⟩:=Na e
  exact⟨j,h1,h,h2,h3,h4⟩
theorem Sh{xs:List α}{j:Nat}{v:α}(h:xs[j]?=some v):atI xs (j:Int)=some v:=by
 have hj:j<xs.length:=(List.getElem?_eq_some_iff.mp h).1
 have e:ixN xs.length (j:Int)=some j:=by
  unfold ixN
  rw[if_pos (by omega),if_pos (by omega)];simp
 unfold atI;rw[e];exact h
theorem P7(xs:List α)(v:α):atI (xs++[v]) (-1)=some v:=by
 have hl:(xs++[v]).length=xs.length+1:=by simp
 have e:ixN (xs++[v]).length (-1)=some xs.length:=by
  unfold ixN
  rw[hl,if_neg (by decide),if_pos (by omega)]
  congr 1
  omega
 unfold atI
 rw[e]
 show(xs++[v])[xs.length]?=some v
 simp
def FF(b:Expr):Prop:=∀o i,subscripted b false o i=operate [o,i] (getItem o i)
def IxR(X:Cx)(r:R2):Prop:=
 ∀(value slice:Expr) (pins:List (Addr×Obj)) (s:Shared) (σ:St) (H:Hp) (x y:V) (v u:Value) (Q:VK),Inv X pins σ H s->RelV x v->RelV y u->r x y H Q->
  subscripted slice false v u=operate [v,u] (getItem v u)->wpAny (model X.prog X.w) X.A (subscriptTail value slice v u) (EP X pins σ Q) X.xe s
def MtR(X:Cx)(id:String)(r:V->List V->Hp->VK->Prop):Prop:=
 ∀(pins:List (Addr×Obj)) (s:Shared) (σ:St) (H:Hp) (x:V) (xs:List V) (v:Value) (us:List Value) (Q:VK),Inv X pins σ H s->RelV x v->Vals xs us->r x xs H Q->
  wpAny (model X.prog X.w) X.A (call (.builtin id) (v::us)) (EP X pins σ Q) X.xe s
variable{T:String}
section
variable{a b:Expr}{ta tb:TE}
theorem NG{r:R2}(hr:IxR X r)(ha:PE X a ta)(hb:PE X b tb)(hs:FF b):PE X (.Subscript a b pos) (tOp r ta tb):=by
 intro pins s σ H Q I h
 exact Subscript_ (binT ha hb I h λv u s2 x y H2 I2 rx ry q=>hr a b pins s2 σ H2 x y v u Q I2 rx ry q (hs _ _))
def rIxL(K:Frag):R2:=λx y H Q=>∃p xs i v,x=.ref p/\y=.int i/\SqL K H p xs/\atI xs i=some v/\Q v H
def rIxT(K:Frag):R2:=λx y H Q=>∃p xs i v,x=.ref p/\y=.int i/\SqT K H p xs/\atI xs i=some v/\Q v H
theorem Nw:IxR X (rIxL X.K):=by
 intro value slice pins s σ H x y v u Q I rx ry h hs
 obtain⟨p,xs,i,z,rfl,rfl,hq,he,q⟩:=h
 cases rx
 obtain⟨t,rfl⟩:=ry
 obtain⟨its,r,pl,hz⟩:=I.list hq
 obtain⟨j,h1,h2,h3,h4,h5⟩:=NF he
 obtain⟨w,ew,rw'⟩:=r.get h2
 have hl:=r.length
 have hn:=Hw
 have fin:EP X pins σ Q w s:=⟨z,H,I,rw',q⟩
 by_cases h0:0<=i
 .have hj:i.toNat=j:=by
   rw[seqIndex_of h0 h5]at h1
   exact Option.some.inj h1
  exact item_listR pl.isList h0 (by omega) (by rw[hj];simpa using ew) fin hs
 .have hj:(i+(its.toArray.size:Int)).toNat=j:=by
   rw[seqIndex_neg (by omega) h4]at h1
   rw[size_toArray,<-hl]
   exact Option.some.inj h1
  exact subscriptTail_builtinR (x:=w) pl.isList.typeIs slot_list_getitem.lookup
   (wpAny_getItem_list_neg (Q:=λr s'=>r=w/\EP X pins σ Q r s') pl.isList (by omega) (by rw[size_toArray]<;>omega) (by omega) (by rw[hj];simpa using ew) ⟨rfl,fin⟩) hs
theorem Tx:IxR X (rIxT X.K):=by
 intro value slice pins s σ H x y v u Q I rx ry h hs
 obtain⟨p,xs,i,z,rfl,rfl,hq,he,q⟩:=h
 cases rx
 obtain⟨t,rfl⟩:=ry
 obtain⟨its,r,pl,hz⟩:=I.tuple hq
 obtain⟨j,h1,h2,h3,h4,h5⟩:=NF he
 obtain⟨w,ew,rw'⟩:=r.get h2
 have hl:=r.length
 have hn:=Hw
 have fin:EP X pins σ Q w s:=⟨z,H,I,rw',q⟩
 exact subscriptTail_builtinR (x:=w) pl.typeIs slot_tuple_getitem.lookup
  (getItem_tuple (j:=j) (Q:=λr s'=>r=w/\EP X pins σ Q r s') pl (by omega) (by omega) (by rw[size_toArray,<-hl];exact h1) (by simpa using ew) ⟨rfl,fin⟩) hs
theorem LE(its:List Value)(n j:Nat)(u:Value):Obj.mapSeq (·.setIfInBounds j u) {cls:=.type "list",data:=.seq its.toArray n}={cls:=.type "list",data:=.seq (its.set j u).toArray n}:=by
 simp[Obj.mapSeq]
theorem Inv.lst{pins:List (Addr×Obj)}{σ:St}{H:Hp}{s:Shared}{p:Addr}{xs:List V}(I:Inv X pins σ H s)(h:H p=some (.lst xs)):
  ∃(its:List Value) (n:Nat),Vals xs its/\s.heap.get? p=some {cls:=.type "list",data:=.seq its.toArray n}/\xs.length<=sizeLine:=by
 obtain⟨z,its,n,r,e⟩:=I.hok p _ h
 exact⟨its,n,r,e,z⟩
theorem Inv.lstUpd{pins:List (Addr×Obj)}{σ:St}{H:Hp}{s:Shared}{p:Addr}{xs ys:List V}{its its':List Value}{n':Nat}{f:Obj->Obj}(I:Inv X pins σ H s)(h:H p=some (.lst xs))
  (ho:s.heap.get? p=some {cls:=.type "list",data:=.seq its.toArray n})(hf:f {cls:=.type "list",data:=.seq its.toArray n}={cls:=.type "list",data:=.seq its'.toArray n'})(r:Vals ys its')(hz:ys.length<=sizeLine)(t:Nat):
  Inv X pins σ (upd H p (.lst ys)) {s with heap:=s.heap.update p f,toks:=t}:=by
 have e:(s.heap.update p f).get? p=some {cls:=.type "list",data:=.seq its'.toArray n'}:=by
  rw[Heap.get?_update_self f ho (by rw[hf]<;>rfl),hf]
 refine I.write (x:=p) (e:=p) (by rw[h];trivial) (.inl rfl) (λb u hb q=>(Heap.get?_update_other _ _ (Ne.symm hb)).trans q) ⟨_,e⟩ ?_
 exact⟨hz,its',n',r,e⟩
def Vi:V->V->V->Hp->(Hp->Prop)->Prop:=λo i v H Q=>∃p xs k j,o=.ref p/\i=.int k/\H p=some (.lst xs)/\ixN xs.length k=some j/\Q (upd H p (.lst (xs.set j v)))
theorem set_list:PSet X Vi:=by
 intro pins s σ H o i v ov iv u Q I ro ri rv h
 obtain⟨p,xs,k,j,rfl,rfl,hp,hj,q⟩:=h
 cases ro
 obtain⟨t,rfl⟩:=ri
 obtain⟨its,n,r,ho,hz⟩:=I.lst hp
 obtain⟨h1,h2,h3,h4⟩:=Na hj
 have hl:=r.length
 have hn:=Hw
 have I':Inv X pins σ (upd H p (.lst (xs.set j v))) {s with heap:=s.heap.update p (Obj.mapSeq (·.setIfInBounds j u))}:=
  I.lstUpd hp ho (LE its n j u) (r.set rv j) (by rw[length_set];exact hz) s.toks
 by_cases h0:0<=k
 .have hk:k.toNat=j:=by
   rw[seqIndex_of h0 h4]at h1
   exact Option.some.inj h1
  exact PySem.W.ki_setAt ho h0 (by omega) (by rw[size_toArray,<-hl];exact h4) (by rw[hk];exact⟨_,I',q⟩)
 .have hk:(k+(its.toArray.size:Int)).toNat=j:=by
   rw[seqIndex_neg (by omega) h3]at h1
   rw[size_toArray,<-hl]
   exact Option.some.inj h1
  exact PySem.W.ki_setBack ho (by omega) (by rw[size_toArray,<-hl];exact h3) (by omega) (by rw[hk];exact⟨_,I',q⟩)
theorem JK(lo hi:Option Int)(n:Nat):(sliceBounds lo hi none n).1=((HT.sIx n 0 lo:Nat):Int)/\(sliceBounds lo hi none n).2.1=((HT.sIx n n hi:Nat):Int)/\(sliceBounds lo hi none n).2.2=1:=by
 refine⟨?_,?_,rfl⟩
 .cases lo with
  |none=>simp[sliceBounds,HT.sIx]
  |some i=>
   simp only[sliceBounds,HT.sIx,Option.getD_none,show(1:Int)>0 by decide,if_true]
   by_cases h:i<0
   .simp only[h,if_true]<;>omega
   .simp only[h,if_false]<;>omega
 .cases hi with
  |none=>simp[sliceBounds,HT.sIx]
  |some i=>
   simp only[sliceBounds,HT.sIx,Option.getD_none,show(1:Int)>0 by decide,if_true]
   by_cases h:i<0
   .simp only[h,if_true]<;>omega
   .simp only[h,if_false]<;>omega
theorem ID(its:List Value)(lo hi:Option Int):slicePick its.toArray lo hi none=((its.drop (HT.sIx its.length 0 lo)).take (HT.sIx its.length its.length hi-HT.sIx its.length 0 lo)).toArray:=by
 obtain⟨h1,h2,h3⟩:=JK lo hi its.toArray.size
 unfold slicePick
 rw[h1,h2,h3]
 simp only[sliceRange_one,pick_run,size_toArray]<;>rfl
def rSlL(K:Frag):V->Option Int->Option Int->Hp->VK->Prop:=λx lo hi H Q=>∃a xs,x=.ref a/\SqL K H a xs/\∀p,H p=none->Q (.ref p) (upd H p (.lst (cutV xs lo hi)))
theorem Rr:SlR X (rSlL X.K):=by
 intro pins s σ H x v vl vu lo hi sl Q I rx hs pl pu h
 obtain⟨a,xs,rfl,hx,q⟩:=h
 cases rx
 obtain⟨its,r,ht,hz⟩:=I.list hx
 have hlen:=r.length
 refine⟨"list",_,slot_list_getitem.lookup,ht.isList.typeIs,?_⟩
 refine wpAny_getItem_list_slice ht.isList hs pl pu .none (by simp) ?_ (by rw[size_toArray]<;>omega)
 rw[ID,<-hlen]
 refine⟨.ref s.heap.objs.size,_,I.laid (t':=s.toks) (o:=.lst (cutV xs lo hi)) (λb ob q=>get?_push_of_some _ q) (le_refl _) ?_,rfl,q _ (I.hok.fresh (le_refl _))⟩
 exact⟨le_trans (GD xs lo hi) hz,_,0,(r.drop (HT.sIx xs.length 0 lo)).take (HT.sIx xs.length xs.length hi-HT.sIx xs.length 0 lo),get?_push_size _ rfl⟩
def EO:V->Bool
 | .non=>true
 | .bl _=>true
 | .int _=>true
 | .str _=>true
 |_=>false
def eqV:V->V->Bool
 | .non,.non=>true
 | .bl a,.bl b=>a==b
 | .bl a,.int b=>(if a then 1 else 0)==b
 | .int a,.bl b=>a==(if b then 1 else 0)
 | .int a,.int b=>a==b
 | .str a,.str b=>a==b
 |_,_=>false
theorem Mg{A:Around}{s:Shared}{y x:V}{u v:Value}(ry:RelV y u)(rx:RelV x v)(fy:EO y=true)(fx:EO x=true):SeqAt.EqAt A s u v (eqV y x):=by
 cases y with
 |non=>
  cases ry
  cases x with
  |non=>cases rx;exact SeqAt.EqAt.same _
  |bl b=>cases rx;exact none_bool b
  |int b=>obtain⟨t,rfl⟩:=rx;exact none_int b t
  |str b=>obtain⟨t,rfl⟩:=rx;exact none_str b t
  |_=>exact absurd (show false=true from fx) Bool.false_ne_true
 |bl a=>
  cases ry
  cases x with
  |non=>cases rx;exact bool_none a
  |bl b=>cases rx;exact bool_bool a b
  |int b=>obtain⟨t,rfl⟩:=rx;exact bool_int a b t
  |str b=>obtain⟨t,rfl⟩:=rx;exact bool_str a b t
  |_=>exact absurd (show false=true from fx) Bool.false_ne_true
 |int a=>
  obtain⟨t',rfl⟩:=ry
  cases x with
  |non=>cases rx;exact int_none a t'
  |bl b=>cases rx;exact int_bool a t' b
  |int b=>obtain⟨t,rfl⟩:=rx;exact int_int a t' b t
  |str b=>obtain⟨t,rfl⟩:=rx;exact int_str a t' b t
  |_=>exact absurd (show false=true from fx) Bool.false_ne_true
 |str a=>
  obtain⟨t',rfl⟩:=ry
  cases x with
  |non=>cases rx;exact str_none a t'
  |bl b=>cases rx;exact str_bool a t' b
  |int b=>obtain⟨t,rfl⟩:=rx;exact str_int a t' b t
  |str b=>obtain⟨t,rfl⟩:=rx;exact str_str a t' b t
  |_=>exact absurd (show false=true from fx) Bool.false_ne_true
 |_=>exact absurd (show false=true from fy) Bool.false_ne_true
def eqU(x:V)(u:Value):Bool:=match u with
 | .none=>eqV .non x
 | .bool b=>eqV (.bl b) x
 | .int i _=>eqV (.int i) x
 | .str z _=>eqV (.str z) x
 |_=>false
theorem PV{x y:V}{u:Value}(r:RelV y u)(f:EO y=true):eqU x u=eqV y x:=by
 cases y with
 |non=>cases r;rfl
 |bl b=>cases r;rfl
 |int i=>obtain⟨t,rfl⟩:=r;rfl
 |str z=>obtain⟨t,rfl⟩:=r;rfl
 |_=>exact absurd (show false=true from f) Bool.false_ne_true
theorem F_{x:V}:∀{xs:List V}{us:List Value},Vals xs us->xs.all EO=true->us.any (eqU x)=xs.any λy=>eqV y x
 |_,_,.nil,_=>rfl
 |y::xs,u::us,.cons r t,f=>by
  rw[all_cons,and_eq_true]at f
  rw[any_cons,any_cons,PV r f.1,F_ t f.2]
theorem Ez{A:Around}{s:Shared}{x:V}{v:Value}(rx:RelV x v)(fx:EO x=true):∀{xs:List V}{us:List Value},Vals xs us->xs.all EO=true->∀u∈us,SeqAt.EqAt A s u v (eqU x u)
 |_,_,.nil,_=>λu hu=>by cases hu
 |y::xs,u::us,.cons r t,f=>λu' hu=>by
  rw[all_cons,and_eq_true]at f
  rcases mem_cons.mp hu with rfl|hu
  .rw[PV r f.1];exact Mg r rx f.1 fx
  .exact Ez rx fx t f.2 u' hu
def inV(x:V)(xs:List V):Bool:=xs.any λy=>eqV y x
def rIn(K:Frag)(neg:Bool):R2:=λx y H Q=>∃p xs,y=.ref p/\(SqL K H p xs\/SqT K H p xs)/\EO x=true/\xs.all EO=true/\Q (.bl (if neg then !inV x xs else inV x xs)) H
theorem op_in_seq:OpR X (compareOp .In) (rIn X.K false):=by
 intro pins s σ H x y v u Q I rx ry h
 obtain⟨p,xs,rfl,hq,fx,fs,q⟩:=h
 cases ry
 rcases hq with hq|hq
 .obtain⟨its,r,pl,hz⟩:=I.list hq
  refine SeqAt.in_listAt (eqU x) pl.isList (λw hw=>Ez rx fx r fs w (by simpa using hw)) ⟨.bl _,H,I,rfl,?_⟩
  rw[show its.toArray.any (eqU x)=its.any (eqU x) by simp,F_ r fs]
  exact q
 .obtain⟨its,r,pl,hz⟩:=I.tuple hq
  refine SeqAt.in_tupleAt (eqU x) pl (λw hw=>Ez rx fx r fs w (by simpa using hw)) ⟨.bl _,H,I,rfl,?_⟩
  rw[show its.toArray.any (eqU x)=its.any (eqU x) by simp,F_ r fs]
  exact q
theorem op_notIn_seq:OpR X (compareOp .NotIn) (rIn X.K true):=by
 intro pins s σ H x y v u Q I rx ry h
 obtain⟨p,xs,rfl,hq,fx,fs,q⟩:=h
 cases ry
 rcases hq with hq|hq
 .obtain⟨its,r,pl,hz⟩:=I.list hq
  refine SeqAt.notIn_listAt (eqU x) pl.isList (λw hw=>Ez rx fx r fs w (by simpa using hw)) ⟨.bl _,H,I,rfl,?_⟩
  rw[show its.toArray.any (eqU x)=its.any (eqU x) by simp,F_ r fs]
  exact q
 .obtain⟨its,r,pl,hz⟩:=I.tuple hq
  refine SeqAt.notIn_tupleAt (eqU x) pl (λw hw=>Ez rx fx r fs w (by simpa using hw)) ⟨.bl _,H,I,rfl,?_⟩
  rw[show its.toArray.any (eqU x)=its.any (eqU x) by simp,F_ r fs]
  exact q
theorem call_len_seq:CallR X (.builtin "len") (λxs H Q=>∃p ys,xs=[.ref p]/\(SqL X.K H p ys\/SqT X.K H p ys)/\Q (.int ys.length) H):=by
 intro pins s σ H xs us Q I r h
 obtain⟨p,ys,rfl,hq,q⟩:=h
 obtain⟨u,rfl,rx⟩:=vals1 r
 cases rx
 have hn:=Hw
 rcases hq with hq|hq
 .obtain⟨its,r',pl,hz⟩:=I.list hq
  have hlen:=r'.length
  exact Calls.call_len_list pl.isList (by simp only[size_toArray]<;>omega) ⟨.int ys.length,H,I.tok _,⟨s.toks+1,by rw[size_toArray,hlen]⟩,q⟩
 .obtain⟨its,r',pl,hz⟩:=I.tuple hq
  have hlen:=r'.length
  exact len_tuple pl (by simp only[size_toArray]<;>omega) ⟨.int ys.length,H,I.tok _,⟨s.toks+1,by rw[size_toArray,hlen]⟩,q⟩
theorem call_len_str:CallR X (.builtin "len") (λxs H Q=>∃z,xs=[.str z]/\z.length<=sizeLine/\Q (.int z.length) H):=by
 intro pins s σ H xs us Q I r h
 obtain⟨z,rfl,hz,q⟩:=h
 obtain⟨u,rfl,t,rfl⟩:=vals1 r
 have hn:=Hw
 exact len_str (by omega) ⟨.int z.length,H,I.tok _,⟨_,rfl⟩,q⟩
theorem call_list_of:CallR X (.type "list") (λxs H Q=>∃p ys,xs=[.ref p]/\(SqL X.K H p ys\/SqT X.K H p ys)/\∀l,H l=none->Q (.ref l) (upd H l (.lst ys))):=by
 intro pins s σ H xs us Q I r h
 obtain⟨p,ys,rfl,hq,q⟩:=h
 obtain⟨u,rfl,rx⟩:=vals1 r
 cases rx
 have fin:∀(its:List Value),Vals ys its->ys.length<=sizeLine->∀(h':Heap) (c':Nat),(∀b o',s.heap.get? b=some o'->h'.get? b=some o')->
   h'.get? s.heap.objs.size=some {cls:=.type "list",dict:=none,data:=.seq its.toArray c',slots:=#[]}->EP X pins σ Q (.ref s.heap.objs.size) {s with heap:=h'}:=λits r' hz h' c' kp e=>
  ⟨.ref s.heap.objs.size,_,I.laid (t':=s.toks) kp (le_refl _) (show ObjOk X.prog X.w _ h' _ (.lst ys)from⟨hz,its,c',r',e⟩),rfl,q _ (I.hok.fresh (le_refl _))⟩
 rcases hq with hq|hq
 .obtain⟨its,r',pl,hz⟩:=I.list hq
  have hlen:=r'.length
  obtain⟨o,ho,hc,n,hd⟩:=pl.isList
  exact call_list_seq p (.inl rfl) ho hc hd (λh' c' kp e=>fin its r' hz h' c' kp e) (by simp only[size_toArray]<;>omega)
 .obtain⟨its,r',pl,hz⟩:=I.tuple hq
  have hlen:=r'.length
  obtain⟨o,ho,hc,n,hd⟩:=pl
  exact call_list_seq p (.inr rfl) ho hc hd (λh' c' kp e=>fin its r' hz h' c' kp e) (by simp only[size_toArray]<;>omega)
theorem call_tuple_of:CallR X (.type "tuple") (λxs H Q=>∃p ys,xs=[.ref p]/\((SqL X.K H p ys/\∀l,H l=none->Q (.ref l) (upd H l (.tup ys)))\/(SqT X.K H p ys/\Q (.ref p) H))):=by
 intro pins s σ H xs us Q I r h
 obtain⟨p,ys,rfl,h⟩:=h
 obtain⟨u,rfl,rx⟩:=vals1 r
 cases rx
 rcases h with⟨hq,q⟩|⟨hq,q⟩
 .obtain⟨its,r',pl,hz⟩:=I.list hq
  have hlen:=r'.length
  refine call_tuple_list pl.isList (λh' kp=>?_) (by simp only[size_toArray]<;>omega)
  have I1:Inv X pins σ H {s with heap:=h'}:=I.kept (t':=s.toks) kp
  have I2:Inv X pins σ (upd H h'.objs.size (.tup ys)) {s with heap:=h'.push {cls:=.type "tuple",data:=.seq its.toArray}}:=
   I1.laid (t':=s.toks) (λb o e=>get?_push_of_some _ e) (le_refl _) (show ObjOk X.prog X.w _ _ _ (.tup ys)from⟨hz,⟨its,r',IsTup.new _ _⟩,_,get?_push_size _ rfl,rfl⟩)
  exact⟨.ref h'.objs.size,_,I2,rfl,q _ (I1.hok.fresh (le_refl _))⟩
 .obtain⟨its,r',pl,hz⟩:=I.tuple hq
  exact call_tuple_same pl ⟨.ref p,H,I,rfl,q⟩
def tyV(K:Frag)(T:String)(x:V)(H:Hp):Prop:=match x with
 | .str _=>T="str"
 | .int _=>T="int"
 | .ref p=>(T="list"/\∃xs,SqL K H p xs)\/(T="tuple"/\∃o,K.lookup p=some o/\o.cls=.type "tuple"/\o.dict=none)\/
   (T="dict"/\((∃kvs,H p=some (.dK kvs))\/∃kvs,H p=some (.dT kvs)))\/(T="set"/\∃S n,H p=some (.set S n))
 |_=>False
theorem U1{pins:List (Addr×Obj)}{σ:St}{H:Hp}{s:Shared}{T:String}{x:V}{v:Value}(I:Inv X pins σ H s)(r:RelV x v)(ty:tyV X.K T x H):
  s.TypeIs v T/\∀a,v=.ref a->∃ob,s.heap.get? a=some ob/\ob.dict=none:=by
 cases x with
 |str z=>
  obtain⟨t,rfl⟩:=r
  cases(show T="str"from ty)
  exact⟨typeIs_str s z t,λ_ e=>nomatch e⟩
 |int i=>
  obtain⟨t,rfl⟩:=r
  cases(show T="int"from ty)
  exact⟨typeIs_int s i t,λ_ e=>nomatch e⟩
 |ref p=>
  cases r
  rcases ty with⟨rfl,xs,hq⟩|⟨rfl,o,hk,hc,hd⟩|⟨rfl,hk⟩|⟨rfl,S,n,hk⟩
  .obtain⟨its,_,pl,_⟩:=I.list hq
   refine⟨pl.isList.typeIs,λa e=>?_⟩
   cases e
   obtain⟨o,n,e,c,hd,_⟩:=pl
   exact⟨o,e,hd⟩
  .refine⟨⟨o,I.kIn p o hk,hc⟩,λa e=>?_⟩
   cases e
   exact⟨o,I.kIn _ o hk,hd⟩
  .have z:∃o,s.heap.get? p=some o/\o.ExactDict:=by
    rcases hk with⟨kvs,hk⟩|⟨kvs,hk⟩
    .obtain⟨_,_,_,_,o,_,_,e,ex,_⟩:=I.hok p _ hk
     exact⟨o,e,ex⟩
    .obtain⟨_,_,_,_,o,_,_,e,ex,_⟩:=I.hok p _ hk
     exact⟨o,e,ex⟩
   obtain⟨o,e,ex⟩:=z
   refine⟨⟨o,e,ex.1⟩,λa e2=>?_⟩
   cases e2
   exact⟨o,e,ex.2.1⟩
  .obtain⟨o,_,_,_,e,ex,_⟩:=I.hok p _ hk
   refine⟨⟨o,e,ex.1⟩,λa e2=>?_⟩
   cases e2
   exact⟨o,e,ex.2.1⟩
 |_=>exact False.elim ty
def tBM(K:Frag)(T:String)(r:V->List V->Hp->VK->Prop)(to:TE)(t:TA):TE:=λσ H Q=>to σ H λx H1=>tyV K T x H1/\t σ H1 λxs H2=>r x xs H2 Q
variable{o:Expr}{es:List Expr}{to:TE}{t:TA}{name:Str}{apos cpos:Pos}{id:String}{r:V->List V->Hp->VK->Prop}
theorem HC(pa:PlainAttrs T)(slot:Slot T name id)(hty:typeOf (.builtin id)=pure (.type "method_descriptor"))(hm:MtR X id r)(ho:PE X o to)(ha:PA X (e::es) t)
  (hbase:attributeBase o name X.env (eval o X.env)=eval o X.env:=by rfl)
  (hfew:((backTo cpos (starEach (e::es) X.env)).all (λx=>!x.1)&&(backToKw cpos (keywordEach [] X.env)).all (λx=>x.1.isSome)
   &&decide ((e::es).length+([]:List Keyword).length+(if([]:List Keyword).isEmpty then 0 else 1)<30))=true:=by rfl)
  (hline:(apos.endLine==cpos.line)=true:=by rfl)(hs:Zst X e es:=by rfl)(hplain:(backTo cpos (starEach es X.env)).any (·.1)=false:=by rfl):
  PE X (.Call (.Attribute o name apos) (e::es) [] cpos) (tBM X.K T r to t):=by
 intro pins s σ H Q I h
 refine wpAny_Call_method_late hbase hfew hline rfl (thn (ho pins s σ H _ I h) λv s1 ⟨x,H1,I1,r1,ty,q1⟩=>?_)
 obtain⟨h1,h2⟩:=U1 I1 r1 ty
 refine⟨T,id,pa,slot,hty,h1,h2,?_⟩
 have hA:=ha cpos pins s1 σ H1 _ I1 q1
 rw[hs]at hA ⊢
 refine Calls.callWith_builtin (by show(false||(backTo cpos (starEach es X.env)).any (·.1))=false;rw[hplain]<;>rfl) (Calls.evalArgs_plain ?_)
 exact thn hA λus s2 ⟨vs,H2,I2,r2,q2⟩=>hm pins s2 σ H2 x vs v us Q I2 r1 r2 q2
end
def MtM(X:Cx)(id:String)(r:V->List V->Hp->VK->Prop):Prop:=
 ∀(pins:List (Addr×Obj)) (s:Shared) (σ:St) (H:Hp) (x:V) (xs:List V) (v:Value) (us:List Value) (Q:VK),Inv X pins σ H s->RelV x v->Vals xs us->r x xs H Q->
  wpAny (model X.prog X.w) X.A (call (.builtin id) (v::us)) (EP X pins σ Q) X.xe s
theorem Vals.one:∀{x:V}{us:List Value},Vals [x] us->∃u,us=[u]/\RelV x u
 |_,_,.cons r .nil=>⟨_,rfl,r⟩
variable{xs:List V}
theorem Vals.rep{us:List Value}(h:Vals xs us):∀k:Nat,Vals (List.replicate k xs).flatten (List.replicate k us).flatten
 |0=>.nil
 |k+1=>by
  rw[List.replicate_succ,List.replicate_succ,List.flatten_cons,List.flatten_cons]
  exact Vals.append h (Vals.rep h k)
theorem foldl_rep(its:List Value):∀(k:Nat) (acc:List Value),
  foldl (λx1 x2=>x1++x2) acc.toArray (replicate k its.toArray)=(acc++(replicate k its).flatten).toArray
 |0,acc=>by simp
 |k+1,acc=>by
  have e:acc.toArray++its.toArray=(acc++its).toArray:=by simp
  have e2:(acc++its)++(replicate k its).flatten=acc++(replicate (k+1) its).flatten:=by
   rw[replicate_succ,flatten_cons,append_assoc]
  rw[<-e2,<-foldl_rep its k (acc++its),<-e,replicate_succ,List.foldl_cons]
variable{pins:List (Addr×Obj)}{σ:St}{H:Hp}{s:Shared}{ys:List V}
section
variable{l b:Addr}{zs:List V}
theorem Inv.lset{its its':List Value}{f:Array Value->Array Value}{t':Nat}(I:Inv X pins σ H s)(hH:H l=some (.lst xs))
  (e:s.heap.get? l=some {cls:=.type "list",data:=.seq its.toArray n})(hf:f its.toArray=its'.toArray)(hv:Vals ys its')(hz:ys.length<=sizeLine):
  Inv X pins σ (upd H l (.lst ys)) {s with heap:=s.heap.update l (Obj.mapSeq f),toks:=t'}:=by
 have q:=PySem.IsL.update e f
 rw[hf]at q
 refine I.write (x:=l) (e:=l) (by rw[hH];exact trivial) (.inl rfl) (λb' u hb hu=>(Heap.get?_update_other s.heap (Obj.mapSeq f) (Ne.symm hb)).trans hu) ⟨_,q⟩ ?_
 exact⟨hz,its',_,hv,q⟩
theorem Inv.lnew{its:List Value}{t':Nat}(I:Inv X pins σ H s)(hv:Vals ys its)(hz:ys.length<=sizeLine):
  Inv X pins σ (upd H s.heap.objs.size (.lst ys)) {s with heap:=s.heap.push {cls:=.type "list",data:=.seq its.toArray},toks:=t'}:=
 I.laid (λ_ _ q=>Heap.get?_push_of_some _ q) (Nat.le_refl _) ⟨hz,its,0,hv,Heap.get?_push_size _ rfl⟩
theorem Inv.lstM(I:Inv X pins σ H s)(hH:H l=some (.lst xs)):xs.length<=sizeLine/\∃(its:List Value) (n:Nat),Vals xs its/\xs.length=its.length/\s.heap.get? l=some {cls:=.type "list",data:=.seq its.toArray n}:=by
 obtain⟨z,its,n,r,e⟩:=I.hok l _ hH
 exact⟨z,its,n,r,r.length,e⟩
theorem P_(h:n<=sizeLine):Builtin.List.listTooLong n=false:=by
 unfold Builtin.List.listTooLong
 exact decide_eq_false (by omega)
end
def Sk:V->List V->Hp->VK->Prop:=λx vs H Q=>∃l xs y,x=.ref l/\vs=[y]/\H l=some (.lst xs)/\xs.length<sizeLine/\Q .non (upd H l (.lst (xs++[y])))
theorem DA:MtM X "list.append" Sk:=by
 intro pins s σ H x vs v us Q I rx rv h
 obtain⟨l,xs,y,rfl,rfl,hH,hz,q⟩:=h
 cases rx
 obtain⟨u,rfl,ru⟩:=rv.one
 obtain⟨z,its,n,r,hl,e⟩:=I.lstM hH
 refine call_meets F.slot_list_append ⟨_,e,rfl⟩ F.entry_list_append (F.args_list_append_2 _ _) (PySem.list_append l its.toArray n u (by rw[size_toArray];omega)) ⟨e,?_⟩
 refine⟨.non,_,I.lset (its':=its++[u]) hH e (by simp) (r.append (.cons ru .nil)) ?_,rfl,q⟩
 rw[length_append,List.length_singleton]
 omega
theorem len_rep(xs:List α)(k:Nat):(replicate k xs).flatten.length=k*xs.length:=by
 induction k with
 |zero=>simp
 |succ k ih=>rw[replicate_succ,flatten_cons,length_append,ih,Nat.succ_mul,add_comm]
variable{A:Around}
section
variable{prog:Program}{w:World}{E:Value->Shared->Prop}
end
end L2
namespace Att
open PySem PySem.W PySem.Calls PyProof.Rows
theorem GK{P:Params}{h:Heap}:∀(ns:List Int) (vs:List Value),WellAll P h vs (ns.map WData.int)->IntsAre vs ns:=by
 intro ns
 induction ns with
 |nil=>
  intro vs w
  rw[map_nil]at w
  cases w
  exact .nil
 |cons n ns ih=>
  intro vs w
  rw[map_cons]at w
  cases w with
  |cons a b=>
   cases a
   exact .cons _ _ (ih _ b)
theorem OH{l:OpenLaw}{n:Nat}(hn:l.most=some n){P:Params}{h:Heap}{args:List WData}{vals:List Value}
  (hpre:l.row.toRowW.claim.pre args=true)(hwl:WellAll P h vals args):
  ∃a vs ns,vals=[Value.ref a]/\args=[WData.list (ns.map WData.int)]/\h.get? a=some {cls:=.type "list",data:=.seq vs.toArray}/\IntsAre vs ns/\ns.length<=n:=by
 have hsh:WShape.hasAll [] args [.list .int]=true:=(pre_splitW hpre).1
 have hc:l.pre.holds [] {args:=args}=true:=(pre_splitW hpre).2
 obtain⟨d,r,rfl,h1,h2⟩:=hasAllW_cons hsh
 obtain rfl:=hasAllW_nil h2
 obtain⟨xs,rfl,h3⟩:=hasW_list h1
 obtain⟨ns,rfl⟩:=items_int h3
 have hlen:ns.length<=n:=by
  unfold OpenLaw.pre at hc
  have h4:(WTm.not (.lt (.lit (.int (n:Int))) (.len (.arg 0)))).holds [] {args:=[.list (ns.map .int)]}=true:=by
   have h4:=(holds_andW hc).1
   rw[hn]at h4
   exact h4
  have h5:=condW_of h4 (w_not (w_lt w_lit (w_len_list (w_arg rfl))))
  rw[length_map]at h5
  refine Nat.le_of_not_lt λq=>?_
  have q':(n:Int)<((ns.length:Nat):Int):=by omega
  first
   |(rw[decide_eq_true q']at h5;exact absurd h5 (by decide))
   |(simp at h5;omega)
 cases hwl with
 |cons w1 w2=>
  cases w2
  cases w1 with
  |list ho hall=>exact⟨_,_,ns,rfl,rfl,ho,GK ns _ hall,hlen⟩
theorem Om(l:OpenLaw)(args:List WData):l.row.toRowW.claim.post args (.bool true) args=true:=
 postW_of (r:=l.row.toRowW) (X:=(true==true))
  (show WShape.has [] (.bool true) .bool=true by first|rfl|decide|simp[WShape.has,WShape.arms,WShape.armsAll])
  (show(WTm.eq .res (.lit (.bool true))).value [] {args:=args,res:=some (.bool true),after:=args}=some (.bool (true==true))from w_eq_bool (w_res rfl) w_lit) rfl
theorem attach_call{l:OpenLaw}{n:Nat}{q:Program}{loose:List Str}{XP:(Str->Option Value)->Heap->Prop}{YP:World->Heap->Prop}{d:DefRec}
  (hn:l.most=some n)(hdf:d.params.defaults=[])
  (call:∀(w:World) (s₀ s₁:Shared) (mg mb:Str->Option Value) (fa:Addr) (o:Obj) (pm cd doc:Value) (a:Addr) (vs:List Value) (ns:List Int),
   Ground q loose [] XP w s₀ mg mb s₁.heap->YP w s₁.heap->
   s₁.heap.get? fa=some o->o.data=.func (docDef d.name d.params d.body d.scope pm cd doc)->s₁.heap.CodeRec cd d.name->mg d.name=some (.ref fa)->
   s₁.heap.get? a=some {cls:=.type "list",data:=.seq vs.toArray}->IntsAre vs ns->ns.length<=n->s₁.gens=#[]->
   codeAny (model l.prog w) callerA (.call (.ref fa) ⟨[.ref a],[]⟩) (λr s'=>r=.ok (.ret (.bool true))/\OldK s₁.heap s'.heap/\s'.os=s₁.os/\AllBare s'.gens) s₁):
  WalkO q loose XP YP l.row.toRowW d [] (λf vs=>PySem.call f vs):=by
 intro w s₀ s₁ mg mb G Y fa o pm cd doc dV kV ho hd hcd hD hmg hg args vals as hpre hlay hrd hwl hlo
 obtain rfl:dV=.none:=Dflts.none hD hdf
 obtain rfl:kV=.none:=Dflts.noKw hD
 obtain⟨a,vs,ns,rfl,rfl,hobj,hints,hlen⟩:=OH hn hpre hwl
 refine enter_call (codeAny_mono (call w s₀ s₁ mg mb fa o pm cd doc a vs ns G Y ho (fd_plain hd) hcd hmg hobj hints hlen hg) λr s' hq=>?_)
 obtain⟨rfl,h2,h3,h4⟩:=hq
 exact⟨.inl ⟨.bool true,.bool true,[],rfl,λ_=>rfl,.bool true,Om l _,λ_=>⟨List.Pairwise.nil,λ_ hm=>(nomatch hm)⟩⟩,h2,h3,h4⟩
section
variable{prog:Program}{w:World}{A:Around}{E:Value->Shared->Prop}{s:Shared}{K:Frag}
end
end Att
namespace L2
open PySem PySem.Spec PyProof.Rows
theorem IZ:∀{vs:List Value}{ns:List Int},IntsAre vs ns->Vals (ns.map V.int) vs
 |_,_,.nil=>.nil
 |_,_,.cons n t h=>.cons ⟨t,rfl⟩ (IZ h)
def Only(H:Hp):Prop:=∀b,H b=none\/∃o xs,H b=some (.frz o (.lst xs))
variable{P:Program}{w:World}{K:Frag}{mg:Str->Option Value}{a:Addr}{fd:FuncData}{x:Str}
theorem Q3{mb:Str->Option Value}{CX:CXT}{k:Nat}{fa:Addr}{sp:Sp}{s₁:Shared}{vs:List Value}{ns:List Int}
  (KX:K.In s₁.heap)(hns:s₁.heap.Ns mainGlobals mg)(hb:s₁.heap.Ns builtinsNs mb)(hbb:∀x:Str,x≠"__name__"->mb x=bootBuiltins x)(hlim:s₁.heap.NoLimit)(hg:s₁.gens=#[])
  (ha:s₁.heap.get? a=some {cls:=.type "list",data:=.seq vs.toArray})(hi:IntsAre vs ns)(hl:ns.length<=sizeLine)(hr:Room k callerA)
  (F:∀base:Heap,K.In base->base.Ns mainGlobals mg->FnOk P w K mg base CX k fa fd [x] sp)(hbind:∀(s:Shared) (u:Value),BindsTo s fd ⟨[u],[]⟩ [(x,u)])
  (hsp:∀H:Hp,Only H->SqL K H a (ns.map V.int)->sp [.ref a] H (λv _=>v=.bl true) λ_ _ _=>False)
  (hCX:∀H e s',CX [] H s₁ (λ_ _ _=>False) e s'->False):
  codeAny (model P w) callerA (.call (.ref fa) ⟨[.ref a],[]⟩) (λr s'=>r=.ok (.ret (.bool true))/\OldK s₁.heap s'.heap/\s'.os=s₁.os/\AllBare s'.gens) s₁:=by
 have rv:=IZ hi
 have lenV:=hi.length
 have core:∀H:Hp,Only H->SqL K H a (ns.map V.int)->HOk P w H s₁.heap->(∀b,H b≠none->b=a)->(H a≠none->K.lookup a=none)->
   codeAny (model P w) callerA (.call (.ref fa) ⟨[.ref a],[]⟩) (λr s'=>r=.ok (.ret (.bool true))/\OldK s₁.heap s'.heap/\s'.os=s₁.os/\AllBare s'.gens) s₁:=by
  intro H hO hS hok hA hK
  have base_of:∀{b:Addr}{o:Obj},s₁.heap.get? b=some o->H b=none->(hidT s₁.heap H).get? b=some o:=λe n=>Pn e n
  have noA:∀{b:Addr}{o:Obj}{es:Array DictEntry}{ep:Nat},s₁.heap.get? b=some o->o.data=.dict es ep->H b=none:=λ{b o es ep} e d=>by
   cases q:H b with
   |none=>rfl
   |some u=>
    have e':b=a:=hA b (by rw[q];simp)
    subst e'
    rw[ha]at e;cases e
    have d':Data.seq vs.toArray _=Data.dict es ep:=d
    cases d'
  have nsK:∀{b:Addr}{m:Str->Option Value},s₁.heap.Ns b m->(hidT s₁.heap H).Ns b m:=λ{b m} ⟨o,es,ep,e,d,r⟩=>⟨o,es,ep,base_of e (noA e d),d,r⟩
  have hKb:K.In (hidT s₁.heap H):=λb o e=>base_of (KX b o e) (by
   cases q:H b with
   |none=>rfl
   |some u=>
    have e':b=a:=hA b (by rw[q];simp)
    subst e'
    rw[hK (by rw[q];simp)]at e;cases e)
  have hM:Mod K mg (hidT s₁.heap H):=⟨hKb,nsK hns,⟨mb,nsK hb,hbb⟩,let⟨mc,h1,h2⟩:=hlim;⟨mc,nsK h1,h2⟩⟩
  have e0:Env0 P w K mg (hidT s₁.heap H) callerA [] s₁ H:=⟨rfl,hM,λb o e=>Rz e,Nat.le_of_eq (OC _ _),trivial,λb hb=>absurd (show b∈([]:List Addr)from hb) (by simp),hok,.of_eq hg⟩
  refine codeAny_mono ((F _ hKb (nsK hns)).run callerA [] s₁ H ⟨[.ref a],[]⟩ [.ref a] [.ref a] _ _ hr e0 (hbind s₁ (.ref a)) (.cons rfl .nil) (hsp H hO hS)) λr s' h=>?_
  cases r with
  |error e=>exact(hCX H e s' h).elim
  |ok fl=>
   cases fl with
   |next=>exact False.elim h
   |brk=>exact False.elim h
   |cont=>exact False.elim h
   |ret u=>
    obtain⟨v,H',os,bare,un,hok',r',q⟩:=h
    have q':v=.bl true:=q
    subst q'
    obtain rfl:u=Value.bool true:=r'
    refine⟨rfl,OldK.of_keep λb o e=>?_,os,bare⟩
    cases q:H b with
    |none=>exact un.keep b o e q (by intro z;exact absurd (show b∈([]:List Addr)from z) (by simp)) (by simp)
    |some u=>
     rcases hO b with z|⟨ob,xs,z⟩
     .rw[q]at z;cases z
     .have z2:=un.frzs b ob _ z
      obtain⟨e1,_⟩:=hok b _ z
      obtain⟨e2,_⟩:=hok' b _ z2
      rw[e]at e1;cases e1
      exact e2
 cases hk:K.lookup a with
 |some o=>
  have e:=KX a o hk
  rw[ha]at e
  cases e
  refine core (λ_=>none) (λ_=>.inl rfl) (.inr ⟨_,vs.toArray,_,hk,rfl,rfl,rfl,by rw[size_toArray,lenV];exact hl,by simpa using rv⟩) (λb u z=>by have z':(none:Option HO)=some u:=z;cases z') (λb z=>absurd rfl z) λz=>absurd rfl z
 |none=>
  refine core (λb=>if b=a then some (.frz {cls:=.type "list",data:=.seq vs.toArray} (.lst (ns.map V.int)))else none) (λb=>?_) (.inl (.inr ⟨{cls:=.type "list",data:=.seq vs.toArray},if_pos rfl⟩)) (λb u z=>?_) (λb z=>?_) λ_=>hk
  .by_cases hb:b=a
   .exact .inr ⟨_,_,if_pos hb⟩
   .exact .inl (if_neg hb)
  .by_cases hb:b=a
   .have z':=(if_pos hb).symm.trans z
    cases z'
    subst hb
    exact⟨ha,by rw[length_map];exact hl,vs,_,rv,ha⟩
   .have z':=(if_neg hb).symm.trans z
    cases z'
  .by_cases hb:b=a
   .exact hb
   .exact absurd (if_neg hb) z
theorem walk_of{l:PySem.W.OpenLaw}{n k:Nat}{q:Program}{loose:List Str}{XP:(Str->Option Value)->Heap->Prop}{YP:World->Heap->Prop}{d:DefRec}{K:Params->Frag}{CX:World->CXT}{sp:World->Sp}
  (hn:l.most=some n)(hn2:n<=sizeLine)(hdf:d.params.defaults=[])(hr:Room k callerA)
  (hY:∀(w:World) (h:Heap),YP w h->(K w.params).In h)
  (F:∀(w:World) (mg:Str->Option Value) (fa:Addr) (h:Heap),(K w.params).In h->h.Ns mainGlobals mg->mg d.name=some (.ref fa)->
   ∃fd:FuncData,(∀(s:Shared) (u:Value),BindsTo s fd ⟨[u],[]⟩ [(x,u)])/\
    ∀base:Heap,(K w.params).In base->base.Ns mainGlobals mg->FnOk l.prog w (K w.params) mg base (CX w) k fa fd [x] (sp w))
  (hsp:∀(w:World) (H:Hp) (a:Addr) (ns:List Int),ns.length<=n->Only H->SqL (K w.params) H a (ns.map V.int)->sp w [.ref a] H (λv _=>v=.bl true) λ_ _ _=>False)
  (hCX:∀(w:World) (H:Hp) (s:Shared) (e:Value) (s':Shared),CX w [] H s (λ_ _ _=>False) e s'->False):
  PySem.W.WalkO q loose XP YP l.row.toRowW d [] (λf vs=>PySem.call f vs):=by
 refine Att.attach_call hn hdf λw s₀ s₁ mg mb fa o pm cd doc a vs ns G Y ho hd hcd hmg hobj hints hlen hg=>?_
 have KX:=hY w _ Y
 obtain⟨fd,hb,hF⟩:=F w mg fa _ KX G.T.g hmg
 exact Q3 KX G.T.g G.T.b G.T.builtins G.T.nolimit hg hobj hints (le_trans hlen hn2) hr hF hb (λH hO hS=>hsp w H a ns hlen hO hS) λH e s'=>hCX w H s₁ e s'
def inClass(s:Stmt)(j:Nat):Stmt:=match s with
 | .ClassDef _ _ _ body _ _ _ _ _ _ _=>body.getD j (.Pass ⟨0,0,0,0⟩)
 |_=>.Pass ⟨0,0,0,0⟩
def DW(s:Stmt):Arguments:=match s with
 | .FunctionDef _ a _ _ _ _ _ _ _ _=>a
 |_=>{posonlyargs:=[],args:=[],vararg:=none,kwonlyargs:=[],kw_defaults:=[],kwarg:=none,defaults:=[]}
def AN(s:Stmt):List Stmt:=match s with
 | .FunctionDef _ _ b _ _ _ _ _ _ _=>b
 |_=>[]
def Ae(s:Stmt):Scope:=match s with
 | .FunctionDef _ _ _ _ _ _ sc _ _ _=>sc
 |_=>{kind:=.function,names:=[],isGenerator:=false,isCoroutine:=false}
abbrev CX0:CXT:=λ_ _ _ _ _ _=>False
abbrev E0:XK:=λ_ _ _=>False
variable{X:Cx}
theorem Cs:Fe CX0 X E0:=λ_ _ _ _ _ _ _ h=>h.elim
structure Fun(K:Frag)(x qual:Str)(st:Stmt)(f:Addr)(fd:FuncData):Prop where
 ex:∃(oc:Value) (od:Option Addr) (kV doc pm:Value) (an:Option Addr) (cdv ct:Value) (osl:Array (Option Value)),
  fd=fnOf x qual (DW st) (AN st) (Ae st) .none kV doc pm an cdv ct/\K.lookup f=some ⟨oc,od,.func fd,osl⟩/\codeIn K cdv qual=true
 kp:keepIn K (.ref f)=true
variable{base:Heap}
theorem Fun.ok{qual:Str}{st:Stmt}{f:Addr}{N ps:List Str}{k:Nat}{sp:Sp}(F:Fun K x qual st f fd)(S:FnScope N ps (Ae st))(len:∀vs H Q E,sp vs H Q E->vs.length=ps.length)
  (hbody:∀(cdv:Value) (A:Around) (outer:List Env) (s:Shared) (H:Hp) (vs:List V) (Q:VK) (E:XK),Room k (A.deeper (envOfC qual (Ae st) s.heap.objs.size f cdv))->sp vs H Q E->
   ∃t,PSs (cxOf CX0 P w K mg base N qual (Ae st) f cdv A outer s H E).nox (AN st) t/\t {nx:=λ_ H'=>Q .non H',rt:=Q} (start N vs) H):FnOk P w K mg base CX0 (k+1) f fd ps sp:=by
 obtain⟨oc,od,kV,doc,pm,an,cdv,ct,osl,rfl,lk,hcd⟩:=F.ex
 refine Vk lk hcd S len λA outer s H vs Q E hr hsp=>?_
 obtain⟨t,h,q⟩:=hbody cdv A outer s H vs Q E hr hsp
 exact⟨t,h.nox,q⟩
theorem Fun.binds{qual:Str}{st:Stmt}{f:Addr}{ps:List Str}(F:Fun K x qual st f fd)
  (h:∀(kV doc pm:Value) (an:Option Addr) (cdv ct:Value) (us:List Value),us.length=ps.length->bindArgs (PySem.W.fnOf x qual (DW st) (AN st) (Ae st) .none kV doc pm an cdv ct) ⟨us,[]⟩=pure (ps.zip us)):Binds K fd ps []:=by
 obtain⟨oc,od,kV,doc,pm,an,cdv,ct,osl,rfl,lk,hcd⟩:=F.ex
 exact .all (h kV doc pm an cdv ct)
theorem Mt{qual:Str}{st:Stmt}{f:Addr}{oc:Value}{od an:Option Addr}{osl:Array (Option Value)}{kV doc pm cdv ct:Value}(l:K.lookup f=some ⟨oc,od,.func (fnOf x qual (DW st) (AN st) (Ae st) .none kV doc pm an cdv ct),osl⟩)
  (c:codeIn K cdv qual=true)(k:keepIn K (.ref f)=true):Fun K x qual st f (fnOf x qual (DW st) (AN st) (Ae st) .none kV doc pm an cdv ct):=⟨⟨oc,od,kV,doc,pm,an,cdv,ct,osl,rfl,l,c⟩,k⟩
theorem pv(i:Nat){pos:Pos}(hN:X.N[i]?=some x:=by rfl)(hv:Vis X.env.scope x:=by first|exact inl rfl|exact Or.inr (inl rfl)|exact Or.inr (Or.inr rfl))(hd:(x==("__debug__":Str))=false:=by decide)
  (hcd:(x==("__classdict__":Str))=false:=by decide):PE X (.Name x pos) (tVar i):=Um hN hv hd hcd
theorem iteF{A B:Prop}(h:B):if false=true then A else B:=by
 rw[if_neg Bool.false_ne_true]
 exact h
theorem iteT{A B:Prop}(h:A):if true=true then A else B:=by
 rw[if_pos rfl]
 exact h
def Same(H H':Hp):Prop:=∀b o,H b=some o->H' b=some o
theorem Same.refl(H:Hp):Same H H:=λ_ _ h=>h
variable{H:Hp}
theorem Same.trans{H1 H2:Hp}(a:Same H H1)(b:Same H1 H2):Same H H2:=λc o h=>b c o (a c o h)
variable{H':Hp}
theorem Same.free(e:Same H H'){l:Addr}(h:H' l=Option.none):H l=Option.none:=by
 cases q:H l with
 |none=>rfl
 |some o=>
  rw[e l o q]at h
  cases h
theorem Same.seq{xs:List V}(e:Same H H')(h:SqL K H a xs):SqL K H' a xs:=by
 rcases h with(h|⟨o,h⟩)|h
 .exact .inl (.inl (e _ _ h))
 .exact .inl (.inr ⟨o,e _ _ h⟩)
 .exact .inr h
def OwnG(k:Nat)(g:TG):Prop:=∀v σ H (Q Q':St->Hp->Prop),
 (∀σ2 H2,σ2.length=σ.length->(∀j,k<=j->σ2[j]?=σ[j]?)->Q σ2 H2->Q' σ2 H2)->g v σ H Q->g v σ H Q'
def Nl(k:Nat)(t:TGs):Prop:=∀vs σ H (Q Q':St->Hp->Prop),
 (∀σ2 H2,σ2.length=σ.length->(∀j,k<=j->σ2[j]?=σ[j]?)->Q σ2 H2->Q' σ2 H2)->t vs σ H Q->t vs σ H Q'
theorem Ct{k i:Nat}(h:i<k):OwnG k (BO i):=by
 intro v σ H Q Q' m q
 refine m _ _ (by simp) (λj hj=>?_) q
 rw[getElem?_set_ne (by omega)]
theorem Nv{k:Nat}:Nl k gNil:=λvs σ H Q Q' m ⟨e,q⟩=>⟨e,m _ _ rfl (λ_ _=>rfl) q⟩
theorem Fs{k:Nat}{t:TG}{u:TGs}(ht:OwnG k t)(hu:Nl k u):Nl k (KW t u):=by
 rintro vs σ H Q Q' m ⟨v,r,e,q⟩
 refine⟨v,r,e,ht v σ H _ _ (λσ2 H2 l2 k2 q2=>?_) q⟩
 exact hu r σ2 H2 _ _ (λσ3 H3 l3 k3 q3=>m σ3 H3 (l3.trans l2) (λj hj=>(k3 j hj).trans (k2 j hj)) q3) q2
theorem MJ{k n:Nat}{t:TGs}(ht:Nl k t):OwnG k (gTup K n t):=by
 rintro v σ H Q Q' m ⟨a,xs,e,hs,hl,q⟩
 exact⟨a,xs,e,hs,hl,ht xs σ H Q Q' m q⟩
def AJ(X:Cx)(scope:Scope)(cl:List (Str×Addr))(C:Addr)(N:List Str)(s:Shared)(H:Hp)(ex:List Addr):Cx:=
 {X with N:=N,s₀:=s,H₀:=H,env:=compEnvC scope cl C X.env,outer:=X.stack,ex:=ex,fn:=λ_=>false,pn:=[],xe:=λ_ _=>False}
def Dr(osc:Scope)(oN:List Str)(k:Nat)(ix:List Nat)(N:List Str)(scope:Scope):Prop:=
 scope.kind=.function/\(∀y∈scope.names,y.2≠.cell)/\(∀y∈scope.names,y.2=.local->scope.names.lookup y.1=some .local)/\
 (∀y∈scope.names,y.2=.free->osc.names.lookup y.1=some .cell\/osc.names.lookup y.1=some .free)/\
 N.length=k+ix.length/\(∀p∈(N.drop k).zip ix,oN[p.2]?=some p.1/\scope.names.lookup p.1=some .free)
instance{osc:Scope}{oN:List Str}{k:Nat}{ix:List Nat}{N:List Str}{scope:Scope}:Decidable (Dr osc oN k ix N scope):=by
 unfold Dr
 exact inferInstance
def outS(ix:List Nat)(σ:St):St:=ix.map λi=>(σ[i]?).getD none
theorem ES(env:Env):∀(ns:List (Str×NameKind)) (acc:List (Str×Addr)),(∀y∈ns,y.2=.free->∃c,env.cells.lookup y.1=some c)->
  ∃cl,(forIn (m:=Sem) ns acc λ(y:Str×NameKind) r=>match y with
   |(n,k)=>if(k==.free)=true then(do let c <-cellOf env n;pure (yield ((n,c)::r)))else pure (yield r))=pure cl/\
   (∀n c,cl.lookup n=some c->acc.lookup n=some c\/env.cells.lookup n=some c)/\∀n,((acc.lookup n).isSome=true\/(n,NameKind.free)∈ns)->(cl.lookup n).isSome=true
 |[],acc,_=>⟨acc,rfl,λ_ _ h=>.inl h,λn h=>h.elim id λz=>by cases z⟩
 |(n,k)::ns,acc,h=>by
  by_cases hk:k=.free
  .subst hk
   obtain⟨c,hc⟩:=h (n,.free) mem_cons_self rfl
   obtain⟨cl,e,p,q⟩:=ES env ns ((n,c)::acc) λy hy=>h y (mem_cons_of_mem _ hy)
   refine⟨cl,?_,λm d hm=>?_,λm hm=>?_⟩
   .rw[forIn_cons]
    simp only[cellOf,hc,beq_self_eq_true,if_true,pure_bind]
    exact e
   .rcases p m d hm with z|z
    .rw[lookup_cons]at z
     split at z
     .rename_i hmn
      cases z
      have:m=n:=by simpa using hmn
      subst this
      exact .inr hc
     .exact .inl z
    .exact .inr z
   .refine q m ?_
    rw[lookup_cons]
    split
    .exact .inl rfl
    .rename_i hmn
     rcases hm with z|z
     .exact .inl z
     .rcases mem_cons.mp z with z|z
      .cases z
       simp at hmn
      .exact .inr z
  .obtain⟨cl,e,p,q⟩:=ES env ns acc λy hy=>h y (mem_cons_of_mem _ hy)
   have hb:(k==NameKind.free)=false:=by simpa using hk
   refine⟨cl,?_,p,λm hm=>q m (hm.imp id λz=>?_)⟩
   .rw[forIn_cons]
    simp only[hb,false_eq_true,if_false,pure_bind]
    exact e
   .rcases mem_cons.mp z with z|z
    .cases z
     exact absurd rfl hk
    .exact z
theorem EK(env:Env)(scope:Scope)(h:∀y∈scope.names,y.2=.free->∃c,env.cells.lookup y.1=some c):
  ∃cl,closureFor scope env=pure cl/\(∀n c,cl.lookup n=some c->env.cells.lookup n=some c)/\∀n,(n,NameKind.free)∈scope.names->∃c,cl.lookup n=some c:=by
 obtain⟨cl,e,p,q⟩:=ES env scope.names [] h
 refine⟨cl,?_,λn c z=>(p n c z).elim nofun id,λn hn=>Option.isSome_iff_exists.mp (q n (.inr hn))⟩
 unfold closureFor
 simpa using e
variable{prog:Program}{A:Around}{s:Shared}{elt target iter:Expr}{ifs:List Expr}{scope:Scope}{pos:Pos}
theorem OO{R:Result->Shared->Prop}{it acc:Value}{env:Env}
  (J:Nat->Shared->Prop)
  (turn:∀n s,J n s->wpAny (model prog w) A (pyNext it) (λr s1=>match r with
   |none=>R (.ok .next) s1
   |some v=>wpAny (model prog w) A (letOwnedTupleGo target it v) (λ_ s2=>wpAny (model prog w) A (assign target env v) (λ_ s3=>
    wpAny (model prog w) A (forIn ifs true λc r=>if r=true then do let ok <-isTrue c env (eval c env);pure (yield ok)else pure (yield r)) (λok s4=>
     if ok=true then wpAny (model prog w) A (eval elt env) (λx s5=>
      wpAny (model prog w) A (call (.builtin "list.append") [acc,x]) (λ_ s6=>∃m,m<n/\J m s6) (λ_ _=>False) s5) (λ_ _=>False) s4
     else ∃m,m<n/\J m s4) (λ_ _=>False) s3) (λ_ _=>False) s2) (λ_ _=>False) s1) (λ_ _=>False) s)
  (n:Nat)(h:J n s):codeAny (model prog w) A (.compLoop (.ListComp elt [⟨target,iter,ifs,0⟩] scope pos) 0 it acc env) R s:=by
 refine codeAny_loop rfl J (λn s hJ=>?_) n h
 show wpAny (model prog w) A ((compTurn (.ListComp elt [⟨target,iter,ifs,0⟩] scope pos) 0 it acc env).onRaise (λy=>do noteFrame y env;theTreesLotGoes y)) _ _ s
 refine wpAny_noted ?_
 rw[compTurn_list]
 refine wpAny_bind (wpAny_standAt (wpAny_bind (wpAny_mono (turn n s hJ) (λr s1 h1=>?_) λ_ _ z=>z.elim)))
 cases r with
 |none=>exact wpAny_pure h1
 |some v=>
  refine wpAny_bind (wpAny_mono h1 (λ_ s2 h2=>?_) λ_ _ z=>z.elim)
  refine wpAny_bind (wpAny_mono h2 (λ_ s3 h3=>?_) λ_ _ z=>z.elim)
  refine wpAny_bind (wpAny_mono h3 (λok s4 h4=>?_) λ_ _ z=>z.elim)
  cases ok with
  |false=>exact wpAny_pure ⟨rfl,h4⟩
  |true=>
   refine wpAny_bind (wpAny_bind (wpAny_mono h4 (λx s5 h5=>?_) λ_ _ z=>z.elim))
   exact wpAny_bind (wpAny_mono h5 (λ_ s6 h6=>wpAny_pure (wpAny_pure ⟨rfl,h6⟩)) λ_ _ z=>z.elim)
def PF(X:Cx)(ifs:List Expr)(t:TT):Prop:=
 ∀(pins:List (Addr×Obj)) (s:Shared) (σ:St) (H:Hp) (Q:Bool->Hp->Prop),Inv X pins σ H s->t σ H Q->
  wpAny (model X.prog X.w) X.A (forIn ifs true λc r=>if r=true then do let ok <-isTrue c X.env (eval c X.env);pure (yield ok)else pure (yield r)) (TP X pins σ Q) X.xe s
def tYes:TT:=λ_ H Q=>Q true H
theorem Ty:PF X [] tYes:=λ_ _ _ H _ I h=>wpAny_tests_nil ⟨H,I,h⟩
variable{pins:List (Addr×Obj)}{σ:St}
theorem Kf{cl:List (Str×Addr)}{C:Addr}{N:List Str}{fp:List Addr}{k:Nat}{ix:List Nat}(I:Inv X pins σ H s)(hc:Dr X.env.scope X.N k ix N scope)
  (hcl:∀n c,cl.lookup n=some c->X.env.cells.lookup n=some c)(hcl2:∀n,(n,NameKind.free)∈scope.names->∃c,cl.lookup n=some c)
  (hC:s.heap.objs.size<=C)(hf:∀b∈fp,FpOk X pins H b)(hlt:∀b∈fp,b<s.heap.objs.size):(AJ X scope cl C N s H fp).Ok:=by
 obtain⟨kind,nocell,names,free,len,own⟩:=hc
 have lk:∀(l:List (Str×NameKind)) (x:Str) (kd:NameKind),l.lookup x=some kd->(x,kd)∈l:=λl x kd e=>PySem.mem_of_lookup e
 refine⟨I.ok.mod,kind,I.ok.glob,I.ok.blt,hC,λx y c h1 h2=>I.ok.inj x y c (hcl x c h1) (hcl y c h2),λx hx=>?_,λx c z=>(by cases z),I.ok.hd,I.ok.frames,.inl rfl,λb hb=>⟨ne_of_lt (lt_of_lt_of_le (hlt b hb) hC),λx c e=>(hf b hb).2.2.2.2.1 x c (hcl x c e)⟩,
  I.bs,le_trans I.ok.bsz I.sz,λb o e z=>?_,λb hb z=>?_,I.stack,I.stkFree⟩
 ·
  have hx':(relabel scope X.env).names.lookup x=some .cell\/(relabel scope X.env).names.lookup x=some .free:=hx
  have key:(x,NameKind.free)∈scope.names:=by
   have:∃kd,(x,kd)∈(relabel scope X.env).names/\(kd=.cell\/kd=.free):=by
    rcases hx' with z|z
    .exact⟨_,lk _ _ _ z,.inl rfl⟩
    .exact⟨_,lk _ _ _ z,.inr rfl⟩
   obtain⟨kd,hm,hkd⟩:=this
   unfold relabel at hm
   obtain⟨⟨n,k0⟩,h1,h2⟩:=mem_map.mp hm
   dsimp only at h2
   by_cases hc:(k0==NameKind.free&&X.env.scope.kind==.function&&X.env.kindOf n==some .cell)=true
   .rw[if_pos hc]at h2
    cases h2
    have:k0=.free:=by
     simp only[and_eq_true]at hc
     simpa using hc.1.1
    rw[<-this]
    exact h1
   .rw[if_neg hc]at h2
    cases h2
    rcases hkd with z|z
    .exact absurd z (nocell _ h1)
    .rw[<-z]
     exact h1
  exact hcl2 x key
 .obtain⟨_,_,_,hx,_⟩:=hf b z
  rcases hx with hx|hx
  .exact I.ok.noex b o e hx
  .exact absurd (lt_of_lt_of_le (lt_size (I.ok.bs b o e).1) hx) (lt_irrefl _)
 .rcases mem_cons.mp (I.stkSub b z)with e|e
  .exact(hf b hb).2.1 e
  .exact(hf b hb).2.2.1 e
theorem Of{cl:List (Str×Addr)}{C:Addr}{h':Heap}{m m':Str->Option Value}{u:Value}(hl:scope.names.lookup x=some .free)
  (ho:X.env.scope.names.lookup x=some .cell\/X.env.scope.names.lookup x=some .free)(hcl:∀n c,cl.lookup n=some c->X.env.cells.lookup n=some c)(hcl2:∃c,cl.lookup x=some c)
  (l:Look X.env s.heap m x u)(hk:∀b o,s.heap.get? b=some o->h'.get? b=some o):Look (compEnvC scope cl C X.env) h' m' x u:=by
 rcases l with⟨hk1,_⟩|⟨hk1,c,hc,o,e1,e2⟩
 .have hk1':X.env.scope.names.lookup x=some .local:=hk1
  rcases ho with z|z<;>rw[hk1']at z<;>cases z
 .obtain⟨c',hc'⟩:=hcl2
  have:=hcl x c' hc'
  rw[hc]at this
  cases this
  refine .inr ⟨?_,c,hc',o,hk _ _ e1,e2⟩
  show(relabel scope X.env).names.lookup x=some .cell\/(relabel scope X.env).names.lookup x=some .free
  unfold relabel
  dsimp only
  revert hl
  generalize scope.names=ns
  intro hl
  induction ns with
  |nil=>cases hl
  |cons y r ih=>
   obtain⟨n,k0⟩:=y
   rw[map_cons]
   dsimp only
   rw[lookup_cons]at hl
   by_cases hxn:(x==n)=true
   .rw[hxn]at hl
    cases hl
    have exn:x=n:=by simpa using hxn
    subst exn
    by_cases hc:(NameKind.free==NameKind.free&&X.env.scope.kind==.function&&X.env.kindOf x==some .cell)=true
    .rw[if_pos hc,lookup_cons,beq_self_eq_true]
     exact .inl rfl
    .rw[if_neg hc,lookup_cons,beq_self_eq_true]
     exact .inr rfl
   .have hxn':(x==n)=false:=by simpa using hxn
    rw[hxn']at hl
    have hnn:∀(kk:NameKind),(List.lookup x ((n,kk)::map (λ(y:Str×NameKind)=>if(y.2==NameKind.free&&X.env.scope.kind==.function&&X.env.kindOf y.1==some .cell)=true then(y.1,NameKind.cell)else(y.1,y.2)) r))=List.lookup x (map (λ(y:Str×NameKind)=>if(y.2==NameKind.free&&X.env.scope.kind==.function&&X.env.kindOf y.1==some .cell)=true then(y.1,NameKind.cell)else(y.1,y.2)) r):=λkk=>by
     rw[lookup_cons,hxn']
    by_cases hc:(k0==NameKind.free&&X.env.scope.kind==.function&&X.env.kindOf n==some .cell)=true
    .rw[if_pos hc]
     exact(hnn .cell).symm▸ih hl
    .rw[if_neg hc]
     exact(hnn k0).symm▸ih hl
theorem Qs{cl:List (Str×Addr)}{C:Addr}{N:List Str}{fp:List Addr}{k:Nat}{ix:List Nat}{h':Heap}{m':Str->Option Value}{t':Nat}(I:Inv X pins σ H s)(hc:Dr X.env.scope X.N k ix N scope)
  (hcl:∀n c,cl.lookup n=some c->X.env.cells.lookup n=some c)(hcl2:∀n,(n,NameKind.free)∈scope.names->∃c,cl.lookup n=some c)
  (hC:s.heap.objs.size<=C)(hf:∀b∈fp,FpOk X pins H b)(hlt:∀b∈fp,b<s.heap.objs.size)(hk:∀b o,s.heap.get? b=some o->h'.get? b=some o)(hn:h'.Ns C m'):
  Inv (AJ X scope cl C N s H fp) [] (replicate k none++outS ix σ) H {s with heap:=h',toks:=t'}:=by
 have ok:=Kf I hc hcl hcl2 hC hf hlt
 obtain⟨kind,nocell,names,free,len,own⟩:=hc
 have mem:∀{x:Str},scope.names.lookup x=some .free->(x,NameKind.free)∈scope.names:=λe=>PySem.mem_of_lookup e
 refine⟨ok,rfl,I.bare,Un.kept hk,⟨m',hn,λi x v h1 h2 _=>?_⟩,λx c e=>?_,I.hok.fresh hC,λx c e=>I.freeC x c (hcl x c e),λp hp=>(by cases hp),I.hok.kept hk,?_⟩
 .have h1:N[i]?=some x:=h1
  have hi:k<=i:=by
   rcases lt_or_ge i k with z|z
   .rw[getElem?_append_left (by simpa using z),getElem?_replicate,if_pos z]at h2
    cases h2
   .exact z
  rw[List.getElem?_append_right (by simpa using hi),length_replicate]at h2
  unfold outS at h2
  rw[getElem?_map]at h2
  cases e:ix[i-k]? with
  |none=>rw[e]at h2;cases h2
  |some j=>
   rw[e]at h2
   have h2:(σ[j]?).getD none=some v:=Option.some.inj h2
   have hz:(x,j)∈(N.drop k).zip ix:=by
    refine mem_of_getElem? (i:=i-k) ?_
    rw[List.getElem?_zip_eq_some,List.getElem?_drop]
    exact⟨by rw[Nat.add_sub_cancel' hi];exact h1,e⟩
   obtain⟨o1,o2⟩:=own _ hz
   have hs:σ[j]?=some (some v):=by
    cases q:σ[j]? with
    |none=>rw[q]at h2;cases h2
    |some z=>rw[q]at h2;have h2:z=some v:=h2;rw[h2]
   obtain⟨m,hm,hl⟩:=I.loc
   have hfr:=free _ (mem o2) rfl
   have hv:Vis X.env.scope x:=hfr.elim (λz=>.inr (.inl z)) λz=>.inr (.inr z)
   obtain⟨u,r,l⟩:=hl j x v o1 hs hv
   exact⟨u,r,Of o2 hfr hcl (hcl2 _ (mem o2)) l hk⟩
 .obtain⟨v,o,e1,e2⟩:=I.cell x c (hcl x c e)
  exact⟨v,o,hk _ _ e1,e2⟩
 .show(replicate k none++outS ix σ).length=N.length
  rw[length_append,length_replicate,len]
  unfold outS
  rw[length_map]
structure BlockEnd(X:Cx)(scope:Scope)(cl:List (Str×Addr))(N:List Str)(s:Shared)(H:Hp)(fp:List Addr)(D C:Addr)(ys:List V)(H':Hp)(s':Shared):Prop where
 inv:∃σ',Inv (AJ X scope cl C N s H fp) [] σ' H' s'
 dn:H' D=none
 lst:∃(its:List Value) (n:Nat),Vals ys its/\s'.heap.get? D=some {cls:=.type "list",data:=.seq its.toArray n}
 hD:s.heap.objs.size<=D
 hC:s.heap.objs.size<=C
 ne:D≠C
 sz:ys.length<=sizeLine
theorem BlockEnd.out{cl:List (Str×Addr)}{N:List Str}{fp:List Addr}{D C:Addr}{ys:List V}{s':Shared}(I:Inv X pins σ H s)(hf:∀b∈fp,FpOk X pins H b)
  (B:BlockEnd X scope cl N s H fp D C ys H' s'):Inv X pins σ (upd H' D (.lst ys)) s'/\(∃m,s'.heap.Ns C m)/\upd H' D (.lst ys) C=none:=by
 obtain⟨σ',J⟩:=B.inv
 obtain⟨its,n,rv,e⟩:=B.lst
 have eD:∀b u,H' b=some u->b≠D:=λb u z=>Av z B.dn
 refine⟨?_,let⟨m,hm,_⟩:=J.loc;⟨m,hm⟩,by rw[Aj (Ne.symm B.ne)];exact J.free⟩
 have U:Un (frs X.stack) fp H H' s.heap s'.heap:=J.base
 refine I.call' (ch:=fp) J.os ⟨U.keep,U.slot,λb o q z hb=>?_,U.there,λb xs q=>?_,λb o xs q=>?_,λb ps q=>?_⟩ ?_ J.bare λb hb=>?_
 .rw[Aj (Nat.ne_of_lt (Nat.lt_of_lt_of_le (Heap.lt_size q) B.hD))]
  exact U.free b o q z hb
 .have z:=U.tups b xs q
  rw[Aj (eD _ _ z)];exact z
 .have z:=U.frzs b o xs q
  rw[Aj (eD _ _ z)];exact z
 .obtain⟨m,z⟩:=U.tbls b ps q
  exact⟨m,by rw[Aj (eD _ _ z)];exact z⟩
 .intro b o q
  by_cases hb:b=D
  .subst hb
   rw[Al]at q
   cases q
   exact⟨B.sz,its,n,rv,e⟩
  .rw[Aj hb]at q
   refine(J.hok b o q).stay (λ_ _ _ z=>z) (λc z=>?_) λc xs z=>?_
   .rw[Aj (eD _ _ z)];exact z
   .rw[Aj (eD _ _ z)];exact z
 .obtain⟨_,h1,h2,h3,h4,h5⟩:=hf b hb
  exact⟨h3,h1,h4,h5⟩
def Vu(k:Nat)(ix:List Nat)(g:TG)(tc:TT)(te:TE)(σ:St)(x:V)(H:Hp)(Qe:V->Hp->Prop)(Qn:Hp->Prop):Prop:=
 g x (replicate k none++outS ix σ) H λσ2 H2=>tc σ2 H2 λb H3=>if b=true then te σ2 H3 Qe else Qn H3
def MH(k:Nat)(ix:List Nat)(g:TG)(tc:TT)(te:TE)(σ:St)(J:It)(H1:Hp)(Q:List V->Hp->Prop):Prop:=
 ∃W:Nat->Nat->List V->Hp->Prop,(∃m,W 0 m [] H1)/\∀i m ys H,W i m ys H->ys.length<=sizeLine/\
  ((J.stop i H/\Q ys H)\/(J.go i H/\∀x H',J.yld i H x H'->Vu k ix g tc te σ x H' (λv H4=>∃m',m'<m/\W (i+1) m' (ys++[v]) H4) λH3=>∃m',m'<m/\W (i+1) m' ys H3))
theorem HH{cl:List (Str×Addr)}{N:List Str}{fp:List Addr}{k:Nat}{ix:List Nat}{it:Addr}{J:It}{tn:Nat->Heap->Prop}{g:TG}{tc:TT}{te:TE}
  {Q:List V->Hp->Prop}{RR:Value->Addr->Result->Shared->Prop}{E:Value->Shared->Prop}(hcalm:X.calm=true)(I:Inv X pins σ H s)(hc:Dr X.env.scope X.N k ix N scope)(og:OwnG k g)
  (hcl:∀n c,cl.lookup n=some c->X.env.cells.lookup n=some c)(hcl2:∀n,(n,NameKind.free)∈scope.names->∃c,cl.lookup n=some c)
  (T:Turn X.prog X.w X.K target J fp it tn)(t0:tn 0 s.heap)(hf:∀b∈fp,FpOk X pins H b)
  (hg:∀C,PG (AJ X scope cl C N s H fp) target g)(ht:∀C,PF (AJ X scope cl C N s H fp) ifs tc)(he:∀C,PE (AJ X scope cl C N s H fp) elt te)
  (hw:MH k ix g tc te σ J H Q)
  (fin:∀D C ys H' s',BlockEnd X scope cl N s H fp D C ys H' s'->Q ys H'->RR (.ref D) C (.ok .next) s'):
  wpAny (model X.prog X.w) X.A (newList []) (λacc s3=>wpAny (model X.prog X.w) X.A (newFunctionEnv scope X.env.globals cl [] X.env.qual none .none (some X.env)) (λcenv s4=>
   codeAny (model X.prog X.w) X.A (.compStart (.ListComp elt [⟨target,iter,ifs,0⟩] scope pos) 0 (.ref it) acc {cenv with scope:=relabel scope X.env}) (RR acc cenv.locals) s4) E s3) E s:=by
 have hlt:∀b∈fp,b<s.heap.objs.size:=λb hb=>by
  obtain⟨o,e,_⟩:=T.obj 0 _ t0 b hb
  exact lt_size e
 refine wpAny_newObj_type (wpAny_newFunctionEnv hc.2.1 (by intro y hy;simp at hy) (λh1 hns hsb=>?_) hc.1)
 dsimp only at hns hsb ⊢
 generalize eH:s.heap.push {cls:=.type "list",dict:=none,data:=.seq ([]:List Value).toArray}=Hx at hns hsb ⊢
 have hC:Hx.objs.size=s.heap.objs.size+1:=by rw[<-eH,size_push]
 have hne:s.heap.objs.size≠Hx.objs.size:=by rw[hC];exact ne_of_lt (Nat.lt_succ_self _)
 have hle:s.heap.objs.size<=Hx.objs.size:=by rw[hC];exact le_succ _
 have old:∀b o,s.heap.get? b=some o->h1.get? b=some o:=λb o e=>
  hsb.extBut b o (ne_of_lt (lt_of_lt_of_le (lt_size e) hle)) (get?_push_of_some _ (eH▸get?_push_of_some _ e))
 have hacc:h1.PlainList s.heap.objs.size #[]:=⟨_,hsb.extBut _ _ hne (get?_push_of_some _ (eH▸get?_push_size _ rfl))⟩
 have ci:=λ(t':Nat)=>Qs (C:=Hx.objs.size) (t':=t') I hc hcl hcl2 hle hf hlt old hns
 have cfp:∀{H':Hp},(∀b∈fp,H' b=none)->∀b∈fp,FpOk (AJ X scope cl Hx.objs.size N s H fp) [] H' b:=λhn b hb=>by
  obtain⟨_,z1,z2,z3,z4,z5⟩:=hf b hb
  refine⟨hn b hb,ne_of_lt (lt_of_lt_of_le (hlt b hb) hle),λz=>?_,.inl hb,λx c e=>z4 x c (hcl x c e),λp hp=>by cases hp⟩
  rcases mem_cons.mp (I.stkSub b z)with e|e
  .exact z1 e
  .exact z2 e
 have dfs:s.heap.objs.size∉frs X.stack:=λz=>(mem_cons.mp (I.stkSub _ z)).elim (λe=>absurd I.lt (by rw[e];exact lt_irrefl _)) λe=>I.nofs (le_refl _) e
 have cne:∀x c,X.env.cells.lookup x=some c->c≠s.heap.objs.size:=λx c e z=>by
  obtain⟨_,o,q,_⟩:=I.cell x c e
  exact absurd (lt_size q) (by rw[z];exact lt_irrefl _)
 obtain⟨W,⟨m0,w0⟩,turn⟩:=hw
 have loop:∀s3:Shared,s3={s with heap:=h1,toks:=s.toks+([]:List (Str×Value)).length}->
   codeAny (model X.prog X.w) X.A (.compLoop (.ListComp elt [⟨target,iter,ifs,0⟩] scope pos) 0 (.ref it) (.ref s.heap.objs.size) (compEnvC scope cl Hx.objs.size X.env)) (RR (.ref s.heap.objs.size) Hx.objs.size) s3:=by
  rintro s3 rfl
  refine OO (λn s'=>∃i ys H' its,Inv (AJ X scope cl Hx.objs.size N s H fp) [] (replicate k none++outS ix σ) H' s'/\tn i s'.heap/\(∀b∈fp,H' b=none)/\s'.heap.PlainList s.heap.objs.size (toArray its)/\
   H' s.heap.objs.size=none/\Vals ys its/\W i n ys H') ?_ m0 ⟨0,[],H,[],ci _,T.keep _ _ _ t0 λb _ o e=>old b o e,λb hb=>(hf b hb).1,hacc,I.hok.fresh (le_refl _),.nil,w0⟩
  rintro n s4 ⟨i,ys,H4,its,I4,t4,f4,p4,d4,v4,w4⟩
  obtain⟨hsz,turn4⟩:=turn i n ys H4 w4
  rcases turn4 with⟨st,q⟩|⟨go,step⟩
  ·
   obtain⟨pn,pe⟩:=p4
   have I4':Inv (AJ X scope cl Hx.objs.size N s H fp) [(s.heap.objs.size,{cls:=.type "list",data:=.seq its.toArray pn})] (replicate k none++outS ix σ) H4 s4:=I4.pins_of λp hp=>by
    have ep:=mem_singleton.mp hp
    subst ep
    exact⟨pe,d4,hne,dfs,λv z=>(by cases z)⟩
   have fp4:∀b∈fp,FpOk (AJ X scope cl Hx.objs.size N s H fp) [(s.heap.objs.size,{cls:=.type "list",data:=.seq its.toArray pn})] H4 b:=λb hb=>by
    obtain⟨z0,z1,z2,z3,z4,_⟩:=cfp f4 b hb
    refine⟨z0,z1,z2,z3,z4,λp hp e=>?_⟩
    have ep:=mem_singleton.mp hp
    subst ep
    exact absurd (hlt b hb) (by rw[<-e];exact lt_irrefl _)
   refine thn (T.done (AJ X scope cl Hx.objs.size N s H fp) rfl rfl rfl hcalm i _ s4 _ H4 _ I4' fp4 t4 st) λr s5 ⟨hr,I5⟩=>?_
   subst hr
   obtain⟨e5,n5,_⟩:=I5.pin (s.heap.objs.size,_) (mem_singleton.mpr rfl)
   exact fin s.heap.objs.size Hx.objs.size ys H4 s5 ⟨⟨_,I5.pins_of (pins':=[]) λp hp=>(by cases hp)⟩,n5,⟨its,pn,v4,e5⟩,le_refl _,hle,hne,hsz⟩ q
  .obtain⟨pn,pe⟩:=p4
   have I4':Inv (AJ X scope cl Hx.objs.size N s H fp) [(s.heap.objs.size,{cls:=.type "list",data:=.seq its.toArray pn})] (replicate k none++outS ix σ) H4 s4:=I4.pins_of λp hp=>by
    have ep:=mem_singleton.mp hp
    subst ep
    exact⟨pe,d4,hne,dfs,λv z=>(by cases z)⟩
   have fpx:∀{H':Hp},(∀b∈fp,H' b=none)->∀b∈fp,FpOk (AJ X scope cl Hx.objs.size N s H fp) [(s.heap.objs.size,{cls:=.type "list",data:=.seq its.toArray pn})] H' b:=λhn b hb=>by
    obtain⟨z0,z1,z2,z3,z4,_⟩:=cfp hn b hb
    refine⟨z0,z1,z2,z3,z4,λp hp e=>?_⟩
    have ep:=mem_singleton.mp hp
    subst ep
    exact absurd (hlt b hb) (by rw[<-e];exact lt_irrefl _)
   refine thn (T.item (AJ X scope cl Hx.objs.size N s H fp) rfl rfl rfl hcalm i _ s4 _ H4 (λ_ _=>False) I4' (fpx f4) t4 go) λr s5 ⟨u,hr,h5⟩=>?_
   subst hr
   refine thn h5 λ_ s6 ⟨x,H6,I6,r6,y6,t6,f6⟩=>?_
   have I6':=I6.pinned (fpx f6) (T.obj _ _ t6)
   have stp:=og x _ H6 _ (λσ2 H2=>(σ2.length=(replicate k none++outS ix σ).length/\∀j,k<=j->σ2[j]?=(replicate k none++outS ix σ)[j]?)/\
    tc σ2 H2 λb H3=>if b=true then te σ2 H3 (λv H4=>∃m',m'<n/\W (i+1) m' (ys++[v]) H4)else ∃m',m'<n/\W (i+1) m' ys H3) (λσ2 H2 a b c=>⟨⟨a,b⟩,c⟩) (step x H6 y6)
   refine thn (hg _ _ s6 _ H6 x u _ I6' r6 stp) λ_ s7 ⟨σ7,H7,I7,⟨l7,k7⟩,q7⟩=>?_
   have weak:∀{H':Hp}{s':Shared}{ps:List (Addr×Obj)},Inv (AJ X scope cl Hx.objs.size N s H fp) ps σ7 H' s'->Inv (AJ X scope cl Hx.objs.size N s H fp) ps (replicate k none++outS ix σ) H' s':=λz=>z.weak l7.symm λj v e=>by
    rcases lt_or_ge j k with hj|hj
    .rw[getElem?_append_left (by simpa using hj),getElem?_replicate,if_pos hj]at e
     cases e
    .rw[k7 j hj];exact e
   refine thn (ht _ _ s7 σ7 H7 _ I7 q7) λok s8 ⟨H8,I8,q8⟩=>?_
   have keepT:∀{H':Hp}{s':Shared},Inv (AJ X scope cl Hx.objs.size N s H fp) ([(s.heap.objs.size,{cls:=.type "list",data:=.seq its.toArray pn})]++HE fp s6.heap) σ7 H' s'->
     tn (i+1) s'.heap/\(∀b∈fp,H' b=none)/\s'.heap.PlainList s.heap.objs.size its.toArray/\H' s.heap.objs.size=none:=λ{H' s'} z=>by
    refine⟨T.keep _ _ _ t6 λb hb o e=>(z.pin (b,o) (mem_append_right _ (mem_append_right _ (DQ hb e)))).1,λb hb=>?_,?_⟩
    .obtain⟨o,e,d⟩:=T.obj _ _ t6 b hb
     exact(z.pin (b,o) (mem_append_right _ (mem_append_right _ (DQ hb e)))).2.1
    .obtain⟨e,n',_⟩:=z.pin (s.heap.objs.size,{cls:=.type "list",data:=.seq its.toArray pn}) (mem_append_right _ (mem_append_left _ (mem_singleton.mpr rfl)))
     exact⟨⟨pn,e⟩,n'⟩
   cases ok with
   |false=>
    have q8:∃m',m'<n/\W (i+1) m' ys H8:=by simpa using q8
    obtain⟨m',hm,w8⟩:=q8
    obtain⟨a1,a2,a3,a4⟩:=keepT I8
    exact⟨m',hm,i+1,ys,H8,its,(weak I8).pins_of (pins':=[]) λp hp=>(by cases hp),a1,a2,a3,a4,v4,w8⟩
   |true=>
    have q8:te σ7 H8 (λv H4=>∃m',m'<n/\W (i+1) m' (ys++[v]) H4):=by simpa using q8
    show wpAny _ _ (eval elt _) _ _ s8
    refine thn (he _ _ s8 σ7 H8 _ I8 q8) λy s9 ⟨v,H9,I9,r9,m',hm,w9⟩=>?_
    obtain⟨a1,a2,a3,a4⟩:=keepT I9
    refine wpAny_list_append_plain a3 (λh10 hp10 hs10=>?_) (by rw[size_toArray,<-v4.length];exact hsz)
    refine⟨m',hm,i+1,ys++[v],H9,its++[y],?_,T.keep _ _ _ a1 λb hb o e=>hs10.extBut b o (λz=>absurd (hlt b hb) (by rw[z];exact lt_irrefl _)) e,a2,by simpa using hp10,a4,Paired.snoc v4 r9,w9⟩
    have I9':Inv (AJ X scope cl Hx.objs.size N s H fp) [] (replicate k none++outS ix σ) H9 s9:=(weak I9).pins_of (pins':=[]) λp hp=>(by cases hp)
    exact I9'.turned (t':=s9.toks) (it:=s.heap.objs.size) (λb o hb e=>hs10.extBut b o hb e) a4 hne (.inr (le_refl _))
     (λx c e=>cne x c (hcl x c e)) λp hp=>(by cases hp)
 exact codeAny_compStart_list (loop _ rfl) (T.self _ 0 _ _ _ (T.keep _ _ _ t0 λb _ o e=>old b o e) (loop _ rfl))
def Vs(k:Nat)(ix:List Nat)(wi:TI)(g:TG)(tc:TT)(te:TE):TE:=λσ H Q=>wi σ H λJ H1=>
 MH k ix g tc te σ J H1 λys H2=>∀D,H2 D=none->Q (.ref D) (upd H2 D (.lst ys))
variable{N:List Str}{ix:List Nat}{g:TG}{tc:TT}{te:TE}
section
variable{k:Nat}{wi:TI}
theorem I_(I:Inv X pins σ H s)(hc:Dr X.env.scope X.N k ix N scope):∀y∈scope.names,y.2=.free->∃c,X.env.cells.lookup y.1=some c:=λy hy e=>
 I.ok.has y.1 (hc.2.2.2.1 y hy e)
theorem Sc(hcalm:X.calm=true)(hc:Dr X.env.scope X.N k ix N scope)(og:OwnG k g)(hi:PI X target iter wi)
  (hb:∀cl C s H fp,PG (AJ X scope cl C N s H fp) target g/\PF (AJ X scope cl C N s H fp) ifs tc/\PE (AJ X scope cl C N s H fp) elt te)
  (hs:∀x,foldedSetIterable iter X.env x=pure x:=by intro _;rfl):PE X (.ListComp elt [⟨target,iter,ifs,0⟩] scope pos) (Vs k ix wi g tc te):=by
 intro pins s σ H Q I h
 obtain⟨cl,hclos,hcl,hcl2⟩:=EK X.env scope (I_ I hc)
 rw[eval_ListComp]
 refine wpAny_comprehension_free (use:=none) rfl hs hclos hc.1 hc.2.2.1 (thn (hi pins s σ H _ I h) λxv s1 h1=>thn h1 λitv s2 h2=>?_)
 obtain⟨it,fp,tn,J,H2,e,I2,T,st2,f2,hw⟩:=h2
 subst e
 refine HH hcalm I2 hc og hcl hcl2 T st2 f2 (λC=>(hb cl C s2 H2 fp).1) (λC=>(hb cl C s2 H2 fp).2.1) (λC=>(hb cl C s2 H2 fp).2.2) hw (RR:=λacc C=>compPost (model X.prog X.w) X.A X.xe none (EP X pins σ Q) acc C) ?_
 intro D C ys H' s' B q
 obtain⟨I3,⟨m,hm⟩,hCn⟩:=B.out I2 f2
 refine⟨m,hm,λh' hs'=>?_⟩
 have q':=q D B.dn
 have hCs:X.s₀.heap.objs.size<=C:=le_trans I2.sz B.hC
 obtain⟨_,f1,f3,f4,f5,f6⟩:=I2.fpOk (H':=upd H' D (.lst ys)) B.hC hCn
 exact⟨.ref D,_,I3.turned (t':=s'.toks) (it:=C) (λb o hb e=>hs'.extBut b o hb e) hCn f1 f4 f5 f6,rfl,q'⟩
def Qr(i k:Nat)(ix:List Nat)(wi:TI)(g:TG)(tc:TT)(te:TE):TS:=λD σ H=>wi σ H λJ H1=>
 MH k ix g tc te σ J H1 λys H2=>∀p,H2 p=none->D.nx (σ.set i (some (.ref p))) (upd H2 p (.lst ys))
theorem Mr{i:Nat}{pos' spos:Pos}(hcalm:X.calm=true)(hN:X.N.Nodup)(hx0:X.N[i]?=some x)(hx:X.env.scope.names.lookup x=some .local)(hc:Dr X.env.scope X.N k ix N scope)(og:OwnG k g)(hi:PI X target iter wi)
  (hb:∀cl C s H fp,PG (AJ X scope cl C N s H fp) target g/\PF (AJ X scope cl C N s H fp) ifs tc/\PE (AJ X scope cl C N s H fp) elt te)
  (hsw:swapsWith (.ListComp elt [⟨target,iter,ifs,0⟩] scope pos) (some (.Name x pos')) spos.line X.env=pure true:=by rfl)
  (hs:∀x,foldedSetIterable iter X.env x=pure x:=by intro _;rfl):PS X (.Assign [.Name x pos'] (.ListComp elt [⟨target,iter,ifs,0⟩] scope pos) spos) (Qr i k ix wi g tc te):=by
 intro pins s σ H Dn I h
 obtain⟨cl,hclos,hcl,hcl2⟩:=EK X.env scope (I_ I hc)
 rw[exec_Assign_Name_used _ _ _ _ hsw]
 refine wpAny_bind (wpAny_standAt (wpAny_bind ?_))
 show wpAny _ X.A (do let _ <-comprehension (.ListComp elt [⟨target,iter,ifs,0⟩] scope pos) scope X.env _ (newList []) false (eval iter X.env) (some (assign (.Name x pos') X.env))) _ _ s
 refine wpAny_bind (wpAny_mono (wpAny_comprehension_free (use:=some (assign (.Name x pos') X.env)) (Q:=λ_ s'=>SP X pins Dn .next s') rfl hs hclos hc.1 hc.2.2.1
  (thn (hi pins s σ H _ I h) λxv s1 h1=>thn h1 λitv s2 h2=>?_)) (λ_ s' hq=>wpAny_pure (wpAny_pure hq)) λ_ _ e=>e)
 obtain⟨it,fp,tn,J,H2,e,I2,T,st2,f2,hw⟩:=h2
 subst e
 refine HH hcalm I2 hc og hcl hcl2 T st2 f2 (λC=>(hb cl C s2 H2 fp).1) (λC=>(hb cl C s2 H2 fp).2.1) (λC=>(hb cl C s2 H2 fp).2.2) hw (RR:=λacc C=>compPost (model X.prog X.w) X.A X.xe (some (assign (.Name x pos') X.env)) (λ_ s'=>SP X pins Dn .next s') acc C) ?_
 intro D C ys H' s' B q
 obtain⟨I3,⟨m,o,es,ep,ho,hd,hr⟩,hCn⟩:=B.out I2 f2
 have q':=q D B.dn
 obtain⟨_,f1,f3,f4,f5,f6⟩:=I2.fpOk (H':=upd H' D (.lst ys)) B.hC hCn
 have I4:Inv X (pins++[(C,o)]) σ (upd H' D (.lst ys)) s':=I3.pins_of λp hp=>(mem_append.mp hp).elim (λz=>I3.pin p (mem_append_right _ z)) λz=>by
  have z':=mem_singleton.mp z
  subst z'
  exact⟨ho,hCn,f1,f3,λv z=>by rw[hd]at z;cases z⟩
 show wpAny _ X.A (assign (.Name x pos') X.env (.ref D)) _ _ s'
 refine wpAny_assign_Name (Ia I4 hN hx0 (.inl hx) (v:=.ref D) (u:=.ref D) rfl (λs5 I5=>?_) (.inr hx))
 obtain⟨e5,n5,_⟩:=I5.pin (C,o) (mem_append_right _ (mem_append_right _ (mem_singleton.mpr rfl)))
 refine⟨m,⟨o,es,ep,e5,hd,hr⟩,λh' hs'=>?_⟩
 exact⟨_,_,I5.unpinned.turned (t':=s5.toks) (it:=C) (λb o hb e=>hs'.extBut b o hb e) hCn f1 f4 f5 f6,q'⟩
end
section
def ExcAt(a C:Addr)(h:Heap):Prop:=∃o vs,h.get? a=some o/\o.cls=.ref C/\o.data=.fields vs
def excD(C:Addr):PyData:=.dict [(.none,.int (C:Int))]
def U4(a C dx:Addr)(h:Heap):Prop:=∃o vs,h.get? a=some o/\o.cls=.ref C/\o.data=.fields vs/\o.dict=some dx
def SC(C:Addr)(n:Int):PyData:=.dict [(.none,.int (C:Int)),(.none,.int n)]
def excC:List (PyData×PyData)->Option Addr
 |[(.none,.int i)]=>some i.toNat
 |[(.none,.int i),(.none,.int _)]=>some i.toNat
 |(.none,.tuple [.int i])::_=>some i.toNat
 |(.bool true,_)::_=>some 0
 |_=>none
def objD(C:Addr)(es:List (PyData×PyData)):PyData:=.dict ((.none,.tuple [.int (C:Int)])::es)
def Re:PyData->Bool
 | .dict ((.none,.tuple _)::_)=>true
 | .dict ((.bool true,_)::_)=>true
 |_=>false
theorem Kc(i:Int)(es:List (PyData×PyData)):excC ((.none,.tuple [.int i])::es)=some i.toNat:=by
 cases es with
 |nil=>rfl
 |cons y ys=>cases ys<;>rfl
def keyD:Key->PyData
 | .inl i=>.int i
 | .inr x=>.str x
def ppE(m:List ((Int×Int)×Int)):List (PyData×PyData):=(.bool true,.none)::m.map λq=>(.tuple [.int q.1.1,.int q.1.2],.int q.2)
def ppK(m:List ((Int×Int)×Int)):List (List Key×V):=m.map λq=>([.inl q.1.1,.inl q.1.2],V.int q.2)
def Bk:List Str:=["start","text","rows","ways","atoms","numbers","rights","memory","box_words","here","truth_pair","told_words","stored_cells","done_count"]
mutual
inductive DV(K:Frag)(H:Hp):V->PyData->Prop where
 |non:DV K H .non .none
 |bl (b:Bool):DV K H (.bl b) (.bool b)
 |int (i:Int):DV K H (.int i) (.int i)
 |str (x:Str):DV K H (.str x) (.str x)
 |tup {a:Addr}{xs:List V}{ds:List PyData}:SqT K H a xs->DVs K H xs ds->DV K H (.ref a) (.tuple ds)
 |lst {a:Addr}{xs:List V}{ds:List PyData}:SqL K H a xs->DVs K H xs ds->DV K H (.ref a) (.list ds)
 |dct {a:Addr}{kvs:List (Key×V)}{es:List (PyData×PyData)}:H a=some (.dK kvs)->DVk K H kvs es->DV K H (.ref a) (.dict es)
 |exc {a C:Addr}:H a=some (.ext (ExcAt a C))->DV K H (.ref a) (.dict [(.none,.int (C:Int))])
 |exr {a C dx:Addr}{n:Int}:H a=some (.ext (U4 a C dx))->H dx=some (.xd [("row",.int n)])->DV K H (.ref a) (.dict [(.none,.int (C:Int)),(.none,.int n)])
 |obj {a C dx:Addr}{fs:List (Str×V)}{es:List (PyData×PyData)}:H a=some (.ins C dx fs)->(∀m:Str,m∉Bk->fs.lookup m=none)->DVf K H fs es->DV K H (.ref a) (.dict ((.none,.tuple [.int (C:Int)])::es))
 |dtt {a:Addr}{m:List ((Int×Int)×Int)}:H a=some (.dT (ppK m))->DV K H (.ref a) (.dict (ppE m))
inductive DVs(K:Frag)(H:Hp):List V->List PyData->Prop where
 |nil:DVs K H [] []
 |cons {x:V}{d:PyData}{xs:List V}{ds:List PyData}:DV K H x d->DVs K H xs ds->DVs K H (x::xs) (d::ds)
inductive DVk(K:Frag)(H:Hp):List (Key×V)->List (PyData×PyData)->Prop where
 |nil:DVk K H [] []
 |cons {k:Key}{x:V}{d:PyData}{xs:List (Key×V)}{ds:List (PyData×PyData)}:DV K H x d->DVk K H xs ds->DVk K H ((k,x)::xs) ((keyD k,d)::ds)
inductive DVf(K:Frag)(H:Hp):List (Str×V)->List (PyData×PyData)->Prop where
 |nil {fs:List (Str×V)}:DVf K H fs []
 |cons {fs:List (Str×V)}{f:Str}{x:V}{d:PyData}{ds:List (PyData×PyData)}:fs.lookup f=some x->DV K H x d->DVf K H fs ds->DVf K H fs ((.str f,d)::ds)
end
theorem Same.seqT{xs:List V}(e:Same H H')(h:SqT K H a xs):SqT K H' a xs:=by
 rcases h with(h|⟨o,h⟩)|h
 .exact .inl (.inl (e _ _ h))
 .exact .inl (.inr ⟨o,e _ _ h⟩)
 .exact .inr h
mutual
theorem DV.mono(e:Same H H'):∀{v:V}{d:PyData},DV K H v d->DV K H' v d
 |_,_,.non=>.non
 |_,_,.bl b=>.bl b
 |_,_,.int i=>.int i
 |_,_,.str x=>.str x
 |_,_,.tup h t=>.tup (e.seqT h) (DVs.mono e t)
 |_,_,.lst h t=>.lst (e.seq h) (DVs.mono e t)
 |_,_,.dct h t=>.dct (e _ _ h) (DVk.mono e t)
 |_,_,.exc h=>.exc (e _ _ h)
 |_,_,.exr h h'=>.exr (e _ _ h) (e _ _ h')
 |_,_,.obj h n t=>.obj (e _ _ h) n (DVf.mono e t)
 |_,_,.dtt h=>.dtt (e _ _ h)
theorem DVs.mono(e:Same H H'):∀{vs:List V}{ds:List PyData},DVs K H vs ds->DVs K H' vs ds
 |_,_,.nil=>.nil
 |_,_,.cons h t=>.cons (DV.mono e h) (DVs.mono e t)
theorem DVk.mono(e:Same H H'):∀{vs:List (Key×V)}{ds:List (PyData×PyData)},DVk K H vs ds->DVk K H' vs ds
 |_,_,.nil=>.nil
 |_,_,.cons h t=>.cons (DV.mono e h) (DVk.mono e t)
theorem DVf.mono(e:Same H H'):∀{vs:List (Str×V)}{ds:List (PyData×PyData)},DVf K H vs ds->DVf K H' vs ds
 |_,_,.nil=>.nil
 |_,_,.cons l h t=>.cons l (DV.mono e h) (DVf.mono e t)
end
theorem DVs.length:∀{vs:List V}{ds:List PyData},DVs K H vs ds->vs.length=ds.length
 |_,_,.nil=>rfl
 |_,_,.cons _ t=>by rw[List.length_cons,List.length_cons,DVs.length t]
theorem DVs.get:∀{vs:List V}{ds:List PyData}{i:Nat}{d:PyData},DVs K H vs ds->ds[i]?=some d->∃v,vs[i]?=some v/\DV K H v d
 |_,_,_,_,.nil,e=>by simp at e
 |_,_,0,_,.cons h _,e=>by simp at e;subst e;exact⟨_,rfl,h⟩
 |_,_,i+1,d,.cons _ t,e=>by
  obtain⟨v,h1,h2⟩:=DVs.get (i:=i) (d:=d) t (by simpa using e)
  exact⟨v,by simpa using h1,h2⟩
theorem DVs.get':∀{vs:List V}{ds:List PyData}{i:Nat}{v:V},DVs K H vs ds->vs[i]?=some v->∃d,ds[i]?=some d/\DV K H v d
 |_,_,_,_,.nil,e=>by simp at e
 |_,_,0,_,.cons h _,e=>by simp at e;subst e;exact⟨_,rfl,h⟩
 |_,_,i+1,d,.cons _ t,e=>by
  obtain⟨v,h1,h2⟩:=DVs.get' (i:=i) (v:=d) t (by simpa using e)
  exact⟨v,by simpa using h1,h2⟩
theorem DVs.append:∀{vs ws:List V}{ds es:List PyData},DVs K H vs ds->DVs K H ws es->DVs K H (vs++ws) (ds++es)
 |_,_,_,_,.nil,s=>s
 |_,_,_,_,.cons h t,s=>.cons h (DVs.append t s)
theorem DVs.take:∀{vs:List V}{ds:List PyData}(n:Nat),DVs K H vs ds->DVs K H (vs.take n) (ds.take n)
 |_,_,0,_=>.nil
 |_,_,_+1,.nil=>.nil
 |_,_,n+1,.cons h t=>.cons h (DVs.take n t)
theorem DVs.drop:∀{vs:List V}{ds:List PyData}(n:Nat),DVs K H vs ds->DVs K H (vs.drop n) (ds.drop n)
 |_,_,0,r=>r
 |_,_,_+1,.nil=>.nil
 |_,_,n+1,.cons _ t=>DVs.drop n t
theorem DVs.ints:∀(ns:List Int),DVs K H (ns.map V.int) (ns.map PyData.int)
 |[]=>.nil
 |n::r=>.cons (.int n) (DVs.ints r)
theorem DVs.of_ints:∀{vs:List V}{ns:List Int},DVs K H vs (ns.map PyData.int)->vs=ns.map V.int
 |_,[],.nil=>rfl
 |_,n::r,.cons h t=>by cases h;rw[DVs.of_ints t];rfl
theorem DVs.of_bools:∀{vs:List V}{ns:List Bool},DVs K H vs (ns.map PyData.bool)->vs=ns.map V.bl
 |_,[],.nil=>rfl
 |_,n::r,.cons h t=>by cases h;rw[DVs.of_bools t];rfl
theorem DV.of_int{v:V}{i:Int}(h:DV K H v (.int i)):v=.int i:=by cases h;rfl
theorem DV.of_bl{v:V}{i:Bool}(h:DV K H v (.bool i)):v=.bl i:=by cases h;rfl
theorem DV.of_str{v:V}{i:Str}(h:DV K H v (.str i)):v=.str i:=by cases h;rfl
theorem DV.of_tup{v:V}{ds:List PyData}(h:DV K H v (.tuple ds)):∃a xs,v=.ref a/\SqT K H a xs/\DVs K H xs ds:=by cases h with|tup h t=>exact⟨_,_,rfl,h,t⟩
theorem DV.of_dct{v:V}{es:List (PyData×PyData)}(h:DV K H v (.dict es))(hx:excC es=none):∃a kvs,v=.ref a/\H a=some (.dK kvs)/\DVk K H kvs es:=by
 cases h with
 |dct h t=>exact⟨_,_,rfl,h,t⟩
 |exc h=>cases hx
 |exr h h'=>cases hx
 |obj h n t=>rw[Kc]at hx;cases hx
 |dtt h=>unfold ppE excC at hx;cases hx
theorem KM{kvs:List (Key×V)}{es:List (PyData×PyData)}(h:DVk K H kvs es):excC es=none:=by
 cases h with
 |nil=>rfl
 |cons h t=>
  rename_i k x d xs ds
  cases t with
  |nil=>cases k<;>cases d<;>rfl
  |cons h2 t2=>rename_i k2 x2 d2 xs2 ds2;cases k<;>cases d<;>cases k2<;>cases d2<;>cases ds2<;>rfl
theorem DV.of_objN{v:V}{C:Addr}{es:List (PyData×PyData)}(h:DV K H v (objD C es)):∃a dx fs,v=.ref a/\H a=some (.ins C dx fs)/\DVf K H fs es/\∀m:Str,m∉Bk->fs.lookup m=none:=by
 unfold objD at h
 generalize ei:((C:Nat):Int)=i at h
 generalize ee:PyData.dict ((.none,.tuple [.int i])::es)=e at h
 cases h with
 |dct h t=>
  injection ee with ee
  subst ee
  have z:=KM t
  rw[Kc]at z
  cases z
 |obj h n t=>
  injection ee with ee
  injection ee with ee e2
  injection ee with _ ee
  injection ee with ee
  injection ee with ee _
  injection ee with ee
  have:C=_:=Int.ofNat.inj (ei.trans ee)
  subst this e2
  exact⟨_,_,_,rfl,h,t,n⟩
 |_=>cases ee
theorem DVf.get:∀{fs:List (Str×V)}{es:List (PyData×PyData)}{f:Str}{d:PyData},DVf K H fs es->(.str f,d)∈es->∃v,fs.lookup f=some v/\DV K H v d
 |_,_,_,_,.nil,h=>by cases h
 |_,_,f,d,.cons l q t,h=>by
  rcases List.mem_cons.mp h with e|e
  .injection e with e1 e2
   injection e1 with e1
   subst e1 e2
   exact⟨_,l,q⟩
  .exact DVf.get t e
theorem DV.of_lst{v:V}{ds:List PyData}(h:DV K H v (.list ds)):∃a xs,v=.ref a/\SqL K H a xs/\DVs K H xs ds:=by cases h with|lst h t=>exact⟨_,_,rfl,h,t⟩
mutual
theorem DV.reads{X:Cx}{pins:List (Addr×Obj)}{σ:St}{H:Hp}{s:Shared}(I:Inv X pins σ H s):∀{v:V}{d:PyData}{u:Value},DV X.K H v d->RelV v u->d.canLay0=true->∃as,Reads s.heap u d as
 |_,_,_,.non,r,_=>⟨[],by rw[show _=Value.none from r];exact .none⟩
 |_,_,_,.bl b,r,_=>⟨[],by rw[show _=Value.bool b from r];exact .bool b⟩
 |_,_,_,.int i,r,_=>let⟨t,e⟩:=r;⟨[],by rw[e];exact .int i t⟩
 |_,_,_,.str x,r,_=>let⟨t,e⟩:=r;⟨[],by rw[e];exact .str x t⟩
 |_,_,_,.tup h t,r,c=>by
  rw[show _=Value.ref _ from r]
  obtain⟨its,rv,⟨o,e1,e2,n,e3⟩,_⟩:=I.tuple h
  obtain⟨as,q⟩:=DVs.reads I t rv (by unfold PyData.canLay0 at c;exact c)
  exact⟨_,.tuple e1 e2 e3 (by simpa using q)⟩
 |_,_,_,.lst h t,r,c=>by
  rw[show _=Value.ref _ from r]
  obtain⟨its,rv,pl,_⟩:=I.list h
  obtain⟨o,e1,e2,n,e3⟩:=pl.isList
  obtain⟨as,q⟩:=DVs.reads I t rv (by unfold PyData.canLay0 at c;exact c)
  exact⟨_,.list e1 e2 e3 (by simpa using q)⟩
 |_,_,_,.dct h t,r,c=>by simp[PyData.canLay0]at c
 |_,_,_,.exc h,r,c=>by simp[PyData.canLay0]at c
 |_,_,_,.exr h h',r,c=>by simp[PyData.canLay0]at c
 |_,_,_,.obj h n t,r,c=>by simp[PyData.canLay0]at c
 |_,_,_,.dtt h,r,c=>by simp[PyData.canLay0]at c
theorem DVs.reads{X:Cx}{pins:List (Addr×Obj)}{σ:St}{H:Hp}{s:Shared}(I:Inv X pins σ H s):∀{vs:List V}{ds:List PyData}{us:List Value},DVs X.K H vs ds->Vals vs us->PyData.canLayAll0 ds=true->∃as,ReadsAll s.heap us ds as
 |_,_,_,.nil,.nil,_=>⟨_,.nil⟩
 |_,_,_,.cons h t,.cons r rs,c=>by
  unfold PyData.canLayAll0 at c
  rw[Bool.and_eq_true]at c
  obtain⟨a1,q1⟩:=DV.reads I h r c.1
  obtain⟨a2,q2⟩:=DVs.reads I t rs c.2
  exact⟨_,.cons q1 q2⟩
end
abbrev Gam:=List (Option PyData)
def SD(K:Frag)(H:Hp)(σ:St)(G:Gam):Prop:=σ.length=G.length/\∀(i:Nat) d,G[i]?=some (some d)->∃v,σ[i]?=some (some v)/\DV K H v d
theorem SD.mono{G:Gam}(h:SD K H σ G)(e:Same H H'):SD K H' σ G:=⟨h.1,λi d z=>let⟨v,a,b⟩:=h.2 i d z;⟨v,a,b.mono e⟩⟩
theorem SD.set{G:Gam}{i:Nat}{v:V}{d:PyData}(h:SD K H σ G)(q:DV K H v d):SD K H (σ.set i (some v)) (G.set i (some d)):=by
 refine⟨by rw[List.length_set,List.length_set,h.1],λj e z=>?_⟩
 by_cases hj:i=j
 .subst hj
  by_cases hl:i<G.length
  .rw[List.getElem?_set_self hl]at z
   cases z
   exact⟨v,List.getElem?_set_self (by rw[h.1];exact hl),q⟩
  .rw[List.getElem?_eq_none (by rw[List.length_set];omega)]at z
   cases z
 .rw[List.getElem?_set_ne hj]at z
  obtain⟨w,a,b⟩:=h.2 j e z
  exact⟨w,by rw[List.getElem?_set_ne hj];exact a,b⟩
theorem SD.forget{G G':Gam}(h:SD K H σ G)(hl:G'.length=G.length)(hw:∀(i:Nat) d,G'[i]?=some (some d)->G[i]?=some (some d)):SD K H σ G':=⟨h.1.trans hl.symm,λi d z=>h.2 i d (hw i d z)⟩
def tD(K:Frag)(G:Gam)(d:PyData):TE:=λσ H Q=>SD K H σ G/\∀v H',Same H H'->DV K H' v d->Q v H'
def tDT(K:Frag)(G:Gam)(b:Bool):TT:=λσ H Q=>SD K H σ G/\∀H',Same H H'->Q b H'
def tDA(K:Frag)(G:Gam)(ds:List PyData):TA:=λσ H Q=>SD K H σ G/\∀vs H',Same H H'->DVs K H' vs ds->Q vs H'
inductive Out where
 |next (G:Gam)|ret (d:PyData)
def tDS(K:Frag)(G:Gam)(o:Out):TS:=λD σ H=>SD K H σ G/\match o with
 | .next G'=>∀σ' H',Same H H'->SD K H' σ' G'->D.nx σ' H'
 | .ret d=>∀v H',Same H H'->DV K H' v d->D.rt v H'
abbrev EV(X:Cx)(G:Gam)(e:Expr)(d:PyData):Prop:=PE X e (tD X.K G d)
abbrev TV(X:Cx)(G:Gam)(e:Expr)(b:Bool):Prop:=PT X e (tDT X.K G b)
abbrev WV(X:Cx)(G:Gam)(e:Expr)(b:Bool):Prop:=PW X e (tDT X.K G b)
abbrev AV(X:Cx)(G:Gam)(es:List Expr)(ds:List PyData):Prop:=PA X es (tDA X.K G ds)
abbrev SV(X:Cx)(G:Gam)(st:Stmt)(o:Out):Prop:=PS X st (tDS X.K G o)
abbrev SVs(X:Cx)(G:Gam)(st:List Stmt)(o:Out):Prop:=PSs X st (tDS X.K G o)
variable{G:Gam}{b c e:Expr}{es:List Expr}{d da db dc:PyData}
section
variable{a:Expr}
theorem PE.imp{t t':TE}(h:PE X e t)(m:∀σ H Q,t' σ H Q->t σ H Q):PE X e t':=λpins s σ H Q I q=>h pins s σ H Q I (m σ H Q q)
theorem PT.imp{t t':TT}(h:PT X e t)(m:∀σ H Q,t' σ H Q->t σ H Q):PT X e t':=λpins s σ H Q I q=>h pins s σ H Q I (m σ H Q q)
theorem PW.imp{t t':TT}(h:PW X e t)(m:∀σ H Q,t' σ H Q->t σ H Q):PW X e t':=λw pins s σ H Q I q=>h w pins s σ H Q I (m σ H Q q)
theorem PA.imp{t t':TA}(h:PA X es t)(m:∀σ H Q,t' σ H Q->t σ H Q):PA X es t':=λp pins s σ H Q I q=>h p pins s σ H Q I (m σ H Q q)
theorem PS.imp{st:Stmt}{t t':TS}(h:PS X st t)(m:∀D σ H,t' D σ H->t D σ H):PS X st t':=λpins s σ H D I q=>h pins s σ H D I (m D σ H q)
theorem PSs.imp{st:List Stmt}{t t':TS}(h:PSs X st t)(m:∀D σ H,t' D σ H->t D σ H):PSs X st t':=λpins s σ H D I q=>h pins s σ H D I (m D σ H q)
theorem OpR.imp{f:Value->Value->Sem Value}{r r':R2}(h:OpR X f r)(m:∀x y H Q,r' x y H Q->r x y H Q):OpR X f r':=λpins s σ H x y v u Q I rx ry q=>h pins s σ H x y v u Q I rx ry (m x y H Q q)
theorem CallR.imp{f:Value}{r r':List V->Hp->VK->Prop}(h:CallR X f r)(m:∀xs H Q,r' xs H Q->r xs H Q):CallR X f r':=λpins s σ H xs us Q I rs q=>h pins s σ H xs us Q I rs (m xs H Q q)
theorem JF(i:Nat)(hG:G[i]?=some (some d))(hp:PE X (.Name x pos) (tVar i)):EV X G (.Name x pos) d:=hp.imp λσ H Q ⟨h,k⟩=>by
 obtain⟨v,a,b⟩:=h.2 i d hG
 exact⟨v,a,k v H (Same.refl H) b⟩
theorem evv(i:Nat)(hG:G[i]?=some (some d):=by rfl)(hN:X.N[i]?=some x:=by rfl)(hv:Vis X.env.scope x:=by first|exact inl rfl|exact Or.inr (inl rfl)|exact Or.inr (Or.inr rfl))(hd:(x==("__debug__":Str))=false:=by decide)(hcd:(x==("__classdict__":Str))=false:=by decide):EV X G (.Name x pos) d:=JF i hG (pv i hN hv hd hcd)
theorem Ab{i j}:EV X G (.Constant (.int i) j pos) (.int i):=pe_int.imp λσ H Q ⟨h,k⟩=>k _ H (Same.refl H) (.int i)
theorem EM{i j}:EV X G (.Constant (.bool i) j pos) (.bool i):=pe_bl.imp λσ H Q ⟨h,k⟩=>k _ H (Same.refl H) (.bl i)
theorem Ak{i j}:EV X G (.Constant (.str i) j pos) (.str i):=pe_str.imp λσ H Q ⟨h,k⟩=>k _ H (Same.refl H) (.str i)
theorem Gr{j}:EV X G (.Constant .none j pos) .none:=pe_non.imp λσ H Q ⟨h,k⟩=>k _ H (Same.refl H) .non
def rD(K:Frag)(da db d:PyData):R2:=λx y H Q=>DV K H x da/\DV K H y db/\∀v H',Same H H'->DV K H' v d->Q v H'
abbrev OD(X:Cx)(f:Value->Value->Sem Value)(da db d:PyData):Prop:=OpR X f (rD X.K da db d)
theorem IW{r:R2}{Q:VK}(h:SD K H σ G)(k:∀x y H',Same H H'->DV K H' x da->DV K H' y db->r x y H' Q):tOp r (tD K G da) (tD K G db) σ H Q:=
 ⟨h,λx H1 s1 d1=>⟨h.mono s1,λy H2 s2 d2=>k x y H2 (s1.trans s2) (d1.mono s2) d2⟩⟩
theorem Ac{op:Operator}(ha:EV X G a da)(hb:EV X G b db)(ho:OD X (binaryOp op) da db d):EV X G (.BinOp a op b pos) d:=
 (SX ho ha hb).imp λσ H Q ⟨h,k⟩=>IW h λx y H' s' d1 d2=>⟨d1,d2,λv H2 s2 dv=>k v H2 (s'.trans s2) dv⟩
theorem AX{op:CmpOp}(ha:EV X G a da)(hb:EV X G b db)(ho:OD X (compareOp op) da db d)(hm:behindInMarks op b=false):EV X G (.Compare a [op] [b] pos) d:=
 (Ni ho ha hb hm).imp λσ H Q ⟨h,k⟩=>IW h λx y H' s' d1 d2=>⟨d1,d2,λv H2 s2 dv=>k v H2 (s'.trans s2) dv⟩
theorem Ah{op:CmpOp}{k:Bool}(ha:EV X G a da)(hb:EV X G b db)(ho:OD X (compareOp op) da db (.bool k))(hm:behindInMarks op b=false):TV X G (.Compare a [op] [b] pos) k:=
 (NM ho ha hb hm).imp λσ H Q ⟨h,kk⟩=>IW h λx y H' s' d1 d2=>⟨d1,d2,λv H2 s2 dv=>⟨k,dv.of_bl,kk H2 (s'.trans s2)⟩⟩
theorem E4{f:Value->Value->Sem Value}{i j:Int}{g:Int->Int->V}(h:OpR X f (rI0 g))(hd:∀H,DV X.K H (g i j) d):OD X f (.int i) (.int j) d:=
 h.imp λx y H Q ⟨h1,h2,k⟩=>⟨i,j,h1.of_int,h2.of_int,k _ H (Same.refl H) (hd H)⟩
theorem MY{f:Value->Value->Sem Value}{i j:Int}{C:Int->Int->Prop}{g:Int->Int->V}(h:OpR X f (rI C g))(hc:C i j)(hd:∀H,DV X.K H (g i j) d):OD X f (.int i) (.int j) d:=
 h.imp λx y H Q ⟨h1,h2,k⟩=>⟨i,j,h1.of_int,h2.of_int,hc,k _ H (Same.refl H) (hd H)⟩
theorem Bs{k:Bool}(hu:X.A.units+64<cLine)(ha:da.canLay0=true)(hb:db.canLay0=true)(hd:min da.depth db.depth<=60)(hk:eqv da db=k):OD X (compareOp .Eq) da db (.bool k):=by
 intro pins s σ H x y v u Q I rx ry ⟨h1,h2,q⟩
 obtain⟨as,r1⟩:=h1.reads I rx ha
 obtain⟨bs,r2⟩:=h2.reads I ry hb
 refine PySem.SeqAt.compareEq_reads r1 r2 ha hb (by omega) ⟨.bl _,H,I,rfl,q _ H (Same.refl H) ?_⟩
 rw[hk]
 exact .bl k
theorem Eo{k:Bool}(hu:X.A.units+64<cLine)(ha:da.canLay0=true)(hb:db.canLay0=true)(hd:min da.depth db.depth<=60)(hk:(!PyData.eqv da db)=k):OD X (compareOp .NotEq) da db (.bool k):=by
 intro pins s σ H x y v u Q I rx ry ⟨h1,h2,q⟩
 obtain⟨as,r1⟩:=h1.reads I rx ha
 obtain⟨bs,r2⟩:=h2.reads I ry hb
 refine PySem.SeqAt.compareNe_reads r1 r2 ha hb (by omega) ⟨.bl _,H,I,rfl,q _ H (Same.refl H) ?_⟩
 rw[hk]
 exact .bl k
end
end
section
variable{a:Expr}{rest:List Expr}
theorem Same.new{p:Addr}{o:HO}(h:H p=none):Same H (upd H p o):=λb u e=>by rw[Aj (Av e h)];exact e
theorem AM{k:Bool}(h:EV X G e (.bool k))(he:∀whole,isTrue e X.env whole=(do let v <-whole;standAt e.pos;holding [v] (truthy v)):=by intro _;rfl):TV X G e k:=
 (PR h he).imp λσ H Q ⟨h,q⟩=>⟨h,λv H' s' dv=>⟨k,dv.of_bl,q H' s'⟩⟩
theorem Bg{k:Bool}(h:TV X G a k):WV X G (.BoolOp .And [a] pos) k:=RN h
theorem By{k:Bool}(h:TV X G a k):WV X G (.BoolOp .Or [a] pos) k:=T_ h
theorem AY{k k':Bool}(h:TV X G a k)(h2:k=true->WV X G (.BoolOp .And (b::rest) pos) k'):WV X G (.BoolOp .And (a::b::rest) pos) (k&&k'):=by
 cases k with
 |true=>exact(TM h (h2 rfl)).imp λσ H Q ⟨h,q⟩=>⟨h,λH' s'=>(by simp only[if_true];exact⟨h.mono s',λH2 s2=>q H2 (s'.trans s2)⟩)⟩
 |false=>
  intro wh pins s σ H Q I ⟨h1,q⟩
  refine isTrue_and (thn (h pins s σ H (λc H1=>c=false/\Q false H1) I ⟨h1,λH' s'=>⟨rfl,q H' s'⟩⟩) λc s1 ⟨H1,I1,e1,q1⟩=>?_)
  subst e1
  exact⟨H1,I1,q1⟩
theorem BE{k k':Bool}(h:TV X G a k)(h2:k=false->WV X G (.BoolOp .Or (b::rest) pos) k'):WV X G (.BoolOp .Or (a::b::rest) pos) (k||k'):=by
 cases k with
 |false=>exact(Vo h (h2 rfl)).imp λσ H Q ⟨h,q⟩=>⟨h,λH' s'=>(by simp only[false_eq_true,if_false];exact⟨h.mono s',λH2 s2=>q H2 (s'.trans s2)⟩)⟩
 |true=>
  intro wh pins s σ H Q I ⟨h1,q⟩
  refine isTrue_or (thn (h pins s σ H (λc H1=>c=true/\Q true H1) I ⟨h1,λH' s'=>⟨rfl,q H' s'⟩⟩) λc s1 ⟨H1,I1,e1,q1⟩=>?_)
  subst e1
  exact⟨H1,I1,q1⟩
theorem Bn{k:Bool}(h:WV X G e k):TV X G e k:=h.pt
theorem AT{k:Bool}(h:TV X G a k):TV X G (.UnaryOp .Not a pos) (!k):=(Q5 h).imp λσ H Q ⟨h,q⟩=>⟨h,λH' s'=>q H' s'⟩
theorem Gs{k:Bool}(h:EV X G a (.bool k)):EV X G (.UnaryOp .Not a pos) (.bool (!k)):=(Tc h).imp λσ H Q ⟨h,q⟩=>⟨h,λv H' s' dv=>⟨k,dv.of_bl,q _ H' s' (.bl _)⟩⟩
theorem Dt{op}(h:EV X G a d):EV X G (.BoolOp op [a] pos) d:=Te h
theorem Cj{k:Bool}(h:EV X G a (.bool k))(h2:k=true->EV X G (.BoolOp .And (b::rest) pos) d)(h3:k=false->d=.bool false):EV X G (.BoolOp .And (a::b::rest) pos) d:=by
 cases k with
 |true=>exact(Pz h (h2 rfl)).imp λσ H Q ⟨h,q⟩=>⟨h,λv H' s' dv=>⟨true,dv.of_bl,by simp only[if_true];exact⟨h.mono s',λv2 H2 s2 d2=>q v2 H2 (s'.trans s2) d2⟩⟩⟩
 |false=>
  intro pins s σ H Q I ⟨h1,q⟩
  refine BoolOp_and (thn (h pins s σ H (λv H1=>v=.bl false/\Q (.bl false) H1) I ⟨h1,λv H' s' dv=>⟨dv.of_bl,q _ H' s' (by rw[h3 rfl];exact .bl _)⟩⟩) λv s1 ⟨x,H1,I1,r1,e1,q1⟩=>?_)
  subst e1
  cases r1
  exact wpAny_truthy_bool ⟨.bl false,H1,I1,rfl,q1⟩
theorem UP{k:Bool}(h:EV X G a (.bool k))(h2:k=false->EV X G (.BoolOp .Or (b::rest) pos) d)(h3:k=true->d=.bool true):EV X G (.BoolOp .Or (a::b::rest) pos) d:=by
 cases k with
 |false=>exact(UZ h (h2 rfl)).imp λσ H Q ⟨h,q⟩=>⟨h,λv H' s' dv=>⟨false,dv.of_bl,by simp only[false_eq_true,if_false];exact⟨h.mono s',λv2 H2 s2 d2=>q v2 H2 (s'.trans s2) d2⟩⟩⟩
 |true=>
  intro pins s σ H Q I ⟨h1,q⟩
  refine BoolOp_or (thn (h pins s σ H (λv H1=>v=.bl true/\Q (.bl true) H1) I ⟨h1,λv H' s' dv=>⟨dv.of_bl,q _ H' s' (by rw[h3 rfl];exact .bl _)⟩⟩) λv s1 ⟨x,H1,I1,r1,e1,q1⟩=>?_)
  subst e1
  cases r1
  exact wpAny_truthy_bool ⟨.bl true,H1,I1,rfl,q1⟩
theorem QU{op op':CmpOp}{k k':Bool}(ho:OD X (compareOp op) da db (.bool k))(ho':k=true->OD X (compareOp op') db dc (.bool k'))(ha:EV X G a da)(hb:EV X G b db)(hc:k=true->EV X G c dc)
  (hm:lastMarks [op,op'] [b,c]=false:=by with_unfolding_all rfl):EV X G (.Compare a [op,op'] [b,c] pos) (.bool (k&&k')):=by
 cases k with
 |true=>
  refine(PP ho (ho' rfl) ha hb (hc rfl) hm).imp λσ H Q ⟨h,q⟩=>⟨h,λx H1 s1 d1=>⟨h.mono s1,λy H2 s2 d2=>⟨d1.mono s2,d2,λv H3 s3 d3=>⟨true,d3.of_bl,?_⟩⟩⟩⟩
  simp only[if_true]
  exact⟨((h.mono s1).mono s2).mono s3,λz H4 s4 d4=>⟨(d2.mono s3).mono s4,d4,λv H5 s5 d5=>q v H5 ((((s1.trans s2).trans s3).trans s4).trans s5) d5⟩⟩
 |false=>
  intro pins s σ H Q I ⟨h1,q⟩
  refine Compare_chain (thn (ha pins s σ H (λx H1=>Same H H1/\DV X.K H1 x da) I ⟨h1,λv H' s' dv=>⟨s',dv⟩⟩) λv s1 ⟨x,H1,I1,r1,z1,d1⟩=>
   chain_link (thn (hb pins s1 σ H1 (λy H2=>Same H H2/\DV X.K H2 x da/\DV X.K H2 y db) I1 ⟨h1.mono z1,λv H' s' dv=>⟨z1.trans s',d1.mono s',dv⟩⟩) λu s2 ⟨y,H2,I2,r2,z2,d2,d3⟩=>
   thn (ho pins s2 σ H2 x y v u (λz H3=>z=.bl false/\Q (.bl false) H3) I2 r1 r2 ⟨d2,d3,λv H3 s3 d3=>⟨d3.of_bl,q _ H3 (z2.trans s3) (.bl false)⟩⟩) λw s3 ⟨z,H3,I3,r3,e3,q3⟩=>?_)) hm
  subst e3
  cases r3
  exact wpAny_truthy_bool (ite_ff ⟨.bl false,H3,I3,rfl,q3⟩)
theorem AH{i j:Int}:OD X (binaryOp .Add) (.int i) (.int j) (.int (i+j)):=E4 Uu λH=>.int _
theorem Hu{i j:Int}:OD X (binaryOp .Sub) (.int i) (.int j) (.int (i-j)):=E4 U0 λH=>.int _
theorem Dw{i j:Int}(h:CMul i j):OD X (binaryOp .Mult) (.int i) (.int j) (.int (i*j)):=MY Tq h λH=>.int _
theorem B8{i j:Int}(h:CDiv i j):OD X (binaryOp .FloorDiv) (.int i) (.int j) (.int (i/j)):=MY RA h λH=>.int _
theorem A1{i j:Int}(h:0<j):OD X (binaryOp .Mod) (.int i) (.int j) (.int (i%j)):=MY Uz h λH=>.int _
theorem Ul{i j:Int}(h:CPow i j):OD X (binaryOp .Pow) (.int i) (.int j) (.int (i^j.toNat)):=MY U3 h λH=>.int _
theorem Ql{i j:Int}:OD X (binaryOp .BitXor) (.int i) (.int j) (.int (Builtin.bitXor i j)):=E4 Tp λH=>.int _
theorem Vr{i j:Int}:OD X (compareOp .Lt) (.int i) (.int j) (.bool (decide (i<j))):=E4 UB λH=>.bl _
theorem Ef{i j:Int}:OD X (compareOp .LtE) (.int i) (.int j) (.bool (decide (i<=j))):=E4 Vb λH=>.bl _
theorem FN{i j:Int}:OD X (compareOp .Gt) (.int i) (.int j) (.bool (decide (j<i))):=E4 Vd λH=>.bl _
theorem Vg{i j:Int}:OD X (compareOp .GtE) (.int i) (.int j) (.bool (decide (j<=i))):=E4 Vq λH=>.bl _
theorem C6{xs ys:List PyData}(hz:xs.length+ys.length<=sizeLine):OD X (binaryOp .Add) (.list xs) (.list ys) (.list (xs++ys)):=by
 intro pins s σ H x y v u Q I rx ry ⟨h1,h2,q⟩
 obtain⟨l,us,rfl,hl,d1⟩:=h1.of_lst
 obtain⟨m,ws,rfl,hm,d2⟩:=h2.of_lst
 cases rx
 cases ry
 obtain⟨its,r,pl,_⟩:=I.list hl
 obtain⟨its2,r2,pl2,_⟩:=I.list hm
 obtain⟨⟨cls,dd,data,sl⟩,ho,hc,n,hd⟩:=pl.isList
 obtain⟨⟨cls2,dd2,data2,sl2⟩,ho2,hc2,n2,hd2⟩:=pl2.isList
 simp only at hc hd hc2 hd2
 subst hc hd hc2 hd2
 have hn:its.toArray.size+its2.toArray.size<=sizeLine:=by rw[size_toArray,size_toArray,<-r.length,<-r2.length,d1.length,d2.length];exact hz
 refine concat_meets ⟨_,ho,rfl⟩ ⟨_,ho2,rfl⟩ noFill_list_add seq_list_add PySem.F.slot_list_add PySem.F.entry_list_add (PySem.F.args_list_add_2 _ _) (list_addW l m its.toArray its2.toArray n n2 dd dd2 sl sl2 hn) ⟨ho,ho2,?_⟩
 have ea:its.toArray++its2.toArray=(its++its2).toArray:=by simp
 rw[ea]
 have hf:=I.hok.fresh (le_refl _)
 refine⟨.ref s.heap.objs.size,_,I.laid (t':=s.toks) (o:=.lst (us++ws)) (λb o e=>get?_push_of_some _ e) (le_refl _) ⟨by rw[length_append,d1.length,d2.length];exact hz,its++its2,0,r.append r2,get?_push_size _ rfl⟩,rfl,q _ _ (Same.new hf) ?_⟩
 exact .lst (SqL.of Al) ((d1.append d2).mono (Same.new hf))
theorem NE{xs ys:List PyData}(hx:xs≠[])(hz:xs.length+ys.length<=sizeLine):OD X (binaryOp .Add) (.tuple xs) (.tuple ys) (.tuple (xs++ys)):=
 op_catT.imp λx y H Q ⟨h1,h2,q⟩=>by
  obtain⟨l,us,rfl,hl,d1⟩:=h1.of_tup
  obtain⟨m,ws,rfl,hm,d2⟩:=h2.of_tup
  refine⟨l,m,us,ws,rfl,rfl,hl,hm,λz=>hx ?_,by rw[d1.length,d2.length];exact hz,λz=>?_,λz p hp=>?_⟩
  .subst z
   cases d1
   rfl
  .subst z
   cases d2
   rw[append_nil]at q
   exact q _ H (Same.refl H) (.tup hl d1)
  .exact q _ _ (Same.new hp) (.tup (SqT.of Al) ((d1.append d2).mono (Same.new hp)))
def DE:PyData->Bool
 | .none=>true
 | .bool _=>true
 | .int _=>true
 | .str _=>true
 |_=>false
theorem DV.flat{v:V}(h:DV K H v d)(f:DE d=true):EO v=true:=by
 cases h<;>first|rfl|cases f
theorem DVs.flat:∀{vs:List V}{ds:List PyData},DVs K H vs ds->ds.all DE=true->vs.all EO=true
 |_,_,.nil,_=>rfl
 |_,_,.cons h t,f=>by
  rw[List.all_cons,Bool.and_eq_true]at f ⊢
  exact⟨h.flat f.1,DVs.flat t f.2⟩
theorem DV.eqV_eqv{v w:V}{e:PyData}(h:DV K H v d)(h':DV K H w e)(f:DE d=true)(f':DE e=true):eqV v w=PyData.eqv d e:=by
 cases h<;>cases h'<;>first|rfl|(simp[DE]at f;done)|(simp[DE]at f';done)
theorem DVs.inV{K:PySem.W.Frag}{H:Hp}{v:V}{d:PyData}(h:DV K H v d)(f:DE d=true):∀{vs:List V}{ds:List PyData},DVs K H vs ds->ds.all DE=true->inV v vs=ds.any λe=>PyData.eqv e d
 |_,_,.nil,_=>rfl
 |_,_,.cons h' t,fs=>by
  rw[List.all_cons,Bool.and_eq_true]at fs
  have ih:=DVs.inV h f t fs.2
  unfold L2.inV at ih ⊢
  rw[List.any_cons,List.any_cons,ih,h'.eqV_eqv h fs.1 f]
theorem FV{xs:List PyData}{k:Bool}(hs:db=.list xs\/db=.tuple xs)(f:DE da=true)(fs:xs.all DE=true)(hk:(xs.any λe=>eqv e da)=k):OD X (compareOp .In) da db (.bool k):=
 op_in_seq.imp λx y H Q ⟨h1,h2,q⟩=>by
  have z:∃p us,y=.ref p/\(SqL X.K H p us\/SqT X.K H p us)/\DVs X.K H us xs:=by
   rcases hs with rfl|rfl
   .obtain⟨l,us,e,hl,d1⟩:=h2.of_lst
    exact⟨l,us,e,.inl hl,d1⟩
   .obtain⟨l,us,e,hl,d1⟩:=h2.of_tup
    exact⟨l,us,e,.inr hl,d1⟩
  obtain⟨p,us,e,hl,d1⟩:=z
  refine⟨p,us,e,hl,h1.flat f,d1.flat fs,q _ H (Same.refl H) ?_⟩
  rw[if_neg (by simp),d1.inV h1 f fs,hk]
  exact .bl k
theorem FK{xs:List PyData}{k:Bool}(hs:db=.list xs\/db=.tuple xs)(f:DE da=true)(fs:xs.all DE=true)(hk:(!xs.any λe=>eqv e da)=k):OD X (compareOp .NotIn) da db (.bool k):=
 op_notIn_seq.imp λx y H Q ⟨h1,h2,q⟩=>by
  have z:∃p us,y=.ref p/\(SqL X.K H p us\/SqT X.K H p us)/\DVs X.K H us xs:=by
   rcases hs with rfl|rfl
   .obtain⟨l,us,e,hl,d1⟩:=h2.of_lst
    exact⟨l,us,e,.inl hl,d1⟩
   .obtain⟨l,us,e,hl,d1⟩:=h2.of_tup
    exact⟨l,us,e,.inr hl,d1⟩
  obtain⟨p,us,e,hl,d1⟩:=z
  refine⟨p,us,e,hl,h1.flat f,d1.flat fs,q _ H (Same.refl H) ?_⟩
  rw[if_pos rfl,d1.inV h1 f fs,hk]
  exact .bl k
def nonD:PyData->Bool
 | .none=>true
 |_=>false
theorem DV.isNon{v:V}(h:DV K H v d):decide (v=.non)=nonD d:=by
 cases h<;>rfl
theorem Ad:AV X G [] []:=pa_nil.imp λσ H Q ⟨h,q⟩=>q [] H (Same.refl H) .nil
theorem Aa{ds:List PyData}(h:EV X G e d)(hr:AV X G es ds)(hs:Zst X e es:=by rfl):AV X G (e::es) (d::ds):=
 (BS h hr hs).imp λσ H Q ⟨h,q⟩=>⟨h,λv H1 s1 d1=>⟨h.mono s1,λvs H2 s2 d2=>q _ H2 (s1.trans s2) (.cons (d1.mono s2) d2)⟩⟩
theorem AW{x1}{ds:List PyData}(h:AV X G es ds)(hz:ds.length<=sizeLine):EV X G (.Tuple es x1 pos) (.tuple ds):=
 (T5 h).imp λσ H Q ⟨h,q⟩=>⟨h,λvs H1 s1 d1=>⟨by rw[d1.length];exact hz,λp hp=>q _ _ (s1.trans (Same.new hp)) (.tup (SqT.of Al) (d1.mono (Same.new hp)))⟩⟩
theorem AR{ds:List PyData}(h:AV X G es ds)(hz:ds.length<=sizeLine):EV X G (.List es pos) (.list ds):=
 (Ho h).imp λσ H Q ⟨h,q⟩=>⟨h,λvs H1 s1 d1=>⟨by rw[d1.length];exact hz,λp hp=>q _ _ (s1.trans (Same.new hp)) (.lst (SqL.of Al) (d1.mono (Same.new hp)))⟩⟩
theorem DVs.atI{K:PySem.W.Frag}{H:Hp}{vs:List V}{ds:List PyData}{i:Int}{d:PyData}(h:DVs K H vs ds)(e:atI ds i=some d):∃v,L2.atI vs i=some v/\DV K H v d:=by
 unfold L2.atI at e ⊢
 rw[h.length]
 cases q:ixN ds.length i with
 |none=>rw[q]at e;cases e
 |some j=>
  rw[q]at e
  exact h.get e
theorem As{ds:List PyData}{i:Int}(ha:EV X G a (.list ds))(hb:EV X G b (.int i))(he:atI ds i=some d)(hs:FF b:=by intro _ _;rfl):EV X G (.Subscript a b pos) d:=
 (NG Nw ha hb hs).imp λσ H Q ⟨h,q⟩=>IW h λx y H' s' d1 d2=>by
  obtain⟨l,us,rfl,hl,d3⟩:=d1.of_lst
  obtain⟨v,e1,e2⟩:=d3.atI he
  exact⟨l,us,i,v,rfl,d2.of_int,hl,e1,q v H' s' e2⟩
theorem AK{ds:List PyData}{i:Int}(ha:EV X G a (.tuple ds))(hb:EV X G b (.int i))(he:atI ds i=some d)(hs:FF b:=by intro _ _;rfl):EV X G (.Subscript a b pos) d:=
 (NG Tx ha hb hs).imp λσ H Q ⟨h,q⟩=>IW h λx y H' s' d1 d2=>by
  obtain⟨l,us,rfl,hl,d3⟩:=d1.of_tup
  obtain⟨v,e1,e2⟩:=d3.atI he
  exact⟨l,us,i,v,rfl,d2.of_int,hl,e1,q v H' s' e2⟩
theorem QX{i:Int}(ha:EV X G a (.int i)):EV X G (.UnaryOp .USub a pos) (.int (-i)):=
 (UV T7 ha).imp λσ H Q ⟨h,q⟩=>⟨h,λv H' s' dv=>⟨i,dv.of_int,q _ H' s' (.int _)⟩⟩
def tDO(K:Frag)(G:Gam)(o:Option Int):TO:=λσ H Q=>SD K H σ G/\∀H',Same H H'->Q o H'
abbrev OV(X:Cx)(G:Gam)(e:Option Expr)(o:Option Int):Prop:=PO X e (tDO X.K G o)
theorem GY:OV X G none none:=λpins s σ H Q I ⟨h,q⟩=>Sq pins s σ H Q I (q H (Same.refl H))
theorem Co{i:Int}(h:EV X G e (.int i)):OV X G (some e) (some i):=λpins s σ H Q I ⟨h1,q⟩=>Sl h pins s σ H Q I ⟨h1,λv H' s' dv=>⟨i,dv.of_int,q H' s'⟩⟩
def cutD(xs:List PyData)(lo hi:Option Int):List PyData:=(xs.drop (HT.sIx xs.length 0 lo)).take (HT.sIx xs.length xs.length hi-HT.sIx xs.length 0 lo)
theorem DVs.cut{vs:List V}{ds:List PyData}(h:DVs K H vs ds)(lo hi:Option Int):DVs K H (cutV vs lo hi) (cutD ds lo hi):=by
 unfold cutV cutD
 rw[h.length]
 exact(h.drop _).take _
theorem JC{lo hi:Option Expr}{ol oh:Option Int}{p2:Pos}{ds:List PyData}(ha:EV X G a (.list ds))(hl:OV X G lo ol)(hh:OV X G hi oh):EV X G (.Subscript a (.Slice lo hi none p2) pos) (.list (cutD ds ol oh)):=
 (KG Rr ha hl hh).imp λσ H Q ⟨h,q⟩=>⟨h,λv H1 s1 d1=>⟨h.mono s1,λH2 s2=>⟨(h.mono s1).mono s2,λH3 s3=>by
  obtain⟨l,us,rfl,hl,d3⟩:=((d1.mono s2).mono s3).of_lst
  exact⟨l,us,rfl,hl,λp hp=>q _ _ (((s1.trans s2).trans s3).trans (Same.new hp)) (.lst (SqL.of Al) ((d3.cut ol oh).mono (Same.new hp)))⟩⟩⟩⟩
theorem LA{lo hi:Option Expr}{ol oh:Option Int}{p2:Pos}{ds:List PyData}(ha:EV X G a (.tuple ds))(hl:OV X G lo ol)(hh:OV X G hi oh)(hw:¬(HT.sIx ds.length 0 ol=0/\HT.sIx ds.length ds.length oh=ds.length)):
  EV X G (.Subscript a (.Slice lo hi none p2) pos) (.tuple (cutD ds ol oh)):=
 (KG Uv ha hl hh).imp λσ H Q ⟨h,q⟩=>⟨h,λv H1 s1 d1=>⟨h.mono s1,λH2 s2=>⟨(h.mono s1).mono s2,λH3 s3=>by
  obtain⟨l,us,rfl,hl,d3⟩:=((d1.mono s2).mono s3).of_tup
  exact⟨l,us,rfl,hl,by rw[d3.length];exact hw,λp hp=>q _ _ (((s1.trans s2).trans s3).trans (Same.new hp)) (.tup (SqT.of Al) ((d3.cut ol oh).mono (Same.new hp)))⟩⟩⟩⟩
end
section
variable{κ:Type}[DecidableEq κ]
def valV(kvs:List (κ×V))(k:κ):Option V:=(kvs.find? λkv=>decide (kv.1=k)).map (·.2)
def putK(kvs:List (κ×V))(k:κ)(v:V):List (κ×V):=
 if(kvs.any λkv=>decide (kv.1=k))=true then kvs.map (λkv=>if kv.1=k then(kv.1,v)else kv)else kvs++[(k,v)]
def V7(kvs:List (κ×V))(k:κ):List (κ×V):=kvs.filter λkv=>decide (kv.1≠k)
theorem DM{p:κ×V}{r:List (κ×V)}{k:κ}(e:p.1=k):valV (p::r) k=some p.2:=by simp[valV,find?_cons,e]
theorem CT{p:κ×V}{r:List (κ×V)}{k:κ}(e:¬p.1=k):valV (p::r) k=valV r k:=by simp[valV,find?_cons,e]
theorem Cr(k:κ):∀kvs:List (κ×V),(kvs.any λkv=>decide (kv.1=k))=(valV kvs k).isSome
 |[]=>rfl
 |p::r=>by
  rw[any_cons]
  by_cases e:p.1=k
  .simp only[DM e,decide_eq_true e,Bool.true_or,Option.isSome_some]
  .rw[CT e,decide_eq_false e,Bool.false_or];exact Cr k r
theorem El(kvs:List (κ×V))(k:κ)(v:V):(putK kvs k v).length<=kvs.length+1:=by
 unfold putK
 split
 .rw[length_map];omega
 .rw[length_append,length_cons,length_nil];omega
theorem RelO.isSome_eq{o:Option V}{u:Option Value}(r:RelO o u):o.isSome=u.isSome:=by
 cases o with
 |none=>cases u with
  |none=>rfl
  |some _=>exact(show False from r).elim
 |some _=>cases u with
  |none=>exact(show False from r).elim
  |some _=>rfl
theorem KV.val{kvs:List (κ×V)}{vs:List (κ×Value)}(r:KV kvs vs)(k:κ):RelO (valV kvs k) (valueAt vs k):=by
 unfold KV at r
 induction r with
 |nil=>exact True.intro
 | @cons p q ps qs h t ih=>
   obtain⟨h1,h2⟩:=h
   by_cases e:p.1=k
   .have e':q.1=k:=h1.symm.trans e
    have b:valueAt (q::qs) k=some q.2:=by simp[valueAt,List.find?_cons,e']
    rw[DM e,b];exact h2
   .have e':¬q.1=k:=λz=>e (h1.trans z)
    have b:valueAt (q::qs) k=valueAt qs k:=by simp[valueAt,List.find?_cons,e']
    rw[CT e,b];exact ih
theorem KV.any{kvs:List (κ×V)}{vs:List (κ×Value)}(r:KV kvs vs)(k:κ):(kvs.any λkv=>decide (kv.1=k))=vs.any λkv=>decide (kv.1=k):=by
 unfold KV at r
 induction r with
 |nil=>rfl
 |cons h t ih=>rw[List.any_cons,List.any_cons,ih,h.1]
theorem KV.repl{kvs:List (κ×V)}{vs:List (κ×Value)}(r:KV kvs vs)(k:κ){y:V}{u:Value}(ry:RelV y u):
  KV (kvs.map λkv=>if kv.1=k then(kv.1,y)else kv) (vs.map λkv=>if kv.1=k then(kv.1,u)else kv):=by
 unfold KV at r ⊢
 induction r with
 |nil=>exact .nil
 | @cons p q ps qs h t ih=>
   rw[List.map_cons,List.map_cons]
   refine .cons ?_ ih
   obtain⟨h1,h2⟩:=h
   by_cases e:p.1=k
   .rw[if_pos e,if_pos (h1.symm.trans e)];exact⟨h1,ry⟩
   .rw[if_neg e,if_neg (λz=>e (h1.trans z))];exact⟨h1,h2⟩
theorem KV.put{kvs:List (κ×V)}{vs:List (κ×Value)}(r:KV kvs vs)(k:κ){y:V}{u:Value}(ry:RelV y u):KV (putK kvs k y) (stored vs k u):=by
 unfold putK stored
 rw[r.any k]
 by_cases e:(vs.any λkv=>decide (kv.1=k))=true
 .rw[if_pos e,if_pos e];exact r.repl k ry
 .rw[if_neg e,if_neg e];exact Paired.snoc r ⟨rfl,ry⟩
theorem KV.keys{kvs:List (κ×V)}{vs:List (κ×Value)}(r:KV kvs vs):kvs.map (·.1)=vs.map (·.1):=by
 unfold KV at r
 induction r with
 |nil=>rfl
 |cons h t ih=>rw[List.map_cons,List.map_cons,ih,h.1]
theorem KV.length{kvs:List (κ×V)}{vs:List (κ×Value)}(r:KV kvs vs):kvs.length=vs.length:=Paired.length r
end
variable{u:Value}
theorem M6{k:Key}(r:RelV (kV k) u):(Bc P w).is k u=true:=by
 cases k with
 |inl i=>obtain⟨t,e⟩:=(show ∃t,u=Value.int i t from r);subst e;exact Kb P w i t
 |inr x=>obtain⟨t,e⟩:=(show ∃t,u=Value.str x t from r);subst e;exact Kj P w x t
theorem Jn{P:Program}{w:World}:∀{ks:List Key}{us:List Value},Vals (ks.map kV) us->ItemsAre (Bc P w) ks us
 |[],_,r=>by rw[map_nil]at r;cases r;exact .nil
 |k::ks,_,r=>by
  rw[map_cons]at r
  cases r with
  |cons h t=>exact .cons (M6 h) (Jn t)
abbrev KT(H:Hp):List (List Key×V)->List (List Key×Addr×Value)->Prop:=Paired λp q=>p.1=q.1/\H q.2.1=some (.tup (p.1.map kV))/\RelV p.2 q.2.2
variable{kvs:List (List Key×V)}{xs:List (List Key×Addr×Value)}
theorem KT.val(r:KT H kvs xs)(k:List Key):RelO (valV kvs k) ((atKey xs k).map (·.2)):=by
 induction r with
 |nil=>exact True.intro
 | @cons p q ps qs h t ih=>
   obtain⟨h1,_,h2⟩:=h
   by_cases e:p.1=k
   .have e':q.1=k:=h1.symm.trans e
    have b:atKey (q::qs) k=some q.2:=by simp[atKey,List.find?_cons,e']
    rw[DM e,b];exact h2
   .have e':¬q.1=k:=λz=>e (h1.trans z)
    have b:atKey (q::qs) k=atKey qs k:=by simp[atKey,List.find?_cons,e']
    rw[CT e,b];exact ih
variable{y:V}
theorem KT.repl(r:KT H kvs xs)(k:List Key)(ry:RelV y u):
  KT H (kvs.map λkv=>if kv.1=k then(kv.1,y)else kv) (xs.map (putAt k u)):=by
 induction r with
 |nil=>exact .nil
 | @cons p q ps qs h t ih=>
   rw[List.map_cons,List.map_cons]
   refine .cons ?_ ih
   obtain⟨h1,h2,h3⟩:=h
   unfold putAt
   by_cases e:p.1=k
   .rw[if_pos e,if_pos (h1.symm.trans e)];exact⟨h1,h2,ry⟩
   .rw[if_neg e,if_neg (λz=>e (h1.trans z))];exact⟨h1,h2,h3⟩
theorem KT.put(r:KT H kvs xs)(k:List Key){b:Addr}(hb:H b=some (.tup (k.map kV)))(ry:RelV y u):
  KT H (putK kvs k y) (storedH xs k b u):=by
 have e:(kvs.any λkv=>decide (kv.1=k))=(atKey xs k).isSome:=by
  rw[Cr,(r.val k).isSome_eq,Option.isSome_map]
 unfold putK storedH
 rw[e]
 by_cases q:(atKey xs k).isSome=true
 .rw[if_pos q,if_pos q];exact r.repl k ry
 .rw[if_neg q,if_neg q];exact Paired.snoc r ⟨rfl,hb,ry⟩
theorem KT.keeps(r:KT H kvs xs)(ht:∀b ys,H b=some (.tup ys)->H' b=some (.tup ys)):KT H' kvs xs:=
 Paired.mapP r λ_ _ z=>⟨z.1,ht _ _ z.2.1,z.2.2⟩
section
variable{h:Heap}
theorem SH{u:HO}(ok:HOk P w H h)(e:Rd H a u):ObjOk P w H h a u:=e.ok ok
theorem Lg{kvs:List (Key×V)}(ok:HOk P w H h)(e:Rd H a (.dK kvs)):kvs.length<=sizeLine/\(a==sysModules)=false/\∃vs,KV kvs vs/\h.DictOf (Bc P w) a vs:=
 show ObjOk P w H h a (.dK kvs)from SH ok e
theorem KU{kvs:List (Key×V)}(ok:HOk P w H h)(e:H a=some (.dK kvs)):kvs.length<=sizeLine/\(a==sysModules)=false/\∃vs,KV kvs vs/\h.DictOf (Bc P w) a vs:=Lg ok (.inl e)
theorem Lu{ks:List Key}(ok:HOk P w H h)(e:H a=some (.tup (ks.map kV))):(tupleKind (Bc P w)).is h ks a:=by
 obtain⟨_,⟨its,r,o,h1,h2,n,h3⟩,_⟩:=(show ObjOk P w H h a (.tup (ks.map kV))from ok a _ e)
 exact⟨o,its.toArray,n,h1,h2,h3,by simpa using Jn r⟩
theorem Ny(ok:HOk P w H h)(e:Rd H a (.dT kvs)):kvs.length<=sizeLine/\(a==sysModules)=false/\
  ∃xs,KT H kvs xs/\h.DictOfH (tupleKind (Bc P w)) a xs:=by
 obtain⟨z,y,xs,r,o,es,ep,h1,h2,h3,h4,h5⟩:=(show ObjOk P w H h a (.dT kvs)from SH ok e)
 refine⟨z,y,xs,r,o,es,ep,h1,h2,h3,h4,λx hx=>?_,h5⟩
 have all:∀{l:List (List Key×V)}{m:List (List Key×Addr×Value)},KT H l m->∀x∈m,(tupleKind (Bc P w)).is h x.1 x.2.1:=by
  intro l m q
  induction q with
  |nil=>intro x hx;exact nomatch hx
  | @cons p q ps qs hq t ih=>
    intro x hx
    rcases mem_cons.mp hx with e|hx
    .subst e
     exact Lu ok (by rw[<-hq.1];exact hq.2.1)
    .exact ih x hx
 exact all r x hx
theorem Va(ok:HOk P w H h)(e:H a=some (.dT kvs)):kvs.length<=sizeLine/\(a==sysModules)=false/\
  ∃xs,KT H kvs xs/\h.DictOfH (tupleKind (Bc P w)) a xs:=Ny ok (.inl e)
end
def DGet(H:Hp)(a:Addr)(y:V)(r:Option V):Prop:=
 (∃kvs k,Rd H a (.dK kvs)/\y=kV k/\r=valV kvs k)\/∃kvs k b,Rd H a (.dT kvs)/\y=.ref b/\H b=some (.tup (k.map kV))/\r=valV kvs k
def DPut(H:Hp)(a:Addr)(y v:V)(H':Hp):Prop:=
 (∃kvs k,H a=some (.dK kvs)/\y=kV k/\kvs.length<sizeLine/\H'=upd H a (.dK (putK kvs k v)))\/
 ∃kvs k b,H a=some (.dT kvs)/\y=.ref b/\H b=some (.tup (k.map kV))/\kvs.length<sizeLine/\H'=upd H a (.dT (putK kvs k v))
theorem DGet.k{H:Hp}{a:Addr}{kvs:List (Key×V)}{k:Key}(e:H a=some (.dK kvs)):DGet H a (kV k) (valV kvs k):=.inl ⟨kvs,k,.inl e,rfl,rfl⟩
theorem DPut.k{H:Hp}{a:Addr}{kvs:List (Key×V)}{k:Key}{v:V}(e:H a=some (.dK kvs))(hl:kvs.length<sizeLine):DPut H a (kV k) v (upd H a (.dK (putK kvs k v))):=.inl ⟨kvs,k,e,rfl,hl,rfl⟩
variable{v:V}{o:Option V}{E:Value->Shared->Prop}
section
variable{r:Value}
theorem Inv.big(I:Inv X pins σ H s):sysModules<s.heap.objs.size:=by
 have h:mainGlobals<s.heap.objs.size:=(I.mod.glob.keeps I.bk).lt
 exact Nat.lt_trans (by decide) h
theorem OQ{Q:Value->Shared->Prop}(hu:A.units+1<cLine)(I:Inv X pins σ H s)(g:DGet H a y (some v))(ry:RelV y u)(h:∀w' s',Inv X pins σ H s'->RelV v w'->Q w' s'):
  wpAny (model X.prog X.w) A (getItem (.ref a) u) Q E s:=by
 rcases g with⟨kvs,k,e,ey,l⟩|⟨kvs,k,b,e,ey,eb,l⟩
 .subst ey
  obtain⟨z,hd,vs,rel,dd⟩:=Lg I.hok e
  obtain⟨w',hw,rw'⟩:=RelO.some_of (v:=v) (o:=valueAt vs k) (by rw[l];exact rel.val k)
  exact wpAny_getItem_of (M6 ry) dd.mapOf hw (h w' _ (I.tok _) rw')
 .subst ey
  cases(show u=Value.ref b from ry)
  obtain⟨z,hd,xs,rel,dd⟩:=Ny I.hok e
  obtain⟨w',hw,rw'⟩:=RelO.some_of (v:=v) (o:=(atKey xs k).map (·.2)) (by rw[l];exact rel.val k)
  obtain⟨p,hp,hp2⟩:=Option.map_eq_some_iff.mp hw
  refine wpAny_getItem_heap (tupleKind_room_in1 hu) (Lu I.hok eb) dd hp ?_
  rw[hp2]
  exact h w' _ (I.tok _) rw'
theorem Hn{h':Heap}{t':Nat}{ob:HO}(I:Inv X pins σ H s)(mu:Mut (H a))(hs:SameBut a s.heap h')(he:∃q,h'.get? a=some q)(new:ObjOk X.prog X.w (upd H a ob) h' a ob):
  Inv X pins σ (upd H a ob) {s with heap:=h',toks:=t'}:=
 I.write (x:=a) (e:=a) mu (.inl rfl) (λb q hb z=>(hs.2 b hb).trans z) he new
theorem Lp{h':Heap}{kvs:List (Key×V)}{vs:List (Key×Value)}(z:kvs.length<=sizeLine)(hd:(a==sysModules)=false)(rel:KV kvs vs)(dd:h'.DictOf (Bc P w) a vs):
  ObjOk P w H' h' a (.dK kvs):=⟨z,hd,vs,rel,dd⟩
theorem OK{Q:Unit->Shared->Prop}(hu:A.units+1<cLine)(I:Inv X pins σ H s)(g:DPut H a y v H')(ry:RelV y u)(rv:RelV v r)(h:∀s',Inv X pins σ H' s'->Q () s'):
  wpAny (model X.prog X.w) A (setItem (.ref a) u r) Q E s:=by
 rcases g with⟨kvs,k,e,ey,l,eH⟩|⟨kvs,k,b,e,ey,eb,l,eH⟩
 .subst ey eH
  obtain⟨z,hd,vs,rel,dd⟩:=KU I.hok e
  have hz:vs.length<=sizeLine:=by rw[<-rel.length];exact z
  have hl:(putK kvs k v).length<=sizeLine:=by have:=El kvs k v;omega
  refine wpAny_setItem_pairs (hsz:=hz) (M6 ry) dd λh' dd' hs=>h _ ?_
  have he:∃q,h'.get? a=some q:=let⟨q,_,_,hq,_⟩:=dd';⟨q,hq⟩
  exact Hn I (by rw[e];exact True.intro) hs he (Lp hl hd (rel.put k rv) dd')
 .subst ey eH
  cases(show u=Value.ref b from ry)
  obtain⟨z,hd,xs,rel,dd⟩:=Va I.hok e
  have hz:xs.length<=sizeLine:=by rw[<-Paired.length rel];exact z
  have hl:(putK kvs k v).length<=sizeLine:=by have:=El kvs k v;omega
  refine wpAny_setItem_heap (hsz:=hz) (tupleKind_room_in1 hu) (Lu I.hok eb) dd λh' dd' hs=>h _ ?_
  obtain⟨q,es,ep,hq,h2,h3,h4,_,h5⟩:=dd'
  refine Hn I (by rw[e];exact True.intro) hs ⟨q,hq⟩ ⟨hl,hd,_,(rel.put k eb rv).keeps λc ys ec=>?_,q,es,ep,hq,h2,h3,h4,h5⟩
  rw[Aj (UT ec e (λz=>nomatch z))]
  exact ec
end
section
variable{kvs:List (Key×V)}{k:Key}
end
def NoSl(i:Expr):Prop:=∀ov iv,subscripted i false ov iv=operate [ov,iv] (getItem ov iv)
variable{Q:Value->Shared->Prop}
theorem RP{env:Env}{value slice:Expr}{T id:String}
  (hl:typeLookup (.type T) "__getitem__"=pure (some (.builtin id)))(hs:NoSl slice)
  (h:wpAny (model prog w) A (eval value env) (λo s₁=>wpAny (model prog w) A (eval slice env) (λi s₂=>s₂.TypeIs o T/\wpAny (model prog w) A (getItem o i) Q E s₂) E s₁) E s):
  wpAny (model prog w) A (eval (.Subscript value slice pos) env) Q E s:=by
 refine Subscript_ (wpAny_mono h (λo s₁ h₁=>wpAny_mono h₁ (λi s₂ h₂=>?_) λ_ _ x=>x) λ_ _ x=>x)
 obtain⟨hT,h₂⟩:=h₂
 unfold subscriptTail
 refine wpAny_bind ?_
 rw[getitemInPython_of_ne hT.not_modules]
 refine wpAny_bind (wpAny_specialOf hT hl ?_)
 have fin:wpAny (model prog w) A (subscripted slice false o i) (λr s₃=>wpAny (model prog w) A (letTemporaryGo value o r>>=λ_=>pure r) Q E s₃) E s₂:=by
  rw[hs o i]
  exact wpAny_operating (wpAny_mono h₂ (λr s₃ h₃=>wpAny_bind (wpAny_letTemporaryGo (wpAny_pure h₃))) λ_ _ x=>x)
 first
  |exact wpAny_pure (wpAny_bind fin)
  |exact wpAny_bind (wpAny_pure (wpAny_bind fin))
  |exact wpAny_bind fin
theorem KI(I:Inv X pins σ H s)(g:DGet H a y o):s.TypeIs (.ref a) "dict":=by
 rcases g with⟨kvs,k,e,_,_⟩|⟨kvs,k,b,e,_,_,_⟩
 .obtain⟨_,_,vs,_,dd⟩:=Lg I.hok e
  exact dd.typeIs
 .obtain⟨_,_,xs,_,dd⟩:=Ny I.hok e
  exact dd.typeIs
def SJ(td ty:TE):TE:=λσ H Q=>td σ H λx H1=>ty σ H1 λy H2=>∃a v,x=.ref a/\DGet H2 a y (some v)/\Q v H2
def UX(td ty tv:TE):TS:=λD σ H=>tv σ H λv H1=>td σ H1 λx H2=>ty σ H2 λy H3=>∃a H4,x=.ref a/\DPut H3 a y v H4/\D.nx σ H4
variable{value:Expr}{pos' tpos:Pos}{td ty tv:TE}
section
variable{o i:Expr}
theorem FT(hu:X.A.units+1<cLine)(ho:PE X o td)(hi:PE X i ty)(hs:NoSl i):PE X (.Subscript o i pos) (SJ td ty):=by
 intro pins s σ H Q I h
 refine RP PySem.F.slot_dict_getitem.lookup hs (thn (ho pins s σ H _ I h) λu s1 ⟨x,H1,I1,rx,q1⟩=>thn (hi pins s1 σ H1 _ I1 q1) λiv s2 ⟨y,H2,I2,ry,a,v,ex,g,q2⟩=>?_)
 subst ex
 obtain rfl:u=Value.ref a:=rx
 exact⟨KI I2 g,OQ hu I2 g ry λw' s3 I3 rw'=>⟨v,H2,I3,rw',q2⟩⟩
theorem ML(hu:X.A.units+1<cLine)(ho:PE X o td)(hi:PE X i ty)(hv:PE X value tv)(hs:swapsWith value (some (.Subscript o i pos')) pos.line X.env=pure false):
  PS X (.Assign [.Subscript o i pos'] value pos) (UX td ty tv):=by
 intro pins s σ H D I h
 refine wpAny_Assign_Subscript (thn (hv pins s σ H _ I h) λr s1 ⟨v,H1,I1,rv,q1⟩=>thn (ho pins s1 σ H1 _ I1 q1) λu s2 ⟨x,H2,I2,rx,q2⟩=>thn (hi pins s2 σ H2 _ I2 q2) λiv s3 ⟨y,H3,I3,ry,a,H4,ex,g,q3⟩=>?_) hs
 subst ex
 obtain rfl:u=Value.ref a:=rx
 exact OK hu I3 g ry rv λs4 I4=>⟨σ,H4,I4,q3⟩
end
theorem QB(h:Heap)(hb:sysModules<h.objs.size):ObjOk P w H (h.push {cls:=.type "dict",data:=.dict #[]}) h.objs.size (.dK []):=
 ⟨zero_le _,beq_eq_false_iff_ne.mpr (symm (ne_of_lt hb)),[],.nil,Heap.DictOf.new h⟩
def Ik:List (TE×TE)->St->Hp->(List (V×V)->Hp->Prop)->Prop
 |[],_,H,Q=>Q [] H
 |(tk,tv)::r,σ,H,Q=>tk σ H λx H1=>tv σ H1 λy H2=>Ik r σ H2 λps H3=>Q ((x,y)::ps) H3
abbrev VV:List (V×V)->List (Value×Value)->Prop:=Paired λp q=>RelV p.1 q.1/\RelV p.2 q.2
def PPs(X:Cx)(pos:Pos)(keys:List (Option Expr))(values:List Expr)(trs:List (TE×TE)):Prop:=
 ∀(pins:List (Addr×Obj)) (s:Shared) (σ:St) (H:Hp) (Q:List (V×V)->Hp->Prop),Inv X pins σ H s->Ik trs σ H Q->
  wpAny (model X.prog X.w) X.A (evalPairs (pairTrees keys values X.env pos)) (λvs s'=>∃ps H',Inv X pins σ H' s'/\VV ps vs/\Q ps H') X.xe s
theorem Jw:PPs X pos [] [] []:=λpins s σ H Q I h=>pairTrees_nil_walk ⟨[],H,I,.nil,h⟩
theorem DL{k v:Expr}{ks:List (Option Expr)}{vs:List Expr}{tk:TE}{trs:List (TE×TE)}(hk:PE X k tk)(hv:PE X v tv)(hr:PPs X pos ks vs trs):
  PPs X pos (some k::ks) (v::vs) ((tk,tv)::trs):=λpins s σ H Q I h=>
 pairTrees_cons_walk (thn (hk pins s σ H _ I h) λu s1 ⟨x,H1,I1,rx,q1⟩=>thn (hv pins s1 σ H1 _ I1 q1) λw2 s2 ⟨y,H2,I2,ry,q2⟩=>
  thn (hr pins s2 σ H2 _ I2 q2) λws s3 ⟨ps,H3,I3,rel,q3⟩=>⟨(x,y)::ps,H3,I3,.cons ⟨rx,ry⟩ rel,q3⟩)
def BK(kvs more:List (Key×V)):List (Key×V):=more.foldl (λacc kv=>putK acc kv.1 kv.2) kvs
theorem KV.merge:∀{more:List (Key×V)}{rs:List (Key×Value)}{kvs:List (Key×V)}{vs:List (Key×Value)},KV more rs->KV kvs vs->KV (BK kvs more) (merged vs rs):=by
 intro more rs kvs vs r
 unfold KV at r
 induction r generalizing kvs vs with
 |nil=>intro q;exact q
 | @cons p q ps qs h t ih=>
   intro r0
   have e:KV (putK kvs p.1 p.2) (stored vs q.1 q.2):=by
    have:=r0.put p.1 h.2
    rw[<-h.1];exact this
   exact ih e
theorem Do:∀(more kvs:List (Key×V)),(BK kvs more).length<=kvs.length+more.length
 |[],kvs=>by show kvs.length<=kvs.length+0;omega
 |p::r,kvs=>by
  have h1:=Do r (putK kvs p.1 p.2)
  have h2:=El kvs p.1 p.2
  show(BK (putK kvs p.1 p.2) r).length<=_
  rw[length_cons];omega
theorem Iw{P:Program}{w:World}:∀{kvs:List (Key×V)}{ws:List (Value×Value)},VV (kvs.map λkv=>(kV kv.1,kv.2)) ws->∃rs,Carries (Bc P w) ws rs/\KV kvs rs
 |[],_,r=>by rw[map_nil]at r;cases r;exact⟨[],True.intro,.nil⟩
 |p::kvs,_,r=>by
  rw[map_cons]at r
  cases r with
  | @cons a b as bs h t=>
    obtain⟨rs,c,q⟩:=Iw (P:=P) (w:=w) t
    obtain⟨b1,b2⟩:=b
    exact⟨(p.1,b2)::rs,⟨M6 h.1,rfl,c⟩,.cons ⟨rfl,h.2⟩ q⟩
def Vp(trs:List (TE×TE)):TE:=λσ H Q=>∀p,H p=none->Ik trs σ (upd H p (.dK [])) λps H2=>H2 p=some (.dK [])/\∃kvs:List (Key×V),ps=kvs.map (λkv=>(kV kv.1,kv.2))/\kvs.length<=15/\Q (.ref p) (upd H2 p (.dK (BK [] kvs)))
theorem Hj{keys:List (Option Expr)}{values:List Expr}{trs:List (TE×TE)}(h:PPs X pos keys values trs)(hall:keys.all (·.isSome)=true)(hl:keys.length=values.length)(h0:keys≠[])
  (h15:keys.length<=15):PE X (.Dict keys values pos) (Vp trs):=by
 intro pins s σ H Q I q
 have hn:=I.hok.fresh (le_refl s.heap.objs.size)
 have I1:=I.laid (a:=s.heap.objs.size) (o:=.dK []) (h':=s.heap.push {cls:=.type "dict",data:=.dict #[]}) (t':=s.toks) (λ_ _ q=>get?_push_of_some _ q) (le_refl _) (QB s.heap I.big)
 refine wpAny_Dict_walk (knd:=Bc X.prog X.w) hall hl h0 h15 (thn (h pins _ σ _ _ I1 (q _ hn)) λws s2 ⟨ps,H2,I2,rel,e,kvs,ep,lk,q2⟩=>?_)
 subst ep
 obtain⟨rs,c,rk⟩:=Iw (P:=X.prog) (w:=X.w) rel
 obtain⟨z,hd,vs0,r0,dd⟩:=KU I2.hok e
 cases r0
 refine⟨rs,c,dd,λh' dd' hs=>⟨.ref s.heap.objs.size,_,?_,rfl,q2⟩⟩
 have hz:(BK [] kvs).length<=sizeLine:=by
  have h1:=Do kvs []
  rw[length_nil]at h1
  rw[sizeLine_eq];omega
 have he:∃q,h'.get? s.heap.objs.size=some q:=let⟨q,_,_,hq,_⟩:=dd';⟨q,hq⟩
 exact Hn I2 (by rw[e];exact True.intro) hs he (Lp hz hd (rk.merge .nil) dd')
structure M1(X:Cx)(o:Expr)(m:Str)(apos:Pos)(e:Expr)(cpos:Pos):Prop where
 base:attributeBase o m X.env (eval o X.env)=eval o X.env
 few:((backTo cpos (starEach [e] X.env)).all (λx=>!x.1)&&(backToKw cpos (keywordEach [] X.env)).all (λx=>x.1.isSome)
  &&decide (([e]:List Expr).length+([]:List Keyword).length+(if([]:List Keyword).isEmpty then 0 else 1)<30))=true
 line:(apos.endLine==cpos.line)=true
 trees:backTo cpos (starEach [e] X.env)=[(false,eval e X.env)]
structure M2(X:Cx)(o:Expr)(m:Str)(apos:Pos)(e f:Expr)(cpos:Pos):Prop where
 base:attributeBase o m X.env (eval o X.env)=eval o X.env
 few:((backTo cpos (starEach [e,f] X.env)).all (λx=>!x.1)&&(backToKw cpos (keywordEach [] X.env)).all (λx=>x.1.isSome)
  &&decide (([e,f]:List Expr).length+([]:List Keyword).length+(if([]:List Keyword).isEmpty then 0 else 1)<30))=true
 line:(apos.endLine==cpos.line)=true
 trees:backTo cpos (starEach [e,f] X.env)=[(false,eval e X.env),(false,eval f X.env)]
def IsD(H:Hp)(a:Addr):Prop:=(∃kvs,Rd H a (.dK kvs))\/∃kvs,Rd H a (.dT kvs)
theorem Pg(I:Inv X pins σ H s)(d:IsD H a):
  s.TypeIs (.ref a) "dict"/\(∀b,Value.ref a=.ref b->∃ob,s.heap.get? b=some ob/\ob.dict=none)/\(a==sysModules)=false:=by
 rcases d with⟨kvs,e⟩|⟨kvs,e⟩
 .obtain⟨_,hd,vs,_,dd⟩:=Lg I.hok e
  refine⟨dd.typeIs,λb q=>?_,hd⟩
  cases q
  obtain⟨ob,_,_,h1,h2,_⟩:=dd
  exact⟨ob,h1,h2.2.1⟩
 .obtain⟨_,hd,xs,_,dd⟩:=Ny I.hok e
  refine⟨dd.typeIs,λb q=>?_,hd⟩
  cases q
  obtain⟨ob,_,_,h1,h2,_⟩:=dd
  exact⟨ob,h1,h2.2.1⟩
section
variable{d:V}{r:Value}
end
variable{apos:Pos}
section
variable{o f:Expr}{cpos:Pos}{tx:TE}
end
section
variable{kvs:List (Key×V)}
end
def rDA(K:Frag)(ds:List PyData)(d:PyData):List V->Hp->VK->Prop:=λxs H Q=>DVs K H xs ds/\∀v H',Same H H'->DV K H' v d->Q v H'
abbrev CD(X:Cx)(f:Value)(ds:List PyData)(d:PyData):Prop:=CallR X f (rDA X.K ds d)
variable{p2:Pos}{ds:List PyData}{id T:String}
section
variable{a:Expr}{rest:List Expr}{p:Pos}
theorem P6(hc:CD X (.builtin id) ds d)(hg:Gl X x)(hm:X.mg x=none)(hv:bootBuiltins x=some (.builtin id))(ha:AV X G (e::es) ds)(hn:x≠"__name__":=by decide)(hdb:(x==("__debug__":Str))=false:=by decide)
  (he:Zst X e es:=by rfl)(hpl:(backTo pos (starEach es X.env)).any (·.1)=false:=by rfl):EV X G (.Call (.Name x p) (e::es) [] pos) d:=
 (KY hc hg hm hv ha hn hdb he hpl).imp λσ H Q ⟨h,q⟩=>⟨h,λvs H1 s1 d1=>⟨d1,λv H2 s2 d2=>q v H2 (s1.trans s2) d2⟩⟩
theorem Ob(hc:CD X (.type T) ds d)(hg:Gl X x)(hm:X.mg x=none)(hv:bootBuiltins x=some (.type T))(ha:AV X G (e::es) ds)(hn:x≠"__name__":=by decide)(hdb:(x==("__debug__":Str))=false:=by decide)
  (he:Zst X e es:=by rfl)(hpl:(backTo pos (starEach es X.env)).any (·.1)=false:=by rfl):EV X G (.Call (.Name x p) (e::es) [] pos) d:=
 (Ja hc hg hm hv ha hn hdb he hpl).imp λσ H Q ⟨h,q⟩=>⟨h,λvs H1 s1 d1=>⟨d1,λv H2 s2 d2=>q v H2 (s1.trans s2) d2⟩⟩
theorem DVs.one{vs:List V}(h:DVs K H vs [d]):∃v,vs=[v]/\DV K H v d:=by
 cases h with
 |cons h t=>cases t;exact⟨_,rfl,h⟩
theorem DVs.two{vs:List V}(h:DVs K H vs [da,db]):∃v w,vs=[v,w]/\DV K H v da/\DV K H w db:=by
 cases h with
 |cons h t=>
  obtain⟨w,rfl,h2⟩:=t.one
  exact⟨_,w,rfl,h,h2⟩
theorem B1:CD X (.builtin "len") [.list ds] (.int ds.length):=call_len_seq.imp λxs H Q ⟨h,q⟩=>by
 obtain⟨v,rfl,dv⟩:=h.one
 obtain⟨l,us,rfl,hl,d1⟩:=dv.of_lst
 exact⟨l,us,rfl,.inl hl,q _ H (Same.refl H) (by rw[d1.length];exact .int _)⟩
theorem Mv:CD X (.builtin "len") [.tuple ds] (.int ds.length):=call_len_seq.imp λxs H Q ⟨h,q⟩=>by
 obtain⟨v,rfl,dv⟩:=h.one
 obtain⟨l,us,rfl,hl,d1⟩:=dv.of_tup
 exact⟨l,us,rfl,.inr hl,q _ H (Same.refl H) (by rw[d1.length];exact .int _)⟩
theorem MB{z:Str}(hz:z.length<=sizeLine):CD X (.builtin "len") [.str z] (.int z.length):=call_len_str.imp λxs H Q ⟨h,q⟩=>by
 obtain⟨v,rfl,dv⟩:=h.one
 exact⟨z,by rw[dv.of_str],hz,q _ H (Same.refl H) (.int _)⟩
theorem Ji:CD X (.type "tuple") [.list ds] (.tuple ds):=call_tuple_of.imp λxs H Q ⟨h,q⟩=>by
 obtain⟨v,rfl,dv⟩:=h.one
 obtain⟨l,us,rfl,hl,d1⟩:=dv.of_lst
 exact⟨l,us,rfl,.inl ⟨hl,λp hp=>q _ _ (Same.new hp) (.tup (SqT.of Al) (d1.mono (Same.new hp)))⟩⟩
theorem Ra:CD X (.type "list") [.list ds] (.list ds):=call_list_of.imp λxs H Q ⟨h,q⟩=>by
 obtain⟨v,rfl,dv⟩:=h.one
 obtain⟨l,us,rfl,hl,d1⟩:=dv.of_lst
 exact⟨l,us,rfl,.inl hl,λp hp=>q _ _ (Same.new hp) (.lst (SqL.of Al) (d1.mono (Same.new hp)))⟩
theorem QL:CD X (.type "list") [.tuple ds] (.list ds):=call_list_of.imp λxs H Q ⟨h,q⟩=>by
 obtain⟨v,rfl,dv⟩:=h.one
 obtain⟨l,us,rfl,hl,d1⟩:=dv.of_tup
 exact⟨l,us,rfl,.inr hl,λp hp=>q _ _ (Same.new hp) (.lst (SqL.of Al) (d1.mono (Same.new hp)))⟩
theorem E6{k:Bool}:CD X (.type "int") [.bool k] (.int (if k then 1 else 0)):=call_int1.imp λxs H Q ⟨h,q⟩=>by
 obtain⟨v,rfl,dv⟩:=h.one
 exact .inr ⟨k,by rw[dv.of_bl],q _ H (Same.refl H) (.int _)⟩
theorem TN{i j:Int}(hc:X.calm=true):CD X (.builtin "max") [.int i,.int j] (.int (if j>i then j else i)):=(OS hc).imp λxs H Q ⟨h,q⟩=>by
 obtain⟨v,w,rfl,dv,dw⟩:=h.two
 exact⟨i,j,by rw[dv.of_int,dw.of_int],q _ H (Same.refl H) (.int _)⟩
theorem JH(bs:List Bool):(range bs.length).all (λi=>bs.getD i false)=bs.all (λz=>z):=by
 rw[Bool.eq_iff_iff,all_eq_true,all_eq_true]
 constructor
 .intro h x hx
  obtain⟨i,hi,e⟩:=List.mem_iff_getElem.mp hx
  have:=h i (mem_range.mpr hi)
  simp only[getD_eq_getElem?_getD,getElem?_eq_getElem hi,Option.getD_some]at this
  rw[<-e]
  exact this
 .intro h i hi
  have hi:=mem_range.mp hi
  simp only[getD_eq_getElem?_getD,getElem?_eq_getElem hi,Option.getD_some]
  exact h _ (getElem_mem hi)
theorem JV(hc:X.calm=true){bs:List Bool}:CD X (.builtin "all") [.list (bs.map PyData.bool)] (.bool (bs.all λz=>z)):=by
 intro pins s σ H xs us Q I rs ⟨h,q⟩
 obtain⟨v,rfl,dv⟩:=h.one
 obtain⟨l,vs,rfl,hl,d1⟩:=dv.of_lst
 obtain⟨u,rfl,ru⟩:=vals1 rs
 cases ru
 have e1:=d1.of_bools
 subst e1
 obtain⟨its,r,pl,hz⟩:=I.list hl
 have hlt:l<s.heap.objs.size:=by
  obtain⟨o,ho,_⟩:=pl.isList
  exact lt_size ho
 have hh:X.A.in1.handled=none:=I.ok.hd hc
 have hlen:its.toArray.size=bs.length:=by rw[size_toArray,<-r.length,length_map]
 refine call_all_walk (wpAny_pyIter_list pl.isList ⟨s.heap.objs.size,_,_,its.toArray.size,_,_,λi=>bs.getD i false,rfl,Walks.list hh s.heap.objs.size l (ne_of_lt hlt) its.toArray,
  ⟨⟨_,get?_push_size _ rfl,rfl,rfl⟩,let⟨o,e,r⟩:=pl.isList;⟨o,get?_push_of_some _ e,r⟩⟩,λi v s2 Q2 E2 hP hQ=>?_,λh' tk hk=>?_⟩)
 .have hP:its.toArray[i]?=some v:=hP
  have hP:its[i]?=some v:=by simpa using hP
  have hi:i<bs.length:=by
   have:=(List.getElem?_eq_some_iff.mp hP).1
   rw[<-r.length,length_map]at this
   exact this
  have hb:(bs.map V.bl)[i]?=some (V.bl bs[i]):=by simp[hi]
  obtain⟨u,e2,r2⟩:=r.get hb
  rw[hP]at e2
  cases e2
  cases r2
  refine wpAny_truthy_bool ?_
  have:bs.getD i false=bs[i]:=by simp[getD_eq_getElem?_getD,hi]
  exact this▸hQ
 .rw[hlen,JH]
  have I1:Inv X pins σ H {s with heap:=h',toks:=tk}:=I.kept λb o e=>hk b o (by
   intro z
   have z:b=s.heap.objs.size:=by simpa using z
   exact absurd (lt_size e) (by rw[z];exact lt_irrefl _)) (get?_push_of_some _ e)
  exact⟨.bl _,H,I1,rfl,q _ H (Same.refl H) (.bl _)⟩
theorem Q7(hc:X.calm=true){ns:List Int}:CD X (.builtin "sum") [.list (ns.map int)] (.int ns.sum):=by
 intro pins s σ H xs us Q I rs ⟨h,q⟩
 obtain⟨v,rfl,dv⟩:=h.one
 obtain⟨l,vs,rfl,hl,d1⟩:=dv.of_lst
 obtain⟨u,rfl,ru⟩:=vals1 rs
 cases ru
 have e1:=d1.of_ints
 subst e1
 obtain⟨its,r,pl,hz⟩:=I.list hl
 have hi:IntsAre its ns:=intsAre_of r
 obtain⟨ys,ey⟩:=(hi.allInts:AllInts its.toArray).items
 have hh:X.A.handled=none:=I.ok.hd hc
 have hl':s.heap.IsList l (intItems ys):=ey▸pl.isList
 refine sum_intListG hh hl' λh' tk t' hk=>?_
 have I1:Inv X pins σ H {s with heap:=h',toks:=tk}:=I.kept hk
 have en:ns=numsOf its:=hi.numsOf.symm
 have es:preSum (numAt ys) ys.size=ns.sum:=by
  rw[preSum_eq,take_of_length_le (by simp),en,<-nums_intItems ys]
  congr 2
  have:=congrArg toList ey
  simpa using this.symm
 rw[es]
 exact⟨.int _,H,I1,⟨_,rfl⟩,q _ H (Same.refl H) (.int _)⟩
def tyD:PyData->Value
 | .none=>.type "NoneType"
 | .bool _=>.type "bool"
 | .int _=>.type "int"
 | .str _=>.type "str"
 | .list _=>.type "list"
 | .tuple _=>.type "tuple"
 | .dict es=>match excC es with
   |some C=>.ref C
   |none=>.type "dict"
def J3(K:Frag)(C:Addr):Prop:=∀(a:Addr) (φ:Heap->Prop),(∀h,φ h->∃o,h.get? a=some o/\o.cls=.ref C)->KitX K (.ref a) (.ref C) φ
theorem PH{c:Value}{k:Bool}(I:Inv X pins σ H s)(h:DV X.K H v d)(rv:RelV v u)
  (e:kitOne X.K (tyD d) c=some k)(hq:∀tk,Q (.bool k) {s with toks:=tk})(hX:∀C,d=excD C->J3 X.K C:=by intro _ z;cases z)(hX2:∀C n,d=SC C n->J3 X.K C:=by intro _ _ z;first|cases z|(unfold excD at z;cases z))(hO:Re d=false:=by first|rfl|assumption):wpAny (model X.prog X.w) A (call (.builtin "isinstance") [u,c]) Q E s:=by
 cases h with
 |non=>exact EB I rv .non e hq
 |bl b=>exact EB I rv (.bl b) e hq
 |int i=>exact EB I rv (.int i) e hq
 |str x=>exact EB I rv (.str x) e hq
 | @tup a xs ds h t=>
   cases rv
   obtain⟨its,_,⟨o,h1,h2,_⟩,_⟩:=I.tuple h
   exact kia_one kitx_tuple I.kIn ⟨o,h1,h2⟩ e (λz=>nomatch z) hq
 | @lst a xs ds h t=>
   cases rv
   obtain⟨its,_,pl,_⟩:=I.list h
   obtain⟨o,h1,h2,_⟩:=pl.isList
   exact kia_one kitx_list I.kIn ⟨o,h1,h2⟩ e (λz=>nomatch z) hq
 | @dct a kvs es h t=>
   cases rv
   have e':kitOne X.K (.type "dict") c=some k:=by
    have z:tyD (.dict es)=(match excC es with|some C=>Value.ref C|none=>.type "dict"):=rfl
    rw[z,KM t]at e
    exact e
   exact kia_one kitx_dict I.kIn (Pg I (.inl ⟨kvs,.inl h⟩)).1 e' (λz=>nomatch z) hq
 | @exc a C h=>
   cases rv
   have e':kitOne X.K (.ref C) c=some k:=e
   exact kia_one (hX C rfl a _ λh p=>let⟨o,_,h1,h2,_⟩:=p;⟨o,h1,h2⟩) I.kIn (I.hok a _ h).1 e' (λz=>nomatch z) hq
 | @exr a C dx n h h'=>
   cases rv
   have e':kitOne X.K (.ref C) c=some k:=e
   exact kia_one (hX2 C n rfl a _ λh p=>let⟨o,_,h1,h2,_⟩:=p;⟨o,h1,h2⟩) I.kIn (I.hok a _ h).1 e' (λz=>nomatch z) hq
 |obj h n t=>cases hO
 |dtt h=>unfold ppE Re at hO;cases hO
theorem E_{k:Bool}{n:String}{x1:Str}(ha:EV X G a da)(hg:Gl X "isinstance")(hm:X.mg "isinstance"=none)(hg1:Gl X x1)(hm1:X.mg x1=none)(hv1:bootBuiltins x1=some (.type n))(e:kitOne X.K (tyD da) (.type n)=some k)
  (hX:∀C,da=excD C->J3 X.K C:=by intro _ z;cases z)(hX2:∀C n,da=SC C n->J3 X.K C:=by intro _ _ z;first|cases z|(unfold excD at z;cases z))(hO:Re da=false:=by first|rfl|assumption)(hn:x1≠"__name__":=by decide)(hd1:(x1==("__debug__":Str))=false:=by decide)(hv:bootBuiltins "isinstance"=some (.builtin "isinstance"):=by decide+kernel)
  (he:starEach [a,.Name x1 p2] X.env=(false,eval a X.env)::starEach [.Name x1 p2] X.env:=by rfl)(he2:starEach [.Name x1 p2] X.env=(false,eval (.Name x1 p2) X.env)::starEach [] X.env:=by rfl)
  (hpl:(backTo pos (starEach [.Name x1 p2] X.env)).any (·.1)=false:=by rfl):
  EV X G (.Call (.Name "isinstance" p) [a,.Name x1 p2] [] pos) (.bool k):=by
 have cr:CallR X (.builtin "isinstance") (λxs H Q=>∃v,xs=[v,.ty n]/\DV X.K H v da/\Q (.bl k) H):=by
  intro pins s σ H xs us Q I rs ⟨v,ex,dv,q⟩
  subst ex
  obtain⟨u,w,rfl,ru,rw'⟩:=vals2 rs
  cases rw'
  exact PH I dv ru e (λtk=>⟨.bl k,H,I.tok tk,rfl,q⟩) hX hX2 hO
 refine(KY cr hg hm hv (BS ha (BS (RU (v:=.ty n) hg1 hm1 hv1 rfl hn hd1) pa_nil he2) he) (by decide) (by decide) he hpl).imp λσ H Q ⟨h,q⟩=>⟨h,λv H1 s1 d1=>⟨v,rfl,d1,q _ H1 s1 (.bl k)⟩⟩
def spD(K:Frag)(F:List PyData->PyData->Prop):Sp:=λvs H Q _=>∃ds d,DVs K H vs ds/\F ds d/\∀v H',Same H H'->DV K H' v d->Q v H'
def DFn(P:Program)(w:World)(K:Frag)(mg:Str->Option Value)(base:Heap)(k:Nat)(x:Str)(F:List PyData->PyData->Prop):Prop:=
 ∃f fd ps,FnOk P w K mg base CX0 k f fd ps (spD K F)/\mg x=some (.ref f)/\keepIn K (.ref f)=true/\Binds K fd ps []
theorem An{k:Nat}{F:List PyData->PyData->Prop}(D:DFn X.prog X.w X.K X.mg X.base k x F)(hr:Room k X.A)(hg:Gl X x)(ha:AV X G (e::es) ds)(hF:F ds d)(hdb:(x==("__debug__":Str))=false:=by decide)
  (he:Zst X e es:=by rfl)(hpl:(backTo pos (starEach es X.env)).any (·.1)=false:=by rfl):EV X G (.Call (.Name x p) (e::es) [] pos) d:=by
 obtain⟨f,fd,ps,ok,hm,hk,hb⟩:=D
 refine(Ed ok hr hg hm hk hb .nil Cs ha hdb he hpl).imp λσ H Q ⟨h,q⟩=>⟨h,λvs H1 s1 d1=>?_⟩
 show spD X.K F (vs++[]) H1 Q E0
 rw[append_nil]
 exact⟨ds,d,d1,hF,λv H2 s2 d2=>q v H2 (s1.trans s2) d2⟩
theorem Qx{i:Int}{t:Tok}(hg:Gl X x)(hm:X.mg x=some (.int i t))(hd:(x==("__debug__":Str))=false:=by decide):EV X G (.Name x pos) (.int i):=
 (Hf (v:=.int i) hg hm ⟨t,rfl⟩ hd).imp λσ H Q ⟨h,q⟩=>q _ H (Same.refl H) (.int i)
theorem Ar:SVs X G [] (.next G):=pss_nil.imp λD σ H ⟨h,q⟩=>q σ H (Same.refl H) h
theorem Ai{st:Stmt}{sts:List Stmt}{G1:Gam}{o:Out}(h1:SV X G st (.next G1))(h2:SVs X G1 sts o):SVs X G (st::sts) o:=
 (Az h1 h2).imp λD σ H ⟨h,q⟩=>⟨h,λσ' H' s' h'=>⟨h',by
  cases o with
  |next G2=>exact λσ2 H2 s2 h2=>q σ2 H2 (s'.trans s2) h2
  |ret d=>exact λv H2 s2 h2=>q v H2 (s'.trans s2) h2⟩⟩
theorem Ag{st:Stmt}{sts:List Stmt}(h1:SV X G st (.ret d)):SVs X G (st::sts) (.ret d):=by
 intro pins s σ H D I ⟨h,q⟩
 have z:PSs X (st::sts) (λD σ H=>tDS X.K G (.ret d) D σ H):=by
  refine(Az (t:=λD σ H=>tDS X.K G (.ret d) D σ H) (u:=QR) h1 AA).imp λD σ H ⟨h,q⟩=>⟨h,q⟩
 exact z pins s σ H D I ⟨h,q⟩
theorem Ap(h:EV X G e d):SV X G (.Return (some e) pos) (.ret d):=(EW h).imp λD σ H ⟨h,q⟩=>⟨h,q⟩
theorem AE{i:Nat}(hN:X.N.Nodup)(hi:X.N[i]?=some x)(hx:Loc X.env.scope x)(h:EV X G e d)(hs:swapsWith e (some (.Name x p)) pos.line X.env=pure false:=by rfl)
  (hf:Zlo X x:=by first|exact .inl rfl|exact .inr rfl|assumption):SV X G (.Assign [.Name x p] e pos) (.next (G.set i (some d))):=
 (BL hN hi hx h hs hf).imp λD σ H ⟨h,q⟩=>⟨h,λv H1 s1 d1=>q _ H1 s1 ((h.mono s1).set d1)⟩
theorem Ax{k:Bool}{A B:List Stmt}{o:Out}(hc:TV X G c k)(h1:k=true->SVs X G A o)(h2:k=false->SVs X G B o):SV X G (.If c A B pos) o:=by
 have hA:PSs X A (λD σ H=>k=true/\tDS X.K G o D σ H):=λpins s σ H D I ⟨e,q⟩=>h1 e pins s σ H D I q
 have hB:PSs X B (λD σ H=>k=false/\tDS X.K G o D σ H):=λpins s σ H D I ⟨e,q⟩=>h2 e pins s σ H D I q
 refine(Cu hc hA hB).imp λD σ H ⟨h,q⟩=>⟨h,λH1 s1=>?_⟩
 have fin:tDS X.K G o D σ H1:=⟨h.mono s1,by
  cases o with
  |next G2=>exact λσ2 H2 s2 h2=>q σ2 H2 (s1.trans s2) h2
  |ret d=>exact λv H2 s2 h2=>q v H2 (s1.trans s2) h2⟩
 cases k with
 |true=>exact iteT ⟨rfl,fin⟩
 |false=>exact iteF ⟨rfl,fin⟩
theorem Fk{sts:List Stmt}{G1 G2:Gam}(h:SVs X G sts (.next G1))(hl:G2.length=G1.length)(hw:∀(i:Nat) d,G2[i]?=some (some d)->G1[i]?=some (some d)):SVs X G sts (.next G2):=
 h.imp λD σ H ⟨h,q⟩=>⟨h,λσ' H' s' h'=>q σ' H' s' (h'.forget hl hw)⟩
theorem QD{sts:List Stmt}{G1:Gam}{o:Out}(h:SVs X G sts o)(hl:G.length=G1.length)(hw:∀(i:Nat) d,G[i]?=some (some d)->G1[i]?=some (some d)):SVs X G1 sts o:=
 h.imp λD σ H ⟨h,q⟩=>⟨h.forget hl hw,q⟩
structure ItD(K:Frag)(J:It)(ds:List PyData)(H0:Hp):Prop where
 go:∀i H,Same H0 H->i<ds.length->J.go i H
 yld:∀i H v H',Same H0 H->i<ds.length->J.yld i H v H'->Same H H'/\∃d,ds[i]?=some d/\DV K H' v d
 stop:∀i H,Same H0 H->ds.length<=i->J.stop i H
def tDI(K:Frag)(G:Gam)(ds:List PyData):TI:=λσ H R=>SD K H σ G/\∀J H',Same H H'->ItD K J ds H'->R J H'
abbrev IV(X:Cx)(G:Gam)(tg iter:Expr)(ds:List PyData):Prop:=PI X tg iter (tDI X.K G ds)
theorem PI.imp{tg:Expr}{t t':TI}(h:PI X tg e t)(m:∀σ H R,t' σ H R->t σ H R):PI X tg e t':=λpins s σ H R I q=>h pins s σ H R I (m σ H R q)
theorem FA{tg:Expr}(h:EV X G e (.list ds)):IV X G tg e ds:=(G_ h).imp λσ H R ⟨h,q⟩=>⟨h,λv H1 s1 d1=>by
 obtain⟨l,us,rfl,hl,d2⟩:=d1.of_lst
 refine⟨l,rfl,⟨us,hl⟩,q _ H1 s1 ⟨λi H2 s2 hi=>?_,λi H2 v H3 s2 _ ⟨e,y⟩=>?_,λi H2 s2 hi=>⟨us,s2.seq hl,by rw[d2.length];exact hi⟩⟩⟩
 .obtain⟨v,e,_⟩:=d2.get (i:=i) (d:=ds[i]) (by simp[hi])
  exact⟨us,v,s2.seq hl,e⟩
 .subst e
  obtain⟨d,e1,e2⟩:=d2.get' (y us (s2.seq hl))
  exact⟨Same.refl _,d,e1,e2.mono s2⟩⟩
theorem Td{tg:Expr}(h:EV X G e (.tuple ds)):IV X G tg e ds:=(To h).imp λσ H R ⟨h,q⟩=>⟨h,λv H1 s1 d1=>by
 obtain⟨l,us,rfl,hl,d2⟩:=d1.of_tup
 refine⟨l,rfl,⟨us,hl⟩,q _ H1 s1 ⟨λi H2 s2 hi=>?_,λi H2 v H3 s2 _ ⟨e,y⟩=>?_,λi H2 s2 hi=>⟨us,s2.seqT hl,by rw[d2.length];exact hi⟩⟩⟩
 .obtain⟨v,e,_⟩:=d2.get (i:=i) (d:=ds[i]) (by simp[hi])
  exact⟨us,v,s2.seqT hl,e⟩
 .subst e
  obtain⟨d,e1,e2⟩:=d2.get' (y us (s2.seqT hl))
  exact⟨Same.refl _,d,e1,e2.mono s2⟩⟩
end
def outG(ix:List Nat)(G:Gam):Gam:=ix.map λi=>(G[i]?).getD none
theorem SD.comp(h:SD K H σ G)(k:Nat)(ix:List Nat):SD K H (List.replicate k none++outS ix σ) (List.replicate k none++outG ix G):=by
 refine⟨by simp[outS,outG],λi d e=>?_⟩
 rcases Nat.lt_or_ge i k with hi|hi
 .rw[List.getElem?_append_left (by simpa using hi),List.getElem?_replicate,if_pos hi]at e
  cases e
 .rw[List.getElem?_append_right (by simpa using hi),List.length_replicate]at e ⊢
  unfold outG at e
  unfold outS
  rw[List.getElem?_map]at e ⊢
  cases q:ix[i-k]? with
  |none=>rw[q]at e;cases e
  |some j=>
   rw[q]at e
   have e:(G[j]?).getD none=some d:=Option.some.inj e
   have e':G[j]?=some (some d):=by
    cases z:G[j]? with
    |none=>rw[z]at e;cases e
    |some w=>rw[z]at e;have e:w=some d:=e;rw[e]
   obtain⟨v,a,b⟩:=h.2 j d e'
   exact⟨v,by rw[Option.map_some,a];rfl,b⟩
theorem PE.ex{ι:Type}{t:ι->TE}{p:ι->Prop}(h:∀i,p i->PE X e (t i)):PE X e (λσ H Q=>∃i,p i/\t i σ H Q):=λpins s σ H Q I ⟨i,hi,q⟩=>h i hi pins s σ H Q I q
theorem PF.ex{ι:Type}{t:ι->TT}{p:ι->Prop}(h:∀i,p i->PF X es (t i)):PF X es (λσ H Q=>∃i,p i/\t i σ H Q):=λpins s σ H Q I ⟨i,hi,q⟩=>h i hi pins s σ H Q I q
theorem II:PF X [] (tDT X.K G true):=λpins s σ H Q I ⟨h,q⟩=>Ty pins s σ H Q I (q H (Same.refl H))
structure BindD(K:Frag)(k:Nat)(g:TG)(B:PyData->Gam->Gam)(d:PyData):Prop where
 to:∀(v:V) σ H G (Q:St->Hp->Prop),SD K H σ G->DV K H v d->(∀σ2,SD K H σ2 (B d G)->Q σ2 H)->g v σ H Q
def bind1(d:PyData)(G:Gam):Gam:=G.set 0 (some d)
def QA(d:PyData)(G:Gam):Gam:=match d with
 | .tuple [a,b]=>(G.set 0 (some a)).set 1 (some b)
 |_=>G
theorem JO(d:PyData):BindD K 1 (BO 0) bind1 d:=⟨λv σ H G Q h dv q=>q _ (h.set dv)⟩
theorem QF(a b:PyData):BindD K 2 (gTup K 2 (KW (BO 0) (KW (BO 1) gNil))) QA (.tuple [a,b]):=⟨λv σ H G Q h dv q=>by
 obtain⟨l,us,rfl,hl,d1⟩:=dv.of_tup
 obtain⟨x,y,rfl,dx,dy⟩:=d1.two
 exact⟨l,[x,y],rfl,hl,rfl,x,[y],rfl,y,[],rfl,rfl,q _ ((h.set dx).set dy)⟩⟩
theorem NI{α:Type}{as:List α}{D:α->PyData}{k:Nat}{B:PyData->Gam->Gam}{J:It}{H1:Hp}{Q:List V->Hp->Prop}(K:Frag)(Pd:α->Bool)(F:α->PyData)(hz:as.length<=sizeLine)(og:OwnG k g)
  (hb:∀a∈as,BindD K k g B (D a))(hσ:SD K H1 σ G)(hJ:ItD K J (as.map D) H1)(q:∀ys H',Same H1 H'->DVs K H' ys ((as.filter Pd).map F)->Q ys H'):
  MH k ix g (λσ H Q=>∃a,a∈as/\tDT K (B (D a) (replicate k none++outG ix G)) (Pd a) σ H Q) (λσ H Q=>∃a,(a∈as/\Pd a=true)/\tD K (B (D a) (replicate k none++outG ix G)) (F a) σ H Q) σ J H1 Q:=by
 refine⟨λi m ys H=>i<=as.length/\m=as.length-i/\Same H1 H/\DVs K H ys (((as.take i).filter Pd).map F),⟨_,zero_le _,rfl,Same.refl _,.nil⟩,?_⟩
 rintro i m ys H ⟨hi,rfl,sm,dy⟩
 have hyl:ys.length<=as.length:=by
  rw[dy.length,length_map]
  refine le_trans (List.length_filter_le _ _) ?_
  rw[length_take]
  omega
 refine⟨le_trans hyl hz,?_⟩
 by_cases hlt:i<as.length
 .refine .inr ⟨hJ.go i H sm (by rw[length_map];exact hlt),λv H' y=>?_⟩
  obtain⟨s2,d,ed,dv⟩:=hJ.yld i H v H' sm (by rw[length_map];exact hlt) y
  have ea:as[i]?=some as[i]:=getElem?_eq_getElem hlt
  have ed':d=D as[i]:=by
   rw[getElem?_map,ea]at ed
   exact(Option.some.inj ed).symm
  subst ed'
  have hd:as[i]∈as:=getElem_mem hlt
  have tk:(as.take (i+1)).filter Pd=(as.take i).filter Pd++(if Pd as[i]then[as[i]]else[]):=take_succ_filter Pd as i as[i] ea
  refine(hb _ hd).to v _ H' _ _ (((hσ.mono sm).mono s2).comp k ix) dv λσ2 h2=>⟨as[i],hd,h2,λH3 s3=>?_⟩
  cases hp:Pd as[i]with
  |true=>
   refine iteT ⟨as[i],⟨hd,hp⟩,h2.mono s3,λw H4 s4 dw=>⟨as.length- (i+1),by omega,hlt,rfl,((sm.trans s2).trans s3).trans s4,?_⟩⟩
   rw[tk,hp,if_pos rfl,map_append]
   exact(((dy.mono s2).mono s3).mono s4).append (.cons dw .nil)
  |false=>
   refine iteF ⟨as.length- (i+1),by omega,hlt,rfl,(sm.trans s2).trans s3,?_⟩
   rw[tk,hp,if_neg Bool.false_ne_true,append_nil]
   exact(dy.mono s2).mono s3
 .have e:i=as.length:=by omega
  subst e
  rw[List.take_length]at dy
  exact .inl ⟨hJ.stop _ H sm (by rw[length_map];exact le_refl _),q ys H sm dy⟩
theorem GX{α:Type}{as:List α}{D:α->PyData}{k:Nat}{B:PyData->Gam->Gam}(Pd:α->Bool)(F:α->PyData)(hcalm:X.calm=true)(hc:Dr X.env.scope X.N k ix N scope)(og:OwnG k g)(hi:IV X G target iter (as.map D))(hz:as.length<=sizeLine)
  (hb:∀a∈as,BindD X.K k g B (D a))(hg:∀cl C s H fp,PG (AJ X scope cl C N s H fp) target g)
  (ht:∀a∈as,∀cl C s H fp,PF (AJ X scope cl C N s H fp) ifs (tDT X.K (B (D a) (replicate k none++outG ix G)) (Pd a)))
  (he:∀a∈as,Pd a=true->∀cl C s H fp,EV (AJ X scope cl C N s H fp) (B (D a) (replicate k none++outG ix G)) elt (F a))
  (hs:∀x,foldedSetIterable iter X.env x=pure x:=by intro _;rfl):EV X G (.ListComp elt [⟨target,iter,ifs,0⟩] scope pos) (.list ((as.filter Pd).map F)):=by
 refine(Sc hcalm hc og hi (λcl C s H fp=>⟨hg cl C s H fp,PF.ex (t:=λa=>tDT X.K (B (D a) (replicate k none++outG ix G)) (Pd a)) (p:=λa=>a∈as) λd hd=>ht d hd cl C s H fp,PE.ex (t:=λa=>tD X.K (B (D a) (replicate k none++outG ix G)) (F a)) (p:=λa=>a∈as/\Pd a=true) λd hd=>he d hd.1 hd.2 cl C s H fp⟩) hs).imp λσ H Q ⟨h,q⟩=>⟨h,λJ H1 s1 hJ=>?_⟩
 refine NI X.K Pd F hz og hb (h.mono s1) hJ λys H2 s2 dy D hD=>?_
 exact q _ _ ((s1.trans s2).trans (Same.new hD)) (.lst (SqL.of Al) (dy.mono (Same.new hD)))
theorem HK{α:Type}{as:List α}{D:α->PyData}{k i:Nat}{spos:Pos}{B:PyData->Gam->Gam}(Pd:α->Bool)(F:α->PyData)(hcalm:X.calm=true)(hN:X.N.Nodup)(hx0:X.N[i]?=some x)(hx:X.env.scope.names.lookup x=some .local)
  (hc:Dr X.env.scope X.N k ix N scope)(og:OwnG k g)(hi:IV X G target iter (as.map D))(hz:as.length<=sizeLine)
  (hb:∀a∈as,BindD X.K k g B (D a))(hg:∀cl C s H fp,PG (AJ X scope cl C N s H fp) target g)
  (ht:∀a∈as,∀cl C s H fp,PF (AJ X scope cl C N s H fp) ifs (tDT X.K (B (D a) (replicate k none++outG ix G)) (Pd a)))
  (he:∀a∈as,Pd a=true->∀cl C s H fp,EV (AJ X scope cl C N s H fp) (B (D a) (replicate k none++outG ix G)) elt (F a))
  (hsw:swapsWith (.ListComp elt [⟨target,iter,ifs,0⟩] scope pos) (some (.Name x pos')) spos.line X.env=pure true:=by rfl)
  (hs:∀x,foldedSetIterable iter X.env x=pure x:=by intro _;rfl):SV X G (.Assign [.Name x pos'] (.ListComp elt [⟨target,iter,ifs,0⟩] scope pos) spos) (.next (G.set i (some (.list ((as.filter Pd).map F))))):=by
 refine(Mr hcalm hN hx0 hx hc og hi (λcl C s H fp=>⟨hg cl C s H fp,PF.ex (t:=λa=>tDT X.K (B (D a) (replicate k none++outG ix G)) (Pd a)) (p:=λa=>a∈as) λd hd=>ht d hd cl C s H fp,PE.ex (t:=λa=>tD X.K (B (D a) (replicate k none++outG ix G)) (F a)) (p:=λa=>a∈as/\Pd a=true) λd hd=>he d hd.1 hd.2 cl C s H fp⟩) hsw hs).imp λDn σ H ⟨h,q⟩=>⟨h,λJ H1 s1 hJ=>?_⟩
 refine NI X.K Pd F hz og hb (h.mono s1) hJ λys H2 s2 dy D hD=>?_
 have s3:=(s1.trans s2).trans (Same.new (o:=.lst ys) hD)
 exact q _ _ s3 ((h.mono s3).set (.lst (SqL.of Al) (dy.mono (Same.new hD))))
theorem Lv{α:Type}{as:List α}{D:α->PyData}{tg:Expr}{body:List Stmt}{k:Nat}{B:PyData->Gam->Gam}(J:Nat->Gam)(hp:PassesOwn (model X.prog X.w) X.A X.env X.xe)(hcalm:X.calm=true)(hi:IV X (J 0) tg iter (as.map D))(hg:PG X tg g)(hb:∀a∈as,BindD X.K k g B (D a))
  (hs:∀(i:Nat) a,as[i]?=some a->SVs X (B (D a) (J i)) body (.next (J (i+1))))(hfs:∀x,foldedSetIterable iter X.env x=pure x:=by intro _;rfl):SV X (J 0) (.For tg iter body [] pos) (.next (J as.length)):=by
 have hbody:PSs X body (λDn σ H=>∃p:Nat×α,as[p.1]?=some p.2/\tDS X.K (B (D p.2) (J p.1)) (.next (J (p.1+1))) Dn σ H):=λpins s σ H Dn I ⟨p,hp,q⟩=>hs p.1 p.2 hp pins s σ H Dn I q
 refine(Gy hp hcalm hi hg hbody hfs).imp λDn σ H ⟨h,q⟩=>⟨h,λIt0 H1 s1 hJ=>?_⟩
 refine⟨λi m σ H=>i<=as.length/\m=as.length-i/\Same H1 H/\SD X.K H σ (J i),⟨_,zero_le _,rfl,Same.refl _,h.mono s1⟩,?_⟩
 rintro i m σ H ⟨hi,rfl,sm,hσ⟩
 by_cases hlt:i<as.length
 .refine .inr ⟨hJ.go i H sm (by rw[length_map];exact hlt),λσ' H'=>Same H1 H'/\SD X.K H' σ' (J (i+1)),λσ' H' ⟨a,b⟩=>⟨as.length- (i+1),by omega,hlt,rfl,a,b⟩,λv H' y=>?_⟩
  obtain⟨s2,d,ed,dv⟩:=hJ.yld i H v H' sm (by rw[length_map];exact hlt) y
  have ea:as[i]?=some as[i]:=getElem?_eq_getElem hlt
  have ed':d=D as[i]:=by
   rw[getElem?_map,ea]at ed
   exact(Option.some.inj ed).symm
  subst ed'
  refine(hb _ (getElem_mem hlt)).to v _ H' _ _ (hσ.mono s2) dv λσ2 h2=>⟨(i,as[i]),ea,h2,λσ3 H3 s3 h3=>⟨(sm.trans s2).trans s3,h3⟩⟩
 .have e:i=as.length:=by omega
  subst e
  exact .inl ⟨hJ.stop _ H sm (by rw[length_map];exact le_refl _),q σ H (s1.trans sm) hσ⟩
def Hy(i:Nat)(d:PyData)(G:Gam):Gam:=G.set i (some d)
theorem NU{k:Nat}(i:Nat)(d:PyData):BindD K k (BO i) (Hy i) d:=⟨λv σ H G Q h dv q=>q _ (h.set dv)⟩
def Bh(N:List Str)(ds:List PyData):Gam:=ds.map some++replicate (N.length-ds.length) none
theorem SD.start{K:PySem.W.Frag}{H:Hp}{N:List Str}{vs:List V}{ds:List PyData}(h:DVs K H vs ds):SD K H (start N vs) (Bh N ds):=by
 refine⟨by simp[L2.start,Bh,h.length],λi d e=>?_⟩
 unfold Bh at e
 unfold L2.start
 rcases Nat.lt_or_ge i ds.length with hi|hi
 .rw[List.getElem?_append_left (by simpa using hi),List.getElem?_map]at e
  rw[List.getElem?_append_left (by simpa[h.length]using hi),List.getElem?_map]
  cases q:ds[i]? with
  |none=>rw[q]at e;cases e
  |some d'=>
   rw[q]at e
   have e:d'=d:=by
    have:=Option.some.inj e
    exact Option.some.inj this
   subst e
   obtain⟨v,a,b⟩:=h.get q
   exact⟨v,by rw[a];rfl,b⟩
 .rw[List.getElem?_append_right (by simpa using hi),List.getElem?_replicate]at e
  split at e<;>cases e
theorem Fun.data{qual:Str}{st:Stmt}{f:Addr}{ps:List Str}{k:Nat}{F:List PyData->PyData->Prop}(F0:Fun K x qual st f fd)(hm:mg x=some (.ref f))(hb:Binds K fd ps [])(S:FnScope N ps (Ae st))(len:∀ds d,F ds d->ds.length=ps.length)
  (hbody:∀(cdv:Value) (A:Around) (outer:List Env) (s:Shared) (H:Hp) (E:XK) (ds:List PyData) (d:PyData),Room k (A.deeper (envOfC qual (Ae st) s.heap.objs.size f cdv))->F ds d->
   SVs (cxOf CX0 P w K mg base N qual (Ae st) f cdv A outer s H E).nox (Bh N ds) (AN st) (.ret d)):DFn P w K mg base (k+1) x F:=by
 refine⟨f,fd,ps,F0.ok S (λvs H Q E ⟨ds,d,h1,h2,_⟩=>h1.length.trans (len ds d h2)) (λcdv A outer s H vs Q E hr ⟨ds,d,h1,h2,q⟩=>⟨_,hbody cdv A outer s H E ds d hr h2,SD.start h1,q⟩),hm,F0.kp,hb⟩
mutual
def noL:PyData->Bool
 | .none=>true
 | .bool _=>true
 | .int _=>true
 | .str _=>true
 | .tuple xs=>noLs xs
 | .list _=>false
 | .dict _=>false
def noLs:List PyData->Bool
 |[]=>true
 |x::r=>noL x&&noLs r
end
def dele(H:Hp)(p:Addr):Hp:=λb=>if b=p then none else H b
variable{p:Addr}
theorem Bj:dele H p p=none:=by unfold dele;rw[if_pos rfl]
theorem B9{b:Addr}(h:b≠p):dele H p b=H b:=by unfold dele;rw[if_neg h]
theorem Kh{o:HO}(h:H p=some o):upd (dele H p) p o=H:=by
 funext b
 by_cases hb:b=p
 .subst hb;rw[Al,h]
 .rw[Aj hb,B9 hb]
mutual
theorem DV.dele{K:PySem.W.Frag}{H:Hp}{p:Addr}{ws:List V}(hp:H p=some (.lst ws)):∀{v:V}{d:PyData},DV K H v d->noL d=true->DV K (L2.dele H p) v d
 |_,_,.non,_=>.non
 |_,_,.bl b,_=>.bl b
 |_,_,.int i,_=>.int i
 |_,_,.str x,_=>.str x
 |_,_,.tup (a:=a) h t,f=>by
  refine .tup ?_ (DVs.dele hp t (by unfold noL at f;exact f))
  rcases h with(h|⟨o,h⟩)|h
  .have:a≠p:=λz=>by subst z;rw[hp]at h;cases h
   exact .inl (.inl (by rw[B9 this];exact h))
  .have:a≠p:=λz=>by subst z;rw[hp]at h;cases h
   exact .inl (.inr ⟨o,by rw[B9 this];exact h⟩)
  .exact .inr h
 |_,_,.lst h t,f=>by unfold noL at f;cases f
 |_,_,.dct h t,f=>by unfold noL at f;cases f
 |_,_,.exc h,f=>by unfold noL at f;cases f
 |_,_,.exr h h',f=>by unfold noL at f;cases f
 |_,_,.obj h n t,f=>by unfold noL at f;cases f
 |_,_,.dtt h,f=>by unfold noL at f;cases f
theorem DVs.dele{K:PySem.W.Frag}{H:Hp}{p:Addr}{ws:List V}(hp:H p=some (.lst ws)):∀{vs:List V}{ds:List PyData},DVs K H vs ds->noLs ds=true->DVs K (L2.dele H p) vs ds
 |_,_,.nil,_=>.nil
 |_,_,.cons h t,f=>by
  unfold noLs at f
  rw[Bool.and_eq_true]at f
  exact .cons (DV.dele hp h f.1) (DVs.dele hp t f.2)
end
def OSt(K:Frag)(H0:Hp)(p:Addr)(i:Nat)(G:Gam)(ds:List PyData)(σ:St)(H:Hp):Prop:=
 ∃Hb vs,H=upd Hb p (.lst vs)/\Hb p=none/\Same H0 Hb/\SD K Hb σ G/\σ[i]?=some (some (.ref p))/\DVs K Hb vs ds
abbrev EN(G:Gam)(i:Nat)(ds:List PyData):Gam:=G.set i (some (.list ds))
theorem OSt.sd{H0:Hp}{i:Nat}(h:OSt K H0 p i G ds σ H):SD K H σ (EN G i ds):=by
 obtain⟨Hb,vs,rfl,hn,_,hσ,hi,dv⟩:=h
 have h1:=hσ.mono (Same.new (o:=.lst vs) hn)
 have h2:=h1.set (i:=i) (v:=.ref p) (d:=.list ds) (.lst (SqL.of Al) (dv.mono (Same.new hn)))
 have e:σ.set i (some (V.ref p))=σ:=by
  refine List.ext_getElem? λj=>?_
  by_cases hj:i=j
  .subst hj
   rw[List.getElem?_set_self (List.getElem?_eq_some_iff.mp hi).1,hi]
  .rw[List.getElem?_set_ne hj]
 rw[e]at h2
 exact h2
theorem OSt.step{H0:Hp}{i:Nat}(h:OSt K H0 p i G ds σ H)(s:Same H H'):
  OSt K H0 p i G ds σ H'/\∀v d,DV K H' v d->noL d=true->∃Hb vs,H'=upd Hb p (.lst vs)/\Hb p=none/\Same H0 Hb/\SD K Hb σ G/\σ[i]?=some (some (.ref p))/\DVs K Hb vs ds/\DV K Hb v d:=by
 obtain⟨Hb,vs,rfl,hn,s0,hσ,hi,dv⟩:=h
 have hp:H' p=some (.lst vs):=s p _ Al
 have sb:Same Hb (dele H' p):=λb o e=>by
  have hb:b≠p:=Av e hn
  rw[B9 hb]
  exact s b o (by rw[Aj hb];exact e)
 refine⟨⟨dele H' p,vs,(Kh hp).symm,Bj,s0.trans sb,hσ.mono sb,hi,dv.mono sb⟩,λv d q f=>⟨dele H' p,vs,(Kh hp).symm,Bj,s0.trans sb,hσ.mono sb,hi,dv.mono sb,DV.dele hp q f⟩⟩
def tH(K:Frag)(H0:Hp)(p:Addr)(i:Nat)(Pre Post:Gam->List PyData->Prop):TS:=λD σ H=>(∃G ds,Pre G ds/\OSt K H0 p i G ds σ H)/\∀σ' H' G ds,Post G ds->OSt K H0 p i G ds σ' H'->D.nx σ' H'
abbrev HT1(X:Cx)(H0:Hp)(p:Addr)(i:Nat)(Pre:Gam->List PyData->Prop)(st:Stmt)(Post:Gam->List PyData->Prop):Prop:=PS X st (tH X.K H0 p i Pre Post)
abbrev HTs(X:Cx)(H0:Hp)(p:Addr)(i:Nat)(Pre:Gam->List PyData->Prop)(sts:List Stmt)(Post:Gam->List PyData->Prop):Prop:=PSs X sts (tH X.K H0 p i Pre Post)
variable{H0:Hp}
section
variable{i j:Nat}{Pre Mid Post PreA PreB:Gam->List PyData->Prop}{pos2:Pos}
theorem BI(h:∀G ds,Pre G ds->Post G ds):HTs X H0 p i Pre [] Post:=pss_nil.imp λD σ H ⟨⟨G,ds,a,b⟩,q⟩=>q σ H G ds (h G ds a) b
theorem AU{st:Stmt}{sts:List Stmt}(h1:HT1 X H0 p i Pre st Mid)(h2:HTs X H0 p i Mid sts Post):HTs X H0 p i Pre (st::sts) Post:=
 (Az h1 h2).imp λD σ H ⟨a,q⟩=>⟨a,λσ' H' G ds m o=>⟨⟨G,ds,m,o⟩,q⟩⟩
theorem DY(hN:X.N.Nodup)(hi:X.N[j]?=some x)(hij:j≠i)(hx:Loc X.env.scope x)(h:∀G ds,Pre G ds->∃d,EV X (EN G i ds) e d/\noL d=true/\Post (G.set j (some d)) ds)(hs:swapsWith e (some (.Name x pos')) pos.line X.env=pure false:=by rfl)
  (hf:Zlo X x:=by first|exact .inl rfl|exact .inr rfl|assumption):HT1 X H0 p i Pre (.Assign [.Name x pos'] e pos) Post:=by
 intro pins s σ H D I ⟨⟨G,ds,a,o⟩,q⟩
 obtain⟨d,ev,nl,po⟩:=h G ds a
 refine BL hN hi hx ev hs hf pins s σ H D I ⟨o.sd,λv H1 s1 d1=>?_⟩
 obtain⟨_,k⟩:=o.step s1
 obtain⟨Hb,vs,e1,e2,e3,e4,e5,e6,e7⟩:=k v d d1 nl
 exact q _ _ _ ds po ⟨Hb,vs,e1,e2,e3,e4.set e7,by rw[getElem?_set_ne hij];exact e5,e6⟩
theorem EE(h:∀G ds,Pre G ds->∃d,EV X (EN G i ds) e d/\noL d=true/\ds.length<sizeLine/\Post G (ds++[d]))(hv:PE X (.Name x pos2) (tVar i))
  (hs0:starEach [e] X.env=(false,eval e X.env)::starEach [] X.env:=by rfl)
  (hb:attributeBase (.Name x pos2) "append" X.env (eval (.Name x pos2) X.env)=eval (.Name x pos2) X.env:=by rfl)
  (hfew:((backTo pos' (starEach [e] X.env)).all (λx=>!x.1)&&(backToKw pos' (keywordEach [] X.env)).all (λx=>x.1.isSome)
   &&decide ([e].length+([]:List Keyword).length+(if([]:List Keyword).isEmpty then 0 else 1)<30))=true:=by rfl)
  (hline:(apos.endLine==pos'.line)=true:=by rfl)(hpl:(backTo pos' (starEach [] X.env)).any (·.1)=false:=by rfl)
  (hsw:swapsWith (.Call (.Attribute (.Name x pos2) "append" apos) [e] [] pos') none pos.line X.env=pure false:=by rfl):
  HT1 X H0 p i Pre (.Expr (.Call (.Attribute (.Name x pos2) "append" apos) [e] [] pos') pos) Post:=by
 intro pins s σ H D I ⟨⟨G,ds,a,o⟩,q⟩
 obtain⟨d,ev,nl,hz,po⟩:=h G ds a
 refine BG (HC plainAttrs_list PySem.F.slot_list_append PySem.F.type_list_append DA hv (Aa ev Ad hs0) hb hfew hline hs0 hpl) hsw pins s σ H D I ?_
 obtain⟨Hb,vs,rfl,hn,s0,hσ,hi,dv⟩:=id o
 refine⟨_,hi,.inl ⟨rfl,vs,SqL.of Al⟩,o.sd,λws H1 s1 d1=>?_⟩
 obtain⟨v,rfl,d2⟩:=d1.one
 obtain⟨_,k⟩:=o.step s1
 obtain⟨Hb',vs',e1,e2,e3,e4,e5,e6,e7⟩:=k v d d2 nl
 subst e1
 have hup:upd (upd Hb' p (.lst vs')) p (.lst (vs'++[v]))=upd Hb' p (.lst (vs'++[v])):=Nd
 refine⟨p,vs',v,rfl,rfl,Al,by rw[e6.length];exact hz,?_⟩
 rw[hup]
 exact q _ _ G _ po ⟨Hb',vs'++[v],rfl,e2,e3,e4,e5,e6.append (.cons e7 .nil)⟩
theorem UG{α:Type}{Pr:α->Gam->List PyData->Prop}{st:Stmt}(h:∀a,HT1 X H0 p i (Pr a) st Post):HT1 X H0 p i (λG ds=>∃a,Pr a G ds) st Post:=λpins s σ H D I ⟨⟨G,ds,⟨a,b⟩,o⟩,q⟩=>h a pins s σ H D I ⟨⟨G,ds,b,o⟩,q⟩
theorem NO{a:Expr}{tg:Expr}{n:Int}(ha:EV X G a (.int n))(h1:-(2^62)<=n)(h2:n<2^62)(hg:Gl X "range")(hm:X.mg "range"=none)(hs:starEach [a] X.env=[(false,eval a X.env)]:=by rfl):
  PI X tg (.Call (.Name "range" pos') [a] [] pos) (λσ H R=>SD X.K H σ G/\∀H',Same H H'->R (Itr 0 n.toNat) H'):=
 (Jm hg hm (Aa ha Ad hs) hs).imp λσ H R ⟨h,q⟩=>⟨h,λvs H1 s1 d1=>by
  obtain⟨v,rfl,dv⟩:=d1.one
  exact⟨n,by rw[dv.of_int],h1,h2,q H1 s1⟩⟩
theorem Vj{a:Expr}{tg:Expr}{m n:Int}(ha:EV X G a (.int m))(hb:EV X G b (.int n))(h0:-(2^62)<=m/\m<2^62/\-(2^62)<=n/\n<2^62)(hg:Gl X "range")(hm:X.mg "range"=none)
  (hs:starEach [a,b] X.env=[(false,eval a X.env),(false,eval b X.env)]:=by rfl)(hs2:starEach [b] X.env=[(false,eval b X.env)]:=by rfl):
  PI X tg (.Call (.Name "range" pos') [a,b] [] pos) (λσ H R=>SD X.K H σ G/\∀H',Same H H'->R (Itr m (n-m).toNat) H'):=
 (OJ hg hm (Aa ha (Aa hb Ad hs2) (by unfold Zst;rw[hs,hs2])) hs hs2).imp λσ H R ⟨h,q⟩=>⟨h,λvs H1 s1 d1=>by
  obtain⟨v,w,rfl,dv,dw⟩:=d1.two
  exact⟨m,n,by rw[dv.of_int,dw.of_int],h0,q H1 s1⟩⟩
theorem Ph{A B:List Stmt}(h:∀G ds,Pre G ds->(TV X (EN G i ds) c true/\PreA G ds)\/(TV X (EN G i ds) c false/\PreB G ds))(h1:HTs X H0 p i PreA A Post)(h2:HTs X H0 p i PreB B Post):HT1 X H0 p i Pre (.If c A B pos) Post:=by
 intro pins s σ H D I ⟨⟨G,ds,a,o⟩,q⟩
 rcases h G ds a with⟨tv,pa⟩|⟨tv,pb⟩
 .exact Cu tv h1 h2 pins s σ H D I ⟨o.sd,λH1 s1=>iteT ⟨⟨G,ds,pa,(o.step s1).1⟩,q⟩⟩
 .exact Cu tv h1 h2 pins s σ H D I ⟨o.sd,λH1 s1=>iteF ⟨⟨G,ds,pb,(o.step s1).1⟩,q⟩⟩
theorem FD{tg:Expr}{body:List Stmt}{lo:Int}{n:Nat}(W:Nat->Gam->List PyData->Prop)(hp:PassesOwn (model X.prog X.w) X.A X.env X.xe)(hcalm:X.calm=true)(hij:j≠i)(hg:PG X tg (BO j))
  (hpre:∀G ds,Pre G ds->W 0 G ds/\PI X tg iter (λσ H R=>SD X.K H σ (EN G i ds)/\∀H',Same H H'->R (Itr lo n) H'))
  (hs:∀k,k<n->HTs X H0 p i (λG ds=>∃G',W k G' ds/\G=G'.set j (some (.int (lo+(k:Nat))))) body (W (k+1)))(hpost:∀G ds,W n G ds->Post G ds)
  (hfs:∀x,foldedSetIterable iter X.env x=pure x:=by intro _;rfl):HT1 X H0 p i Pre (.For tg iter body [] pos) Post:=by
 intro pins s σ H D I ⟨⟨G,ds,a,o⟩,q⟩
 obtain⟨w0,hi⟩:=hpre G ds a
 have hbody:PSs X body (λD σ H=>∃k:Nat,k<n/\tH X.K H0 p i (λG ds=>∃G',W k G' ds/\G=G'.set j (some (.int (lo+(k:Nat))))) (W (k+1)) D σ H):=λpins s σ H D I ⟨k,hk,q⟩=>hs k hk pins s σ H D I q
 refine Gy hp hcalm hi hg hbody hfs pins s σ H D I ⟨o.sd,λH1 s1=>?_⟩
 refine Jl (lo:=lo) (n:=n) (g:=BO j) (tb:=λD σ H=>∃k:Nat,k<n/\tH X.K H0 p i (λG ds=>∃G',W k G' ds/\G=G'.set j (some (.int (lo+(k:Nat))))) (W (k+1)) D σ H) (λk σ H=>k<=n/\∃G ds,W k G ds/\OSt X.K H0 p i G ds σ H) ⟨zero_le _,G,ds,w0,(o.step s1).1⟩ (λk σ2 H2 hk ⟨_,G2,ds2,w2,o2⟩=>?_) (λσ2 H2 ⟨_,G2,ds2,w2,o2⟩=>q σ2 H2 G2 ds2 (hpost _ _ w2) o2)
 obtain⟨Hb,vs,rfl,hn,s0,hσ,hi2,dv⟩:=id o2
 refine⟨k,hk,⟨_,ds2,⟨G2,w2,rfl⟩,Hb,vs,rfl,hn,s0,hσ.set (.int _),by rw[getElem?_set_ne hij];exact hi2,dv⟩,λσ3 H3 G3 ds3 w3 o3=>⟨hk,G3,ds3,w3,o3⟩⟩
theorem RG{tg:Expr}{y:Str}{body:List Stmt}{m:Nat}{xs:List PyData}(W:Nat->Gam->List PyData->Prop)(hp:PassesOwn (model X.prog X.w) X.A X.env X.xe)(hcalm:X.calm=true)(hij:j≠i)(hg:PG X tg (BO j))(hv:PE X (.Name y pos') (tVar m))
  (hpre:∀G ds,Pre G ds->W 0 G ds/\G[m]?=some (some (.list xs)))
  (hs:∀(H1:Hp) (k:Nat) d,xs[k]?=some d->HTs X H1 p i (λG ds=>∃G',W k G' ds/\G=G'.set j (some d)) body (W (k+1)))(hpost:∀G ds,W xs.length G ds->Post G ds)
  (hfs:∀x,foldedSetIterable (.Name y pos') X.env x=pure x:=by intro _;rfl):HT1 X H0 p i Pre (.For tg (.Name y pos') body [] pos) Post:=by
 intro pins s σ H D I ⟨⟨G,ds,a,o⟩,q⟩
 obtain⟨w0,hm⟩:=hpre G ds a
 obtain⟨Hb,vs,rfl,hn,s0,hσ,hi,dv⟩:=id o
 obtain⟨v,e1,dl⟩:=hσ.2 m _ hm
 obtain⟨l,us,rfl,hl,dus⟩:=dl.of_lst
 have hbody:PSs X body (λD σ H=>∃kd:Nat×PyData,xs[kd.1]?=some kd.2/\tH X.K Hb p i (λG ds=>∃G',W kd.1 G' ds/\G=G'.set j (some kd.2)) (W (kd.1+1)) D σ H):=λpins s σ H D I ⟨k,hk,q⟩=>hs Hb k.1 k.2 hk pins s σ H D I q
 have keyN:∀{G2:Gam}{ds2:List PyData}{σ2:St}{H2:Hp},OSt X.K Hb p i G2 ds2 σ2 H2->SqL X.K H2 l us:=λ⟨Hc,ws,e,nc,sc,_⟩=>by
  subst e
  exact(Same.new nc).seq (sc.seq hl)
 refine Gy hp hcalm (G_ hv) hg hbody hfs pins s σ _ D I ⟨_,e1,l,rfl,⟨us,(Same.new hn).seq hl⟩,?_⟩
 refine KP (K:=X.K) (a:=l) (xs:=us) (g:=BO j) (tb:=λD σ H=>∃kd:Nat×PyData,xs[kd.1]?=some kd.2/\tH X.K Hb p i (λG ds=>∃G',W kd.1 G' ds/\G=G'.set j (some kd.2)) (W (kd.1+1)) D σ H)
  (λk σ H=>∃G ds,W k G ds/\OSt X.K Hb p i G ds σ H) ⟨G,ds,w0,Hb,vs,rfl,hn,Same.refl _,hσ,hi,dv⟩ (λk σ2 H2 _ ⟨_,_,_,o2⟩=>keyN o2) (λk z σ2 H2 hk ⟨G2,ds2,w2,o2⟩=>?_)
  (λσ2 H2 ⟨G2,ds2,w2,Hc,ws,e,nc,sc,r⟩=>q σ2 H2 G2 ds2 (hpost _ _ (by rw[<-dus.length];exact w2)) ⟨Hc,ws,e,nc,s0.trans sc,r⟩)
 obtain⟨d,ed,dz⟩:=dus.get' hk
 obtain⟨Hc,ws,e,nc,sc,hσ2,hi2,dv2⟩:=o2
 exact⟨(k,d),ed,⟨_,ds2,⟨G2,w2,rfl⟩,Hc,ws,e,nc,sc,hσ2.set (dz.mono sc),by rw[getElem?_set_ne hij];exact hi2,dv2⟩,λσ3 H3 G3 ds3 w3 o3=>⟨G3,ds3,w3,o3⟩⟩
def tR(K:Frag)(G:Gam)(R:PyData->Prop):TS:=λD σ H=>SD K H σ G/\∀d v H',R d->Same H H'->DV K H' v d->D.rt v H'
abbrev RVs(X:Cx)(G:Gam)(sts:List Stmt)(R:PyData->Prop):Prop:=PSs X sts (tR X.K G R)
def tHR(K:Frag)(H0:Hp)(p:Addr)(i:Nat)(Pre:Gam->List PyData->Prop)(R:PyData->Prop):TS:=λD σ H=>(∃G ds,Pre G ds/\OSt K H0 p i G ds σ H)/\∀d v H',R d->Same H0 H'->DV K H' v d->D.rt v H'
abbrev HRs(X:Cx)(H0:Hp)(p:Addr)(i:Nat)(Pre:Gam->List PyData->Prop)(sts:List Stmt)(R:PyData->Prop):Prop:=PSs X sts (tHR X.K H0 p i Pre R)
variable{R:PyData->Prop}
theorem C9{st:Stmt}{sts:List Stmt}(h1:HT1 X H0 p i Pre st Mid)(h2:HRs X H0 p i Mid sts R):HRs X H0 p i Pre (st::sts) R:=
 (Az h1 h2).imp λD σ H ⟨a,q⟩=>⟨a,λσ' H' G ds m o=>⟨⟨G,ds,m,o⟩,q⟩⟩
theorem Sz{sts:List Stmt}(hv:PE X (.Name x pos2) (tVar i))(h:∀G ds,Pre G ds->R (.list ds)):HRs X H0 p i Pre (.Return (some (.Name x pos2)) pos::sts) R:=
 (Az (EW hv) (AA (sts:=sts))).imp λD σ H ⟨⟨G,ds,a,Hb,vs,e,n,s0,hσ,hi,dv⟩,q⟩=>by
  subst e
  exact⟨_,hi,q _ _ _ (h G ds a) (s0.trans (Same.new n)) (.lst (SqL.of Al) (dv.mono (Same.new n)))⟩
theorem Jx{sts:List Stmt}(hN:X.N.Nodup)(hi:X.N[i]?=some x)(hx:Loc X.env.scope x)(hG:i<G.length)(h:∀H0 p,HRs X H0 p i (λG' ds=>G'=G.set i none/\ds=[]) sts R)
  (hs:swapsWith (.List [] pos2) (some (.Name x pos')) pos.line X.env=pure false:=by rfl)(hf:Zlo X x:=by first|exact .inl rfl|exact .inr rfl|assumption):
  RVs X G (.Assign [.Name x pos'] (.List [] pos2) pos::sts) R:=by
 intro pins s σ H D I ⟨hσ,q⟩
 have h2:PSs X sts (λD σ H=>∃hp:Hp×Addr,tHR X.K hp.1 hp.2 i (λG' ds=>G'=G.set i none/\ds=[]) R D σ H):=λpins s σ H D I ⟨hp,q⟩=>h hp.1 hp.2 pins s σ H D I q
 refine Az (BL hN hi hx (Ho pa_nil) hs hf) h2 pins s σ H D I ⟨zero_le _,λp hp=>⟨(H,p),⟨_,[],⟨rfl,rfl⟩,H,[],rfl,hp,Same.refl _,⟨by rw[length_set,length_set,hσ.1],λj d e=>?_⟩,getElem?_set_self (by rw[hσ.1];exact hG),.nil⟩,λd v H' r s' dv=>q d v H' r s' dv⟩⟩
 by_cases hj:i=j
 .subst hj
  rw[getElem?_set_self hG]at e
  cases e
 .rw[getElem?_set_ne hj]at e ⊢
  exact hσ.2 j d e
theorem Dy{st:Stmt}{sts:List Stmt}{G1:Gam}(h1:SV X G st (.next G1))(h2:RVs X G1 sts R):RVs X G (st::sts) R:=
 (Az h1 h2).imp λD σ H ⟨h,q⟩=>⟨h,λσ' H' s' h'=>⟨h',λd v H2 r s2 dv=>q d v H2 r (s'.trans s2) dv⟩⟩
def spR(K:Frag)(F:List PyData->PyData->Prop)(pre:List PyData->Prop):Sp:=λvs H Q _=>∃ds,DVs K H vs ds/\pre ds/\∀d v H',F ds d->Same H H'->DV K H' v d->Q v H'
def RFn(P:Program)(w:World)(K:Frag)(mg:Str->Option Value)(base:Heap)(k:Nat)(x:Str)(F:List PyData->PyData->Prop)(pre:List PyData->Prop):Prop:=
 ∃f fd ps,FnOk P w K mg base CX0 k f fd ps (spR K F pre)/\mg x=some (.ref f)/\keepIn K (.ref f)=true/\Binds K fd ps []
def tDR(K:Frag)(G:Gam)(R:PyData->Prop):TE:=λσ H Q=>SD K H σ G/\∀d v H',R d->Same H H'->DV K H' v d->Q v H'
abbrev EVR(X:Cx)(G:Gam)(e:Expr)(R:PyData->Prop):Prop:=PE X e (tDR X.K G R)
theorem Ij{k:Nat}{F:List PyData->PyData->Prop}{pre:List PyData->Prop}(D:RFn X.prog X.w X.K X.mg X.base k x F pre)(hr:Room k X.A)(hg:Gl X x)(ha:AV X G (e::es) ds)(hF:pre ds)(hdb:(x==("__debug__":Str))=false:=by decide)
  (he:Zst X e es:=by rfl)(hpl:(backTo pos (starEach es X.env)).any (·.1)=false:=by rfl):EVR X G (.Call (.Name x pos2) (e::es) [] pos) (F ds):=by
 obtain⟨f,fd,ps,ok,hm,hk,hb⟩:=D
 refine(Ed ok hr hg hm hk hb .nil Cs ha hdb he hpl).imp λσ H Q ⟨h,q⟩=>⟨h,λvs H1 s1 d1=>?_⟩
 show spR X.K F pre (vs++[]) H1 Q E0
 rw[append_nil]
 exact⟨ds,d1,hF,λd v H2 r s2 d2=>q d v H2 r (s1.trans s2) d2⟩
theorem JN(h:EV X G e d)(hr:R d):EVR X G e R:=h.imp λσ H Q ⟨h,q⟩=>⟨h,λv H' s' dv=>q d v H' hr s' dv⟩
theorem HA{sts:List Stmt}{o:Out}(hN:X.N.Nodup)(hi:X.N[i]?=some x)(hx:Loc X.env.scope x)(h:EVR X G e R)(h2:∀d,R d->SVs X (G.set i (some d)) sts o)(hs:swapsWith e (some (.Name x pos')) pos.line X.env=pure false:=by rfl)
  (hf:Zlo X x:=by first|exact .inl rfl|exact .inr rfl|assumption):SVs X G (.Assign [.Name x pos'] e pos::sts) o:=by
 have hr:PSs X sts (λD σ H=>∃d,R d/\tDS X.K (G.set i (some d)) o D σ H):=λpins s σ H D I ⟨d,r,q⟩=>h2 d r pins s σ H D I q
 refine(Az (BL hN hi hx h hs hf) hr).imp λD σ H ⟨h,q⟩=>⟨h,λd v H1 r s1 d1=>⟨d,r,(h.mono s1).set d1,?_⟩⟩
 cases o with
 |next G2=>exact λσ2 H2 s2 h2=>q σ2 H2 (s1.trans s2) h2
 |ret d=>exact λv H2 s2 h2=>q v H2 (s1.trans s2) h2
theorem QJ{sts:List Stmt}{R2:PyData->Prop}(hN:X.N.Nodup)(hi:X.N[i]?=some x)(hx:Loc X.env.scope x)(h:EVR X G e R)(h2:∀d,R d->RVs X (G.set i (some d)) sts R2)(hs:swapsWith e (some (.Name x pos')) pos.line X.env=pure false:=by rfl)
  (hf:Zlo X x:=by first|exact .inl rfl|exact .inr rfl|assumption):RVs X G (.Assign [.Name x pos'] e pos::sts) R2:=by
 have hr:PSs X sts (λD σ H=>∃d,R d/\tR X.K (G.set i (some d)) R2 D σ H):=λpins s σ H D I ⟨d,r,q⟩=>h2 d r pins s σ H D I q
 exact(Az (BL hN hi hx h hs hf) hr).imp λD σ H ⟨h,q⟩=>⟨h,λd v H1 r s1 d1=>⟨d,r,(h.mono s1).set d1,λd2 v2 H2 r2 s2 dv2=>q d2 v2 H2 r2 (s1.trans s2) dv2⟩⟩
end
theorem Fun.dataR{qual:Str}{st:Stmt}{f:Addr}{ps:List Str}{k:Nat}{F:List PyData->PyData->Prop}{pre:List PyData->Prop}(F0:Fun K x qual st f fd)(hm:mg x=some (.ref f))(hb:Binds K fd ps [])(S:FnScope N ps (Ae st))(len:∀ds,pre ds->ds.length=ps.length)
  (hbody:∀(cdv:Value) (A:Around) (outer:List Env) (s:Shared) (H:Hp) (E:XK) (ds:List PyData),Room k (A.deeper (envOfC qual (Ae st) s.heap.objs.size f cdv))->pre ds->
   RVs (cxOf CX0 P w K mg base N qual (Ae st) f cdv A outer s H E).nox (Bh N ds) (AN st) (F ds)):RFn P w K mg base (k+1) x F pre:=by
 refine⟨f,fd,ps,F0.ok S (λvs H Q E ⟨ds,h1,h2,_⟩=>h1.length.trans (len ds h2)) (λcdv A outer s H vs Q E hr ⟨ds,h1,h2,q⟩=>⟨_,hbody cdv A outer s H E ds hr h2,SD.start h1,q⟩),hm,F0.kp,hb⟩
section
variable{a:Expr}{rest:List Expr}{p p3:Pos}{d':PyData}
theorem A2(h:EV X G e d)(q:d=d'):EV X G e d':=q▸h
theorem Am{k k':Bool}(h:TV X G e k)(q:k=k'):TV X G e k':=q▸h
end
mutual
theorem Et:∀(d:PyData),d.canLay0=true->eqv d d=true
 | .none,_=>rfl
 | .bool b,_=>by simp[eqv]
 | .int i,_=>by simp[eqv]
 | .str x,_=>by simp[eqv]
 | .list xs,h=>by unfold eqv;exact Ex xs (by simpa[canLay0]using h)
 | .tuple xs,h=>by unfold eqv;exact Ex xs (by simpa[canLay0]using h)
 | .dict _,h=>by simp[canLay0]at h
theorem Ex:∀(ds:List PyData),canLayAll0 ds=true->eqvAll ds ds=true
 |[],_=>rfl
 |d::r,h=>by
  have h':d.canLay0=true/\canLayAll0 r=true:=by simpa[canLayAll0]using h
  unfold eqvAll
  rw[Et d h'.1,Ex r h'.2]
  rfl
end
theorem Dk{α:Type}{f:α->PyData}:∀(l:List α),(∀a∈l,(f a).canLay0=true)->canLayAll0 (l.map f)=true
 |[],_=>rfl
 |a::r,h=>by
  rw[map_cons]
  unfold canLayAll0
  rw[h a mem_cons_self,Dk r λb hb=>h b (mem_cons_of_mem _ hb)]
  rfl
theorem Ec{α:Type}{f:α->PyData}{n:Nat}:∀(l:List α),(∀a∈l,(f a).depth<=n)->depthAll (l.map f)<=n
 |[],_=>zero_le _
 |a::r,h=>by
  rw[map_cons]
  unfold depthAll
  exact Nat.max_le.mpr ⟨h a mem_cons_self,Ec r λb hb=>h b (mem_cons_of_mem _ hb)⟩
theorem BP{α:Type}(l:List α):l.filter (λ_=>true)=l:=List.filter_eq_self.mpr λ_ _=>rfl
theorem AF{xs:List PyData}{i:Int}(h0:0<=i)(h:xs[i.toNat]?=some d):atI xs i=some d:=by
 have:=Sh h
 rwa[Int.toNat_of_nonneg h0]at this
section
variable{a:Expr}{p:Pos}
theorem Au(id:String)(ha:AV X G (e::es) ds)(hc:CD X (.builtin id) ds d)(hg:Gl X x)(hm:X.mg x=none)(hv:bootBuiltins x=some (.builtin id))(hn:x≠"__name__":=by decide)(hdb:(x==("__debug__":Str))=false:=by decide)
  (he:Zst X e es:=by rfl)(hpl:(backTo pos (starEach es X.env)).any (·.1)=false:=by rfl):EV X G (.Call (.Name x p) (e::es) [] pos) d:=P6 hc hg hm hv ha hn hdb he hpl
theorem BM(T:String)(ha:AV X G (e::es) ds)(hc:CD X (.type T) ds d)(hg:Gl X x)(hm:X.mg x=none)(hv:bootBuiltins x=some (.type T))(hn:x≠"__name__":=by decide)(hdb:(x==("__debug__":Str))=false:=by decide)
  (he:Zst X e es:=by rfl)(hpl:(backTo pos (starEach es X.env)).any (·.1)=false:=by rfl):EV X G (.Call (.Name x p) (e::es) [] pos) d:=Ob hc hg hm hv ha hn hdb he hpl
theorem Od{op op':CmpOp}{k k':Bool}(ha:EV X G a da)(hb:EV X G b db)(ho:OD X (compareOp op) da db (.bool k))(hc:EV X G c dc)(ho':OD X (compareOp op') db dc (.bool k'))
  (hm:lastMarks [op,op'] [b,c]=false:=by with_unfolding_all rfl):EV X G (.Compare a [op,op'] [b,c] pos) (.bool (k&&k')):=QU ho (λ_=>ho') ha hb (λ_=>hc) hm
end
theorem Bf{zs:List Int}{i:Int}(h0:0<=i)(h:i<zs.length):atI (zs.map int) i=some (.int (zs.getD i.toNat 0)):=by
 have hi:i.toNat<zs.length:=by omega
 exact AF h0 (by simp[hi])
structure FnIn(K:Frag)(x:Str)(st:Stmt)(f:Addr)(fd:FuncData):Prop where
 ns:nsIn K mainGlobals x=some (some (.ref f))
 fn:Fun K x x st f fd
theorem fnIn_mk{st:Stmt}{f:Addr}{oc:Value}{od an:Option Addr}{osl:Array (Option Value)}{kV doc pm cdv ct:Value}(a:nsIn K mainGlobals x=some (some (.ref f)))
  (l:K.lookup f=some ⟨oc,od,.func (fnOf x x (DW st) (AN st) (Ae st) .none kV doc pm an cdv ct),osl⟩)(c:codeIn K cdv x=true)(k:keepIn K (.ref f)=true):∃f fd,FnIn K x st f fd:=
 ⟨f,_,a,Mt l c k⟩
theorem Fun.dataOk{qual:Str}{st:Stmt}{f:Addr}{ps:List Str}{k:Nat}{F:List PyData->PyData->Prop}(F0:Fun K x qual st f fd)(S:FnScope N ps (Ae st))(len:∀ds d,F ds d->ds.length=ps.length)
  (hbody:∀(cdv:Value) (A:Around) (outer:List Env) (s:Shared) (H:Hp) (E:XK) (ds:List PyData) (d:PyData),Room k (A.deeper (envOfC qual (Ae st) s.heap.objs.size f cdv))->F ds d->
   SVs (cxOf CX0 P w K mg base N qual (Ae st) f cdv A outer s H E).nox (Bh N ds) (AN st) (.ret d)):FnOk P w K mg base CX0 (k+1) f fd ps (spD K F):=
 F0.ok S (λvs H Q E ⟨ds,d,h1,h2,_⟩=>h1.length.trans (len ds d h2)) (λcdv A outer s H vs Q E hr ⟨ds,d,h1,h2,q⟩=>⟨_,hbody cdv A outer s H E ds d hr h2,SD.start h1,q⟩)
def Nn(ds:List PyData)(d:PyData):Prop:=∃ns:List Int,ds=[.list (ns.map int)]/\ns.length<=63/\d=.bool true
theorem walk_D{l:PySem.W.OpenLaw}{q:Program}{loose:List Str}{XP:(Str->Option Value)->Heap->Prop}{YP:World->Heap->Prop}{d:DefRec}{K:Params->Frag}(hn:l.most=some 63)(hdf:d.params.defaults=[])
  (hY:∀(w:World) (h:Heap),YP w h->(K w.params).In h)
  (F:∀(w:World) (mg:Str->Option Value) (fa:Addr) (h:Heap),(K w.params).In h->h.Ns mainGlobals mg->mg d.name=some (.ref fa)->
   ∃fd:FuncData,(∀(s:Shared) (u:Value),BindsTo s fd ⟨[u],[]⟩ [("script",u)])/\∀base:Heap,(K w.params).In base->base.Ns mainGlobals mg->FnOk l.prog w (K w.params) mg base CX0 20 fa fd ["script"] (spD (K w.params) Nn)):
  PySem.W.WalkO q loose XP YP l.row.toRowW d [] (λf vs=>PySem.call f vs):=
 L2.walk_of (n:=63) (k:=20) (x:="script") (CX:=λ_=>CX0) (sp:=λw=>spD (K w.params) Nn) hn (by decide) hdf ⟨rfl,by decide,by decide⟩ hY F
   (λ_ _ a ns hl _ hS=>⟨_,_,.cons (.lst hS (DVs.ints ns)) .nil,⟨ns,rfl,hl,rfl⟩,λv H' _ dv=>dv.of_bl⟩) λ_ _ _ _ _ z=>z
section
open Builtin.SmallTypes (nextOf)
theorem Rk{it t:Addr}{i:Nat}{its:Array Value}{x:Value}(hi:s.heap.IsTupleIter it t i)(ht:s.heap.IsTuple t its)(hx:its[i]?=some x)
  (q:∀g,g.IsTupleIter it t (i+1)->SameBut it s.heap g->Q x {s with heap:=g}):wpAny (model prog w) A (nextOf (.ref it)) Q E s:=by
 obtain⟨o,ho,hc,hd⟩:=id hi;obtain⟨ol,hol,_,nl,hdl⟩:=ht
 unfold nextOf
 refine wpAny_bind (wpAny_callSpecial?_slot (name:=Str.ofString "__next__") hi.typeIs PySem.F.slot_tuple_iterator_next (wpAny_call_entry PySem.F.slot_tuple_iterator_next hi.typeIs PySem.F.entry_tuple_iterator_next ?_ (PySem.F.args_tuple_iterator_next_1 _)))
 show wpAny _ A.in1 (field (.ref it) 0>>=_) _ _ s
 refine wpAny_bind (wpAny_field ho hd (x:=.ref t) rfl ?_)
 show wpAny _ A.in1 (if(Value.ref t==Value.none)=true then _ else _) _ _ s
 rw[if_neg (show ¬((Value.ref t==Value.none)=true) by exact Bool.false_ne_true)]
 show wpAny _ A.in1 (field (.ref it) 1>>=_) _ _ s
 refine wpAny_bind (wpAny_field ho hd (x:=.int i 0) rfl ?_)
 show wpAny _ A.in1 (seqItems? (.ref t)>>=_) _ _ s
 refine wpAny_bind (wpAny_seqItems hol hdl ?_)
 simp only[toNat_natCast,hx]
 refine wpAny_bind (wpAny_setField ho hd (by simp) (wpAny_pure ⟨x,rfl,wpAny_pure (q _ ⟨_,Heap.get?_update_self _ ho (Obj.isFreed_of_fields (Obj.data_mapFields hd _)),(Obj.cls_mapFields ..).trans hc,?_⟩ (Heap.SameBut.update ..))⟩))
 rw[Obj.data_mapFields hd];simp[rawInt]
structure ZAp(z a b i j t:Addr):Prop where
 az:a≠z
 bz:b≠z
 iz:i≠z
 jz:j≠z
 ab:a≠b
 ai:a≠i
 aj:a≠j
 bi:b≠i
 bj:b≠j
 ij:i≠j
 tz:t≠z
 tb:t≠b
 ti:t≠i
 tj:t≠j
abbrev CU:String:="str_ascii_iterator"
theorem PB{z b i j t:Addr}{k c:Nat}{tk:Tok}{ys:Array Value}{y p q:Value}(D:ZAp z a b i j t)
  (hz:IsZip s.heap z a b .none)(ha:IsPair s.heap a (.ref i) (.ref j))(hb:IsPair s.heap b p q)(h1:s.heap.IsStrIter i CU x tk k)(h2:s.heap.IsTupleIter j t k)(ht:s.heap.IsTuple t ys)(hx:x.cps[k]?=some c)(hy:ys[k]?=some y)
  (fin:∀g n,IsZip g z a b (rawInt s.heap.objs.size)->IsPair g b (.str ⟨#[c]⟩ s.toks) y->g.IsStrIter i CU x tk (k+1)->g.IsTupleIter j t (k+1)->IsPair g s.heap.objs.size (.str ⟨#[c]⟩ s.toks) y->g.objs.size=s.heap.objs.size+1->
   (∀d o,d≠z->d≠b->d≠i->d≠j->s.heap.get? d=some o->g.get? d=some o)->Q (.ref s.heap.objs.size) {s with heap:=g,toks:=n}):
  wpAny (model prog w) A (Builtin.«zip.__next__» ⟨[.ref z],[]⟩) (λr s'=>∃v,r=.done (.ret v)/\Q v s') E s:=by
 show wpAny (model prog w) A (field (.ref z) 2>>=_) _ _ _
 refine wpAny_bind (wpAny_field hz rfl (x:=.bool false) rfl ?_)
 show wpAny (model prog w) A (field (.ref z) 3>>=_) _ _ _
 refine wpAny_bind (wpAny_field hz rfl (x:=.ref a) rfl (wpAny_bind (wpAny_seqItems ha rfl ?_)))
 show wpAny (model prog w) A (ownedTupleIsFree (.ref z)>>=_) _ _ _
 refine wpAny_bind ?_
 unfold ownedTupleIsFree
 refine wpAny_bind (wpAny_field hz rfl (x:=.none) rfl (wpAny_pure ?_))
 simp only[if_true]
 refine wpAny_bind (wpAny_rule (wpAny_bind (wpAny_field hz rfl (x:=.ref b) rfl (wpAny_bind (wpAny_setField_rec hz (by simp) λg1 z1 s1=>?_)))))
 replace z1:IsZip g1 z a b .ellipsis:=z1
 refine wpAny_bind ?_
 simp only[List.zipIdx_cons,List.zipIdx_nil,forIn_cons,List.forIn_nil]
 refine wpAny_bind (wpAny_bind (wpAny_onRaise ?_))
 show wpAny (model prog w) A (nextOf (.ref i)>>=_) _ _ _
 refine wpAny_bind (wpAny_nextOf_ascii_item (h1.extBut s1.extBut D.iz) hx λg2 i2 s2=>wpAny_pure ?_)
 have b2:IsPair g2 b p q:=s2.extBut _ _ D.bi (s1.extBut _ _ D.bz hb)
 refine wpAny_bind (wpAny_seqItems b2 rfl (wpAny_bind (wpAny_updateSeq_pair b2 λg3 b3 s3=>?_)))
 replace b3:IsPair g3 b (.str ⟨#[c]⟩ s.toks) q:=b3
 refine wpAny_bind (wpAny_letGo (wpAny_pure ?_))
 refine wpAny_bind (wpAny_bind (wpAny_onRaise ?_))
 show wpAny (model prog w) A (nextOf (.ref j)>>=_) _ _ _
 have j3:g3.IsTupleIter j t k:=by
  obtain⟨o,e,r⟩:=h2
  exact⟨o,s3.extBut _ _ D.bj.symm (s2.extBut _ _ D.ij.symm (s1.extBut _ _ D.jz e)),r⟩
 have t3:g3.IsTuple t ys:=by
  obtain⟨o,e,r⟩:=ht
  exact⟨o,s3.extBut _ _ D.tb (s2.extBut _ _ D.ti (s1.extBut _ _ D.tz e)),r⟩
 refine wpAny_bind (Rk j3 t3 hy λg4 j4 s4=>wpAny_pure ?_)
 have b4:IsPair g4 b (.str ⟨#[c]⟩ s.toks) q:=s4.extBut _ _ D.bj b3
 refine wpAny_bind (wpAny_seqItems b4 rfl (wpAny_bind (wpAny_updateSeq_pair b4 λg5 b5 s5=>?_)))
 replace b5:IsPair g5 b (.str ⟨#[c]⟩ s.toks) y:=b5
 refine wpAny_bind (wpAny_letGo (wpAny_pure (wpAny_pure (wpAny_bind (wpAny_seqItems b5 rfl (wpAny_bind (wpAny_newTuple ?_)))))))
 have sz:g5.objs.size=s.heap.objs.size:=by rw[s5.1,s4.1,s3.1,s2.1,s1.1]
 have z5:IsZip g5 z a b .ellipsis:=s5.extBut _ _ D.bz.symm (s4.extBut _ _ D.jz.symm (s3.extBut _ _ D.bz.symm (s2.extBut _ _ D.iz.symm z1)))
 have k5:∀d o,d≠z->d≠b->d≠i->d≠j->s.heap.get? d=some o->g5.get? d=some o:=λd o d1 d2 d3 d4 e=>s5.extBut _ _ d2 (s4.extBut _ _ d4 (s3.extBut _ _ d2 (s2.extBut _ _ d3 (s1.extBut _ _ d1 e))))
 have i5:g5.IsStrIter i CU x tk (k+1):=((i2.extBut s3.extBut D.bi.symm).extBut s4.extBut D.ij).extBut s5.extBut D.bi.symm
 have j5:g5.IsTupleIter j t (k+1):=by
  obtain⟨o,e,r⟩:=j4
  exact⟨o,s5.extBut _ _ D.bj.symm e,r⟩
 have zlt:z<g5.objs.size:=lt_size z5
 show wpAny (model prog w) A (ownedTupleHandOut (.ref z) (.ref g5.objs.size)>>=_) _ _ _
 refine wpAny_bind ?_
 unfold ownedTupleHandOut
 have z6:IsZip (g5.push {cls:=.type "tuple",data:=.seq #[.str ⟨#[c]⟩ s.toks,y]}) z a b .ellipsis:=get?_push_of_some _ z5
 refine wpAny_bind (wpAny_setField_rec z6 (by simp) λg7 z7 s7=>?_)
 replace z7:IsZip g7 z a b (rawInt g5.objs.size):=z7
 refine wpAny_setField_rec z7 (by simp) λg8 z8 s8=>?_
 replace z8:IsZip g8 z a b (rawInt g5.objs.size):=z8
 have up:∀d o,d≠z->g5.get? d=some o->g8.get? d=some o:=λd o d1 e=>s8.extBut _ _ d1 (s7.extBut _ _ d1 (get?_push_of_some _ e))
 have p8:IsPair g8 g5.objs.size (.str ⟨#[c]⟩ s.toks) y:=s8.extBut _ _ (ne_of_gt zlt) (s7.extBut _ _ (ne_of_gt zlt) (get?_push_size _ rfl))
 have n8:g8.objs.size=g5.objs.size+1:=by rw[s8.1,s7.1,size_push]
 rw[sz]at z8 p8 n8
 refine wpAny_pure ⟨_,rfl,?_⟩
 show Q (.ref g5.objs.size) _
 rw[sz]
 refine fin g8 _ z8 (up _ _ D.bz b5) ?_ ?_ p8 n8 λd o d1 d2 d3 d4 e=>up d o d1 (k5 d o d1 d2 d3 d4 e)
 .obtain⟨o,e,r⟩:=i5
  exact⟨o,up _ _ D.iz e,r⟩
 .obtain⟨o,e,r⟩:=j5
  exact⟨o,up _ _ D.jz e,r⟩
theorem P9{z b i j:Addr}{k:Nat}{tk:Tok}{Q:Fin->Shared->Prop}(hh:A.handled=none)(iz:i≠z)
  (hz:IsZip s.heap z a b .none)(ha:IsPair s.heap a (.ref i) (.ref j))(h1:s.heap.IsStrIter i CU x tk k)(hx:x.cps[k]?=none)
  (fin:∀g e,(∀d o,d≠z->d≠b->d≠i->d≠j->s.heap.get? d=some o->g.get? d=some o)->(∃o,g.get? e=some o/\o.cls=.type "StopIteration")->E (.ref e) {s with heap:=g}):
  wpAny (model prog w) A (Builtin.«zip.__next__» ⟨[.ref z],[]⟩) Q E s:=by
 show wpAny (model prog w) A (field (.ref z) 2>>=_) _ _ _
 refine wpAny_bind (wpAny_field hz rfl (x:=.bool false) rfl ?_)
 show wpAny (model prog w) A (field (.ref z) 3>>=_) _ _ _
 refine wpAny_bind (wpAny_field hz rfl (x:=.ref a) rfl (wpAny_bind (wpAny_seqItems ha rfl ?_)))
 show wpAny (model prog w) A (ownedTupleIsFree (.ref z)>>=_) _ _ _
 refine wpAny_bind ?_
 unfold ownedTupleIsFree
 refine wpAny_bind (wpAny_field hz rfl (x:=.none) rfl (wpAny_pure ?_))
 simp only[if_true]
 refine wpAny_bind (wpAny_rule (wpAny_bind (wpAny_field hz rfl (x:=.ref b) rfl (wpAny_bind (wpAny_setField_rec hz (by simp) λg1 z1 s1=>?_)))))
 replace z1:IsZip g1 z a b .ellipsis:=z1
 refine wpAny_bind ?_
 simp only[List.zipIdx_cons,List.zipIdx_nil,forIn_cons,List.forIn_nil]
 refine wpAny_bind (wpAny_bind (wpAny_onRaise ?_))
 show wpAny (model prog w) A (nextOf (.ref i)>>=_) _ _ _
 refine wpAny_bind (wpAny_nextOf_ascii_end hh (h1.extBut s1.extBut iz) hx λg2 e s2 he=>?_)
 obtain⟨oe,hoe,hce⟩:=he
 have z2:IsZip g2 z a b .ellipsis:=s2 _ _ iz.symm z1
 have ez:e≠z:=λy=>by subst y;rw[z2]at hoe;cases hoe;simp at hce
 exact wpAny_setField_rec z2 (by simp) λg3 _ s3=>fin g3 e (λd o d1 _ d3 _ y=>s3.extBut _ _ d1 (s2 _ _ d3 (s1.extBut _ _ d1 y))) ⟨oe,s3.extBut _ _ ez hoe,hce⟩
end
def UK(K:Frag)(x:Str)(t:Addr):It:=
 ⟨λk H=>∃ys,SqT K H t ys/\k<ys.length/\k<x.cps.size,λk H v H'=>∃p c y,H p=none/\v=.ref p/\H'=upd H p (.tup [.str ⟨#[c]⟩,y])/\x.cps[k]?=some c/\∀ys,SqT K H t ys->ys[k]?=some y,λk _=>x.cps.size<=k⟩
def ZTn(z a b i j t:Addr)(x:Str)(tk:Tok)(k:Nat)(h:Heap):Prop:=IsZip h z a b .none/\IsPair h a (.ref i) (.ref j)/\(∃p q,IsPair h b p q)/\h.IsStrIter i CU x tk k/\h.IsTupleIter j t k
structure ZAp0(z a b i j:Addr):Prop where
 az:a≠z
 bz:b≠z
 iz:i≠z
 jz:j≠z
 ab:a≠b
 ai:a≠i
 aj:a≠j
 bi:b≠i
 bj:b≠j
 ij:i≠j
variable{t:Addr}
theorem On{b:Addr}{ys:List V}(I:Inv X pins σ H s)(h:SqT X.K H t ys)(f:FpOk X pins H b):t≠b:=by
 intro e
 subst e
 obtain⟨hn,_,_,hx,_⟩:=f
 rcases h with(h|⟨o,h⟩)|⟨o,its,n,hk,_⟩
 .rw[hn]at h;cases h
 .rw[hn]at h;cases h
 .have hb:=I.mod.kin t o hk
  rcases hx with hx|hx
  .exact I.ok.noex t o hb hx
  .exact absurd (lt_of_lt_of_le (lt_size (I.ok.bs t o hb).1) hx) (lt_irrefl _)
variable{h':Heap}{t':Nat}
theorem Inv.turnedNew{ch:List Addr}{vs:List V}{us:List Value}(I:Inv X pins σ H s)(hf:∀b∈ch,FpOk X pins H b)
  (k:∀b o,b∉ch->s.heap.get? b=some o->h'.get? b=some o)(hc:∀b∈ch,∃o,h'.get? b=some o)(hp:s.heap.objs.size<=p)(r:Vals vs us)(hz:vs.length<=sizeLine)(ht:IsTup h' p us.toArray/\∃o,h'.get? p=some o/\o.dict=none):Inv X pins σ (upd H p (.tup vs)) {s with heap:=h',toks:=t'}:=by
 have nc:∀b u,H b=some u->b∉ch:=λb u e z=>by rw[(hf b z).1]at e;cases e
 have hn:H p=none:=I.hok.fresh hp
 refine I.step (g':=s.gens) (d':=s.drawn) (ch:=ch) (λb hb=>?_) (λb o _ _ hc e _=>k b o hc e) (λb o _ _ hc e _=>⟨o.slots,k b o hc e⟩) (λb o _ e n=>?_) (λb o hc e=>⟨o,k b o hc e⟩)
  (λb xs e=>?_) (λb o u e=>?_) (λb ps e=>⟨#[],?_⟩) (λm hm=>?_) (λb u e=>?_) I.bare
 .obtain⟨_,h1,h2,h3,h4,h5⟩:=hf b hb
  exact⟨h3,h1,h4,h5⟩
 .rw[Aj (Nat.ne_of_lt (Nat.lt_of_lt_of_le (Heap.lt_size e) hp))];exact n
 .rw[Aj (Av e hn)];exact e
 .rw[Aj (Av e hn)];exact e
 .rw[Aj (Av e hn),e];simp
 .obtain⟨o,es,ep,ho,rr⟩:=hm
  exact⟨o,es,ep,k _ o (λz=>(hf _ z).2.1 rfl) ho,rr⟩
 .by_cases hb:b=p
  .subst hb
   rw[Al]at e
   cases e
   exact⟨hz,⟨us,r,ht.1⟩,ht.2⟩
  .rw[Aj hb]at e
   refine(I.hok b u e).stay (λc v hc q=>k c v ?_ q) (λc q=>?_) λc xs q=>?_
   .rcases hc with z|z
    .rw[z];exact nc b u e
    .exact nc c _ z
   .rw[Aj (Av q hn)];exact q
   .rw[Aj (Av q hn)];exact q
theorem Inv.turnedMany{ch:List Addr}(I:Inv X pins σ H s)(hf:∀b∈ch,FpOk X pins H b)
  (k:∀b o,b∉ch->s.heap.get? b=some o->h'.get? b=some o):Inv X pins σ H {s with heap:=h',toks:=t'}:=by
 have nc:∀b u,H b=some u->b∉ch:=λb u e z=>by rw[(hf b z).1]at e;cases e
 refine I.step (g':=s.gens) (d':=s.drawn) (ch:=ch) (λb hb=>?_) (λb o _ _ hc e _=>k b o hc e) (λb o _ _ hc e _=>⟨o.slots,k b o hc e⟩) (λb o _ e n=>n) (λb o hc e=>⟨o,k b o hc e⟩)
  (λb xs e=>e) (λb o u e=>e) (λb ps e=>⟨#[],by rw[e];simp⟩) (λm hm=>?_) (λb u e=>?_) I.bare
 .obtain⟨_,h1,h2,h3,h4,h5⟩:=hf b hb
  exact⟨h3,h1,h4,h5⟩
 .obtain⟨o,es,ep,ho,rr⟩:=hm
  exact⟨o,es,ep,k _ o (λz=>(hf _ z).2.1 rfl) ho,rr⟩
 .refine(I.hok b u e).stay (λc v hc q=>k c v ?_ q) (λc q=>q) λc xs q=>q
  rcases hc with z|z
  .rw[z];exact nc b u e
  .exact nc c _ z
variable{tk:Tok}
theorem Qz{elts:List Expr}{x1}{z b i j:Addr}(D0:ZAp0 z a b i j):
  Turn P w K (.Tuple elts x1 tpos) (UK K x t) [z,a,b,i,j] z (ZTn z a b i j t x tk)where
 mem:=by simp
 obj:=λk h st c hc=>by
  obtain⟨hz,ha,⟨p,q,hb⟩,⟨o1,e1,_,d1⟩,⟨o2,e2,_,d2⟩⟩:=st
  simp only[mem_cons,not_mem_nil,or_false]at hc
  rcases hc with rfl|rfl|rfl|rfl|rfl
  .exact⟨_,hz,λv z=>(by cases z)⟩
  .exact⟨_,ha,λv z=>(by cases z)⟩
  .exact⟨_,hb,λv z=>(by cases z)⟩
  .exact⟨_,e1,λv z=>by rw[d1]at z;cases z⟩
  .exact⟨_,e2,λv z=>by rw[d2]at z;cases z⟩
 keep:=λk h h' st kk=>by
  obtain⟨hz,ha,⟨p,q,hb⟩,⟨o1,e1,r1⟩,⟨o2,e2,r2⟩⟩:=st
  exact⟨kk z (by simp) _ hz,kk a (by simp) _ ha,⟨p,q,kk b (by simp) _ hb⟩,⟨o1,kk i (by simp) _ e1,r1⟩,⟨o2,kk j (by simp) _ e2,r2⟩⟩
 item:=λX eP eW eK hcalm k pins s σ H E I hf st go=>by
  subst eP eW eK
  obtain⟨ys,hq,hk,hkx⟩:=go
  obtain⟨hz,ha,⟨p,q,hb⟩,h1,h2⟩:=st
  obtain⟨its,rv,ht,hzz⟩:=I.tuple hq
  have tap:=λc (hc:c∈[z,a,b,i,j])=>On I hq (hf c hc)
  have D:ZAp z a b i j t:=⟨D0.az,D0.bz,D0.iz,D0.jz,D0.ab,D0.ai,D0.aj,D0.bi,D0.bj,D0.ij,tap z (by simp),tap b (by simp),tap i (by simp),tap j (by simp)⟩
  have hy:ys[k]?=some ys[k]:=getElem?_eq_getElem hk
  obtain⟨u,eu,ru⟩:=rv.get hy
  have hc0:x.cps[k]?=some x.cps[k]:=Array.getElem?_eq_getElem hkx
  have hT:s.TypeIs (.ref z) "zip":=⟨_,hz,rfl⟩
  unfold pyNext
  refine wpAny_bind (wpAny_attempt (wpAny_callSpecial?_slot (name:=Str.ofString "__next__") hT slot_zip_next (wpAny_call_entry slot_zip_next hT entry_zip_next
   (PB D hz ha hb h1 h2 (show s.heap.IsTuple t its.toArray from ht) hc0 (by simpa using eu) λg n a1 a2 a3 a4 a5 a6 a7=>wpAny_pure ⟨_,rfl,?_⟩) (PySem.F.args_zip_next_1 _))))
  refine wpAny_letOwnedTupleGo_zip a1 λg' z' s'=>?_
  have hp:H s.heap.objs.size=none:=I.hok.fresh (le_refl _)
  have zlt:z<s.heap.objs.size:=lt_size hz
  have k':∀c o,c∉[z,b,i,j]->s.heap.get? c=some o->g'.get? c=some o:=λc o hc e=>by
   simp only[mem_cons,not_mem_nil,or_false,not_or]at hc
   exact s'.extBut _ _ hc.1 (a7 c o hc.1 hc.2.1 hc.2.2.1 hc.2.2.2 e)
  have pr:IsPair g' s.heap.objs.size (.str ⟨#[x.cps[k]]⟩ s.toks) u:=s'.extBut _ _ (ne_of_gt zlt) a5
  have ks:∀c∈[z,b,i,j],c∈[z,a,b,i,j]:=λc hc=>by
   simp only[mem_cons,not_mem_nil,or_false]at hc ⊢
   rcases hc with h|h|h|h<;>simp[h]
  have b':IsPair g' b (.str ⟨#[x.cps[k]]⟩ s.toks) u:=s'.extBut _ _ D.bz a2
  have i':g'.IsStrIter i CU x tk (k+1):=a3.extBut s'.extBut D.iz
  have j':g'.IsTupleIter j t (k+1):=by
   obtain⟨o,e,r⟩:=a4
   exact⟨o,s'.extBut _ _ D.jz e,r⟩
  have I1:Inv X pins σ (upd H s.heap.objs.size (.tup [.str ⟨#[x.cps[k]]⟩,ys[k]])) {s with heap:=g',toks:=n}:=I.turnedNew (ch:=[z,b,i,j]) (λc hc=>hf c (ks c hc)) k' (λc hc=>by
   simp only[mem_cons,not_mem_nil,or_false]at hc
   rcases hc with rfl|rfl|rfl|rfl
   .exact⟨_,z'⟩
   .exact⟨_,b'⟩
   .exact⟨_,i'.choose_spec.1⟩
   .exact⟨_,j'.choose_spec.1⟩) (le_refl _) (us:=[.str ⟨#[x.cps[k]]⟩ s.toks,u]) (.cons ⟨_,rfl⟩ (.cons ru .nil)) (by rw[sizeLine_eq];show 2<=16777216;decide) ⟨⟨_,pr,rfl,_,rfl⟩,_,pr,rfl⟩
  refine⟨.ref s.heap.objs.size,_,I1,rfl,⟨_,x.cps[k],ys[k],hp,rfl,rfl,hc0,λzs hzs=>?_⟩,⟨z',k' a _ (by simp[D0.az,D0.ab,D0.ai,D0.aj]) ha,⟨_,_,b'⟩,i',j'⟩,λc hc=>?_⟩
  .rw[I.tuple_inj hzs hq];exact hy
  .have hcn:=(hf c hc).1
   have:c≠s.heap.objs.size:=λe=>by
    obtain⟨o,eo⟩:∃o,s.heap.get? c=some o:=by
     simp only[mem_cons,not_mem_nil,or_false]at hc
     rcases hc with rfl|rfl|rfl|rfl|rfl
     .exact⟨_,hz⟩
     .exact⟨_,ha⟩
     .exact⟨_,hb⟩
     .exact⟨_,h1.choose_spec.1⟩
     .exact⟨_,h2.choose_spec.1⟩
    exact absurd (lt_size eo) (by rw[e];exact lt_irrefl _)
   rw[Aj this];exact hcn
 done:=λX eP eW eK hcalm k pins s σ H E I hf st stp=>by
  subst eP eW eK
  obtain⟨hz,ha,⟨p,q,hb⟩,h1,h2⟩:=st
  have stp:x.cps.size<=k:=stp
  have hT:s.TypeIs (.ref z) "zip":=⟨_,hz,rfl⟩
  unfold pyNext
  refine wpAny_bind (wpAny_attempt (wpAny_callSpecial?_slot (name:=Str.ofString "__next__") hT slot_zip_next (wpAny_call_entry slot_zip_next hT entry_zip_next
   (P9 (I.ok.hd hcalm) D0.iz hz ha h1 (Array.getElem?_eq_none stp) λg e kk he=>?_) (PySem.F.args_zip_next_1 _))))
  obtain⟨o,ho,hc⟩:=he
  refine wpAny_bind (wpAny_isInstance (T:="StopIteration") (b:=true) ⟨o,ho,hc⟩ isSubtype_stop (wpAny_pure ⟨rfl,?_⟩))
  refine I.turnedMany (t':=s.toks) (ch:=[z,b,i,j]) (λc hc=>hf c ?_) λc o hc e=>?_
  .simp only[mem_cons,not_mem_nil,or_false]at hc ⊢
   rcases hc with h|h|h|h<;>simp[h]
  .simp only[mem_cons,not_mem_nil,or_false,not_or]at hc
   exact kk c o hc.1 hc.2.1 hc.2.2.1 hc.2.2.2 e
 self:=λA k s Q E st hQ=>wpAny_pyIter_zip st.1 hQ
abbrev zs1(h:Heap)(x:Str)(tk:Tok):Heap:=h.push {cls:=.type (strIterType x),data:=.fields #[.str x tk,.int 0 0]}
abbrev zs2(h:Heap)(x:Str)(tk:Tok)(t:Addr):Heap:=(zs1 h x tk).push {cls:=.type "tuple_iterator",data:=.fields #[.ref t,.int 0 0]}
abbrev zs3(h:Heap)(x:Str)(tk:Tok)(t:Addr):Heap:=(zs2 h x tk t).push {cls:=.type "tuple",data:=.seq #[.ref h.objs.size,.ref (zs1 h x tk).objs.size]}
abbrev zs4(h:Heap)(x:Str)(tk:Tok)(t:Addr):Heap:=(zs3 h x tk t).push {cls:=.type "tuple",data:=.seq #[.none,.none]}
abbrev zs5(h:Heap)(x:Str)(tk:Tok)(t:Addr):Heap:=(zs4 h x tk t).push {cls:=.type "zip",data:=.fields #[.none,.bool false,.bool false,.ref (zs2 h x tk t).objs.size,.ref (zs3 h x tk t).objs.size]}
theorem QS(x:Str)(tk:Tok)(t:Addr)(ys:Array Value):Meets (Builtin.«zip.__new__» ⟨[.type "zip",.str x tk,.ref t],[]⟩) (λ_ R s=>s.heap.IsTuple t ys/\R (.ok (.ret (.ref (zs4 s.heap x tk t).objs.size))) {s with heap:=zs5 s.heap x tk t}):=
 .of_wp λprog w A R s h=>by
  obtain⟨hp,g,d,tk',os⟩:=s;obtain⟨hl,h⟩:=h
  have hsub:=sub_zip
  have hL:Heap.IsTuple (Shared.heap ⟨hp.push {cls:=.type (strIterType x),data:=.fields #[.str x tk,.int 0 0]},g,d,tk',os⟩) t ys:=by
   obtain⟨o,e,r⟩:=hl
   exact⟨o,get?_push_of_some _ e,r⟩
  wp_walk using wpAny_pyIter_strU,wpAny_pyIter_tuple hL
  exact⟨_,rfl,h⟩
theorem Ms{ys:Array Value}(hx:strIterType x=CU)(ht:s.heap.IsTuple t ys)
  (h:∀g,ZTn (s.heap.objs.size+4) (s.heap.objs.size+2) (s.heap.objs.size+3) s.heap.objs.size (s.heap.objs.size+1) t x tk 0 g->(∀c o,s.heap.get? c=some o->g.get? c=some o)->Q (.ref (s.heap.objs.size+4)) {s with heap:=g}):
  wpAny (model prog w) A (call (.type "zip") [.str x tk,.ref t]) Q E s:=by
 refine callType_new PySem.F.called_zip (by decide) (PySem.F.typeCall_zip_2 _ _) (PySem.F.newCall_zip_2 _ _) (λobj=>PySem.F.args_object_init_3 obj _ _) PySem.F.entry_zip_new (QS x tk t ys) ⟨ht,?_⟩
 have z1:(zs1 s.heap x tk).objs.size=s.heap.objs.size+1:=size_push ..
 have z2:(zs2 s.heap x tk t).objs.size=s.heap.objs.size+2:=by rw[size_push,z1]
 have z3:(zs3 s.heap x tk t).objs.size=s.heap.objs.size+3:=by rw[size_push,z2]
 have z4:(zs4 s.heap x tk t).objs.size=s.heap.objs.size+4:=by rw[size_push,z3]
 have g5:(zs5 s.heap x tk t).get? (zs4 s.heap x tk t).objs.size=some _:=get?_push_size _ rfl
 have g4:(zs5 s.heap x tk t).get? (zs3 s.heap x tk t).objs.size=some _:=get?_push_of_some _ (get?_push_size _ rfl)
 have g3:(zs5 s.heap x tk t).get? (zs2 s.heap x tk t).objs.size=some _:=get?_push_of_some _ (get?_push_of_some _ (get?_push_size _ rfl))
 have g2:(zs5 s.heap x tk t).get? (zs1 s.heap x tk).objs.size=some _:=get?_push_of_some _ (get?_push_of_some _ (get?_push_of_some _ (get?_push_size _ rfl)))
 have g1:(zs5 s.heap x tk t).get? s.heap.objs.size=some _:=get?_push_of_some _ (get?_push_of_some _ (get?_push_of_some _ (get?_push_of_some _ (get?_push_size _ rfl))))
 show _/\_
 rw[z2,z3,z4]at g5
 rw[z1,z2]at g3
 rw[z3]at g4
 rw[z1]at g2
 rw[z4]
 rw[hx]at g1
 exact⟨⟨_,g5,rfl⟩,h _ ⟨g5,g3,⟨_,_,g4⟩,⟨_,g1,rfl,rfl⟩,⟨_,g2,rfl,rfl⟩⟩ λc o y=>get?_push_of_some _ (get?_push_of_some _ (get?_push_of_some _ (get?_push_of_some _ (get?_push_of_some _ y))))⟩
section
variable{a:Expr}{p:Pos}
def zipD(q:Nat×PyData):PyData:=.tuple [.str ⟨#[q.1]⟩,q.2]
theorem Rg{elts:List Expr}{x1}(ha:EV X G a (.str x))(hb:EV X G b (.tuple ds))(hx:strIterType x=CU)(hl:x.cps.size=ds.length)(hg:Gl X "zip")(hm:X.mg "zip"=none)
  (hs:starEach [a,b] X.env=[(false,eval a X.env),(false,eval b X.env)]:=by rfl)(hs2:starEach [b] X.env=[(false,eval b X.env)]:=by rfl):
  IV X G (.Tuple elts x1 tpos) (.Call (.Name "zip" p) [a,b] [] pos) ((x.cps.toList.zip ds).map zipD):=by
 intro pins s σ H R I ⟨h,q⟩
 refine Call_ (Fm I hg hm boot_zip (PyProof.Rows.callWith_type1 (thn (Aa ha (Aa hb Ad hs2) (by unfold Zst;rw[hs,hs2]) pos pins s σ H _ I ⟨h,λvs H' s' dv=>(⟨s',dv⟩:Same H H'/\DVs X.K H' vs [.str x,.tuple ds])⟩) λus s1 ⟨vs,H1,I1,r1,s1',dv⟩=>?_) (by rw[hs,hs2]) (by rw[hs2];rfl)))
 obtain⟨v1,v2,rfl,d1,d2⟩:=dv.two
 cases d1.of_str
 obtain⟨t,ys,rfl,hq,dys⟩:=d2.of_tup
 obtain⟨u1,u2,rfl,⟨tk,rfl⟩,ru2⟩:=vals2 r1
 cases ru2
 obtain⟨its,rv,ht,_⟩:=I1.tuple hq
 refine Ms hx (show s1.heap.IsTuple t its.toArray from ht) λg zt kk=>?_
 refine wpAny_pyIter_zip zt.1 ?_
 have I2:Inv X pins σ H1 {s1 with heap:=g}:=I1.kept (t':=s1.toks) kk
 have sz:∀n,s1.heap.objs.size<=s1.heap.objs.size+n:=λn=>Nat.le_add_right _ _
 refine⟨_,_,_,_,H1,rfl,I2,Qz (K:=X.K) (x:=x) (t:=t) (tk:=tk) (z:=s1.heap.objs.size+4) (a:=s1.heap.objs.size+2) (b:=s1.heap.objs.size+3) (i:=s1.heap.objs.size) (j:=s1.heap.objs.size+1) ⟨?_,?_,?_,?_,?_,?_,?_,?_,?_,?_⟩,zt,λc hc=>?_,q _ H1 s1' ⟨λk H2 s2 hk=>?_,λk H2 v H3 s2 hk ⟨r,c,y,hr,ev,eH,ec,ey⟩=>?_,λk H2 s2 hk=>?_⟩⟩
 all_goals first
  |exact ne_of_lt (Nat.add_lt_add_left (by decide) _)
  |exact ne_of_gt (Nat.add_lt_add_left (by decide) _)
  |exact ne_of_lt (Nat.lt_add_of_pos_right (by decide))
  |exact ne_of_gt (Nat.lt_add_of_pos_right (by decide))
  |skip
 .simp only[mem_cons,not_mem_nil,or_false]at hc
  rcases hc with rfl|rfl|rfl|rfl|rfl
  .exact I1.fpOk (sz 4) (I1.hok.fresh (sz 4))
  .exact I1.fpOk (sz 2) (I1.hok.fresh (sz 2))
  .exact I1.fpOk (sz 3) (I1.hok.fresh (sz 3))
  .exact I1.fpOk (le_refl _) (I1.hok.fresh (le_refl _))
  .exact I1.fpOk (sz 1) (I1.hok.fresh (sz 1))
 .have hk':k<ds.length:=by
   rw[length_map,length_zip,length_toList,hl]at hk
   omega
  exact⟨ys,s2.seqT hq,by rw[dys.length];exact hk',by rw[hl];exact hk'⟩
 .have hk':k<ds.length:=by
   rw[length_map,length_zip,length_toList,hl]at hk
   omega
  subst ev eH
  have e1:=ey ys (s2.seqT hq)
  obtain⟨d,e2,e3⟩:=dys.get' e1
  refine⟨Same.new hr,zipD (c,d),?_,.tup (SqT.of Al) (.cons (.str _) (.cons ((e3.mono s2).mono (Same.new hr)) .nil))⟩
  rw[getElem?_map,show(x.cps.toList.zip ds)[k]?=some (c,d)from by
   rw[List.getElem?_zip_eq_some]
   exact⟨by simpa using ec,e2⟩]
  rfl
 .show x.cps.size<=k
  rw[length_map,length_zip,length_toList,hl]at hk
  omega
end
end L2
namespace PySem.SeqAt
open AutoSeq1 (wpAny_loadPart')
open MeetsSeq MeetsSeq2 MeetsSeq3 SeqRoads2
theorem tuple_index1(l:Addr)(items:Array Value)(n:Nat)(dd:Option Addr)(sl:Array (Option Value))(x:Value)(e:Nat->Bool)(j:Nat)(hj:j<items.size)(hit:e j=true)(hno:∀m,m<j->e m=false):
  Meets (Builtin.«tuple.index» ⟨[.ref l,x],[]⟩)
   (λA R s=>s.heap.get? l=some {cls:=.type "tuple",dict:=dd,data:=.seq items n,slots:=sl}/\(∀k (h:k<items.size),EqAt A.in1 s items[k] x (e k))/\R (.ok (.ret (.int j s.toks))) {s with toks:=s.toks+1}):=
 .of_wp λprog w A R s h=>by
  obtain⟨hp,g,d,tk,os⟩:=s;obtain⟨hl,he,h⟩:=h
  wp_walk using wpAny_loadPart' hl
  change wpAny (model prog w) A.in1 (forIn (m:=Sem) [:min items.size items.size] ((none,()):Option Fin×Unit) (λ(i:Nat) _=>match items[i]? with
   |some y=>do
    let r <-eqBool y x
    if r=true then do
     let v <-retInt (i:Int)
     pure (ForInStep.done (some v,()))
    else pure (yield (none,()))
   |_=>pure (yield (none,())))) _ _ _
  rw[Std.Legacy.Range.forIn_eq_forIn_range']
  have hr:List.range' [:min items.size items.size].start [:min items.size items.size].size [:min items.size items.size].step=range items.size:=by
   simp[Std.Legacy.Range.size,List.range_eq_range']
  rw[hr]
  refine wpAny_forIn_list _ (λrest b s'=>b.1=none/\s'=⟨hp,g,d,tk,os⟩/\∃i,i<=j/\rest=(range items.size).drop i) _ ?_ ?_ _ _ ⟨rfl,rfl,0,zero_le _,by simp⟩
  .rintro k rest b s' ⟨hb,rfl,i,hij,hz⟩
   have hlt:i<items.size:=by omega
   have hd:(range items.size).drop i=i::(range items.size).drop (i+1):=by simp[List.drop_eq_getElem_cons,hlt]
   rw[hd]at hz
   injection hz with h1 h2
   subst h1
   have hi:items[k]?=some items[k]:=Array.getElem?_eq_getElem hlt
   rw[hi]
   refine wpAny_bind (he k hlt prog w _ _ ?_)
   by_cases hk:k=j
   .subst hk
    rw[hit]
    wp_walk
    exact⟨_,rfl,h⟩
   .rw[hno k (by omega)]
    wp_walk
    exact⟨rfl,rfl,k+1,by omega,h2⟩
  .rintro⟨b1,b2⟩ s' ⟨hb,rfl,i,hij,hz⟩
   have hlt:i<items.size:=by omega
   have hd:(range items.size).drop i=i::(range items.size).drop (i+1):=by simp[List.drop_eq_getElem_cons,hlt]
   rw[hd]at hz
   cases hz
end PySem.SeqAt
namespace L2
open PySem PySem.Spec PyProof.Rows
def GTup(K:Frag)(mg:Str->Option Value)(x:Str)(ss:List Str):Prop:=
 ∃(a:Addr) (o:Obj) (its:Array Value) (n:Nat),mg x=some (.ref a)/\K.lookup a=some o/\o.cls=.type "tuple"/\o.dict=none/\o.data=.seq its n/\its.size<=sizeLine/\Vals (ss.map V.str) its.toList
def GE(K:Frag)(mg:Str->Option Value)(P:Params)(x:Str)(tab:List (Str×PyData)):Prop:=
 ∃(a:Addr) (es:Array DictEntry) (n:Nat),mg x=some (.ref a)/\K.lookup a=some ⟨.type "dict",none,.dict es n,#[]⟩/\KeysLit P es.toList/\∀q∈tab,∃u v,nsIn K a q.1=some (some u)/\RelV v u/\∀H,DV K H v q.2
variable{K:Frag}{H:Hp}
theorem DVs.strs:∀(ss:List Str),DVs K H (ss.map V.str) (ss.map PyData.str)
 |[]=>.nil
 |x::r=>.cons (.str x) (DVs.strs r)
variable{X:Cx}{G:Gam}{a b e:Expr}{pos p2:Pos}{d:PyData}{x:Str}
section
variable{p:Pos}
theorem JD{ss:List Str}(T:GTup X.K X.mg x ss)(hg:Gl X x)(hd:(x==("__debug__":Str))=false:=by decide):EV X G (.Name x pos) (.tuple (ss.map str)):=by
 obtain⟨ad,o,its,n,hm,hk,hc,hd0,hs,hz,r⟩:=T
 exact(Hf (v:=.ref ad) hg hm rfl hd).imp λσ H Q ⟨h,q⟩=>q _ H (Same.refl H) (.tup (.inr ⟨o,its,n,hk,hc,hs,hd0,hz,r⟩) (DVs.strs ss))
theorem B_{tab:List (Str×PyData)}{s:Str}(T:GE X.K X.mg X.w.params x tab)(hg:Gl X x)(he:EV X G e (.str s))(hs:(s,d)∈tab)(hp:FF e:=by intro _ _;rfl)(hd:(x==("__debug__":Str))=false:=by decide):EV X G (.Subscript (.Name x p) e pos) d:=by
 obtain⟨ad,es,n,hm,hk,hl,ht⟩:=T
 obtain⟨u,v,h1,h2,h3⟩:=ht _ hs
 have ir:IxR X (λy z H Q=>y=.ref ad/\z=.str s/\Q v H):=by
  intro value slice pins s1 σ H y z vy vz Q I ry rz ⟨e1,e2,q⟩ hsub
  subst e1 e2
  cases ry
  obtain⟨t,rfl⟩:=rz
  have mo:=PySem.W.mapOf_K (prog:=X.prog) (w:=X.w) I.kIn hk hl
  exact tail_any mo.typeIs slot_dict_getitem.lookup (wpAny_getItem_of (strKind_is X.prog X.w s t) mo (find_K hk h1) ⟨v,H,I.tok _,h2,q⟩) hsub
 exact(NG ir (Hf (v:=.ref ad) hg hm rfl hd) he hp).imp λσ H Q ⟨h,q⟩=>⟨h,λy H1 s1 d1=>⟨rfl,d1.of_str,q v H1 s1 (h3 H1)⟩⟩
theorem J8{i j:Str}{k:Bool}(hk:(!(occurrences j i 0 j.length 1).isEmpty)=k):OD X (compareOp .In) (.str i) (.str j) (.bool k):=
 op_in_str.imp λy z H Q ⟨h1,h2,q⟩=>⟨i,j,h1.of_str,h2.of_str,q _ H (Same.refl H) (by rw[hk];exact .bl k)⟩
theorem Rl{ss:List Str}{s:Str}{j:Nat}{apos:Pos}(T:GTup X.K X.mg x ss)(hg:Gl X x)(he:EV X G e (.str s))(hj:ss[j]?=some s)(hno:∀m,m<j->ss[m]?≠some s)(hd:(x==("__debug__":Str))=false:=by decide)
  (hb:attributeBase (.Name x p2) "index" X.env (eval (.Name x p2) X.env)=eval (.Name x p2) X.env:=by rfl)
  (hfew:((backTo pos (starEach [e] X.env)).all (λx=>!x.1)&&(backToKw pos (keywordEach [] X.env)).all (λx=>x.1.isSome)
   &&decide ([e].length+([]:List Keyword).length+(if([]:List Keyword).isEmpty then 0 else 1)<30))=true:=by rfl)
  (hline:(apos.endLine==pos.line)=true:=by rfl)(hs:starEach [e] X.env=(false,eval e X.env)::starEach [] X.env:=by rfl)(hpl:(backTo pos (starEach [] X.env)).any (·.1)=false:=by rfl):
  EV X G (.Call (.Attribute (.Name x p2) "index" apos) [e] [] pos) (.int j):=by
 obtain⟨ad,o,its,n,hm,hk,hc,hdn,hsq,hz,r⟩:=T
 have mr:MtR X "tuple.index" (λy ys H Q=>y=.ref ad/\ys=[.str s]/\Q (.int j) H):=by
  intro pins s1 σ H y ys v us Q I ry rys ⟨e1,e2,q⟩
  subst e1 e2
  cases ry
  obtain⟨u,rfl,ru⟩:=vals1 rys
  have hjl:j<ss.length:=(List.getElem?_eq_some_iff.mp hj).1
  have hsz:its.size=ss.length:=by
   have:=r.length
   rw[length_map,length_toList]at this
   exact this.symm
  have ho:=I.kIn ad o hk
  obtain⟨oc,od,odt,osl⟩:=o
  simp only at hc hdn hsq
  subst hc hdn hsq
  refine call_meets PySem.F.slot_tuple_index ⟨_,ho,rfl⟩ PySem.F.entry_tuple_index (PySem.F.args_tuple_index_2 _ _) (PySem.SeqAt.tuple_index1 ad its n none osl u (λk=>decide (ss[k]?=some s)) j (by rw[hsz];exact hjl) (decide_eq_true hj) (λm hm=>decide_eq_false (hno m hm)))
   ⟨ho,λk hk2=>?_,⟨.int j,H,I.tok _,⟨_,rfl⟩,q⟩⟩
  have hk3:k<ss.length:=by rw[<-hsz];exact hk2
  obtain⟨u2,eu,ru2⟩:=r.get (i:=k) (x:=V.str ss[k]) (by simp[hk3])
  have e3:its[k]=u2:=by
   have:its.toList[k]?=some its[k]:=by simp[hk2]
   rw[this]at eu
   exact Option.some.inj eu
  rw[e3]
  have:=Mg (A:=X.A.in1) (s:=s1) ru2 ru rfl rfl
  have e4:eqV (.str ss[k]) (.str s)=decide (ss[k]?=some s):=by
   show(ss[k]==s)=_
   rw[Bool.eq_iff_iff]
   simp[hk3]
  rw[<-e4]
  exact this
 refine(HC PySem.F.plainAttrs_tuple PySem.F.slot_tuple_index PySem.F.type_tuple_index mr (Hf (v:=.ref ad) hg hm rfl hd) (Aa he Ad hs) hb hfew hline hs hpl).imp λσ H Q ⟨h,q⟩=>⟨.inr (.inl ⟨rfl,o,hk,hc,hdn⟩),h,λvs H1 s1 d1=>?_⟩
 obtain⟨v,rfl,dv⟩:=d1.one
 exact⟨rfl,by rw[dv.of_str],q _ H1 s1 (.int j)⟩
def Vt(x:Str):It:=⟨λk _=>k<x.cps.size,λk H v H'=>H'=H/\∃c,x.cps[k]?=some c/\v=.str ⟨#[c]⟩,λk _=>x.cps.size<=k⟩
theorem QN{P:Program}{w:World}{tg:Expr}(it:Addr)(x:Str)(tk:Tok):Turn P w K tg (Vt x) [it] it (λk h=>h.IsStrIter it CU x tk k)where
 mem:=by simp
 obj:=λk h st c hc=>by
  obtain⟨o,e,_,d⟩:=st
  have:c=it:=by simpa using hc
  subst this
  exact⟨o,e,λv z=>by rw[d]at z;cases z⟩
 keep:=λk h h' st kk=>by
  obtain⟨o,e,r⟩:=st
  exact⟨o,kk it (by simp) _ e,r⟩
 item:=λX eP eW eK hcalm k pins s σ H E I hf st go=>by
  subst eP eW eK
  have go:k<x.cps.size:=go
  have hc0:x.cps[k]?=some x.cps[k]:=Array.getElem?_eq_getElem go
  refine wpAny_pyNext_ascii_item st hc0 λh' st' sb=>⟨_,rfl,?_⟩
  obtain⟨o,ho,hcl,hd⟩:=st'
  obtain⟨f0,f1,f2,f3,f4,f5⟩:=hf it (by simp)
  refine Np ho hcl hd (by decide+kernel) ⟨.str ⟨#[x.cps[k]]⟩,H,I.turned (t':=s.toks+1) (it:=it) (λb o hb e=>sb.extBut b o hb e) f0 f1 f3 f4 f5,⟨_,rfl⟩,⟨rfl,_,hc0,rfl⟩,⟨o,ho,hcl,hd⟩,λb hb=>(hf b hb).1⟩
 done:=λX eP eW eK hcalm k pins s σ H E I hf st stp=>by
  subst eP eW eK
  have stp:x.cps.size<=k:=stp
  obtain⟨f0,f1,f2,f3,f4,f5⟩:=hf it (by simp)
  exact wpAny_pyNext_ascii_end (I.ok.hd hcalm) st (Array.getElem?_eq_none stp) λh' ex=>⟨rfl,I.turned (t':=s.toks) (it:=it) (λb o hb e=>ex b o hb e) f0 f1 f3 f4 f5⟩
 self:=λA k s Q E st hQ=>wpAny_pyIter_striter_ascii st hQ
def Q_(c:Nat):PyData:=.str ⟨#[c]⟩
theorem Ue{tg:Expr}(ha:EV X G a (.str x))(hx:strIterType x=CU):IV X G tg a (x.cps.toList.map Q_):=by
 intro pins s σ H R I ⟨h,q⟩
 refine thn (ha pins s σ H (λv H'=>Same H H'/\DV X.K H' v (.str x)) I ⟨h,λv H' s' dv=>⟨s',dv⟩⟩) λv s1 ⟨y,H1,I1,r1,s1',dv⟩=>?_
 cases dv.of_str
 obtain⟨tk,rfl⟩:=r1
 refine wpAny_pyIter_strU ?_
 rw[hx]
 refine⟨s1.heap.objs.size,[s1.heap.objs.size],_,_,H1,rfl,I1.kept (t':=s1.toks) λb o e=>get?_push_of_some _ e,QN s1.heap.objs.size x tk,⟨_,get?_push_size _ rfl,rfl,rfl⟩,λb hb=>?_,q _ H1 s1' ⟨λk H2 s2 hk=>?_,λk H2 v H3 s2 hk ⟨e,c,ec,ev⟩=>?_,λk H2 s2 hk=>?_⟩⟩
 .have e:b=s1.heap.objs.size:=by simpa using hb
  subst e
  exact I1.fpOk (le_refl _) (I1.hok.fresh (le_refl _))
 .rw[length_map,length_toList]at hk
  exact hk
 .subst e ev
  refine⟨Same.refl _,Q_ c,?_,.str _⟩
  rw[getElem?_map,show x.cps.toList[k]?=some c from by simpa using ec]
  rfl
 .rw[length_map,length_toList]at hk
  exact hk
end
def tFR(K:Frag)(G:Gam)(ws:List PyData):TS:=λD σ H=>SD K H σ G/\∀p us H',H p=none->Same H H'->H' p=some (.lst us)->DVs K H' us ws->D.rt (.ref p) H'
abbrev FRs(X:Cx)(G:Gam)(sts:List Stmt)(ws:List PyData):Prop:=PSs X sts (tFR X.K G ws)
def spFL(K:Frag)(F:List PyData->List PyData->Prop):Sp:=λvs H Q _=>∃ds ws,DVs K H vs ds/\F ds ws/\∀p us H',H p=none->Same H H'->H' p=some (.lst us)->DVs K H' us ws->Q (.ref p) H'
def FFn(P:Program)(w:World)(K:Frag)(mg:Str->Option Value)(base:Heap)(k:Nat)(x:Str)(F:List PyData->List PyData->Prop):Prop:=
 ∃f fd ps,FnOk P w K mg base CX0 k f fd ps (spFL K F)/\mg x=some (.ref f)/\keepIn K (.ref f)=true/\Binds K fd ps []
variable{P:Program}{w:World}{mg:Str->Option Value}{base:Heap}
theorem FFn.data{k:Nat}{F:List PyData->List PyData->Prop}(h:FFn P w K mg base k x F):DFn P w K mg base k x (λds d=>∃ws,F ds ws/\d=.list ws):=by
 obtain⟨f,fd,ps,ok,r⟩:=h
 exact⟨f,fd,ps,ok.imp λvs H Q E ⟨ds,d,h1,⟨ws,h2,e⟩,q⟩=>⟨ds,ws,h1,h2,λp us H' hp s' hl dv=>q _ H' s' (by rw[e];exact .lst (SqL.of hl) dv)⟩,r⟩
variable{c:Expr}{es:List Expr}{pos' pos2:Pos}{ws:List PyData}{sts:List Stmt}
section
variable{A B:List Stmt}
theorem Ce(h:AV X G es ws)(hz:ws.length<=sizeLine):FRs X G (.Return (some (.List es pos2)) pos::sts) ws:=
 (Az (EW (Ho h)) (AA (sts:=sts))).imp λD σ H ⟨h,q⟩=>⟨h,λvs H1 s1 d1=>⟨by rw[d1.length];exact hz,λp hp=>q p vs _ (s1.free hp) (s1.trans (Same.new hp)) Al (d1.mono (Same.new hp))⟩⟩
theorem Bw{st:Stmt}{G1:Gam}(h1:SV X G st (.next G1))(h2:FRs X G1 sts ws):FRs X G (st::sts) ws:=
 (Az h1 h2).imp λD σ H ⟨h,q⟩=>⟨h,λσ' H' s' h'=>⟨h',λp us H2 hp s2 hl dv=>q p us H2 (s'.free hp) (s'.trans s2) hl dv⟩⟩
theorem EZ(hc:TV X G c true)(h1:FRs X G A ws):FRs X G (.If c A B pos::sts) ws:=
 (Az (Cu hc h1 (AA (sts:=B))) (AA (sts:=sts))).imp λD σ H ⟨h,q⟩=>⟨h,λH1 s1=>iteT ⟨h.mono s1,λp us H2 hp s2 hl dv=>q p us H2 (s1.free hp) (s1.trans s2) hl dv⟩⟩
end
theorem Fun.dataF{qual:Str}{st:Stmt}{f:Addr}{fd:FuncData}{N ps:List Str}{k:Nat}{F:List PyData->List PyData->Prop}(F0:Fun K x qual st f fd)(hm:mg x=some (.ref f))(hb:Binds K fd ps [])(S:FnScope N ps (Ae st))(len:∀ds d,F ds d->ds.length=ps.length)
  (hbody:∀(cdv:Value) (A:Around) (outer:List Env) (s:Shared) (H:Hp) (E:XK) (ds ws:List PyData),Room k (A.deeper (envOfC qual (Ae st) s.heap.objs.size f cdv))->F ds ws->
   FRs (cxOf CX0 P w K mg base N qual (Ae st) f cdv A outer s H E).nox (Bh N ds) (AN st) ws):FFn P w K mg base (k+1) x F:=
 ⟨f,fd,ps,F0.ok S (λvs H Q E ⟨ds,d,h1,h2,_⟩=>h1.length.trans (len ds d h2)) (λcdv A outer s H vs Q E hr ⟨ds,ws,h1,h2,q⟩=>⟨_,hbody cdv A outer s H E ds ws hr h2,SD.start h1,q⟩),hm,F0.kp,hb⟩
variable{G2:Gam}{ds:List PyData}{i:Nat}{y:Str}
def tDF(K:Frag)(G:Gam)(ws:List PyData):TE:=λσ H Q=>SD K H σ G/\∀p us H',H p=none->Same H H'->H' p=some (.lst us)->DVs K H' us ws->Q (.ref p) H'
abbrev EVF(X:Cx)(G:Gam)(e:Expr)(ws:List PyData):Prop:=PE X e (tDF X.K G ws)
theorem Ku{k:Nat}{F:List PyData->List PyData->Prop}(D:FFn X.prog X.w X.K X.mg X.base k x F)(hr:Room k X.A)(hg:Gl X x)(ha:AV X G (e::es) ds)(hF:F ds ws)(hdb:(x==("__debug__":Str))=false:=by decide)
  (he:Zst X e es:=by rfl)(hpl:(backTo pos (starEach es X.env)).any (·.1)=false:=by rfl):EVF X G (.Call (.Name x pos2) (e::es) [] pos) ws:=by
 obtain⟨f,fd,ps,ok,hm,hk,hb⟩:=D
 refine(Ed ok hr hg hm hk hb .nil Cs ha hdb he hpl).imp λσ H Q ⟨h,q⟩=>⟨h,λvs H1 s1 d1=>?_⟩
 show spFL X.K F (vs++[]) H1 Q E0
 rw[append_nil]
 exact⟨ds,ws,d1,hF,λp us H2 hp s2 hl dv=>q p us H2 (s1.free hp) (s1.trans s2) hl dv⟩
variable{da:PyData}
theorem J9{j pos'}{k:Bool}(ha:EV X G a da)(hk:nonD da=k):TV X G (.Compare a [.Is] [.Constant .none j pos'] pos) k:=
 (Tf (T8 ha)).imp λσ H Q ⟨h,q⟩=>⟨h,λv H' s' dv=>⟨k,by rw[dv.isNon,hk],q H' s'⟩⟩
def M7:List Str->List Value->Bool
 |[],[]=>true
 |s::r,v::q=>v.isStr s&&M7 r q
 |_,_=>false
def valB:Value->PyData->Bool
 | .str x _,.str y=>x==y
 | .int i _,.int j=>i==j
 |_,_=>false
def tabB:List (Str×PyData)->List DictEntry->Bool
 |[],[]=>true
 |q::r,e::es=>e.key.isStr q.1&&valB e.val q.2&&tabB r es
 |_,_=>false
theorem Fn{v:Value}{s:Str}(h:v.isStr s=true):∃t,v=.str s t:=by
 cases v with
 |str x t=>exact⟨t,by rw[eq_of_beq (show(x==s)=true from h)]⟩
 |_=>cases h
theorem HB:∀{ss:List Str}{us:List Value},M7 ss us=true->Vals (ss.map V.str) us
 |[],[],_=>.nil
 |s::r,v::q,h=>by
  have h:=Bool.and_eq_true_iff.mp (show(v.isStr s&&M7 r q)=true from h)
  exact .cons (Fn h.1) (HB h.2)
 |[],_::_,h=>by cases h
 |_::_,[],h=>by cases h
variable{ss:List Str}{n:Nat}
theorem gtup_mk{h:Heap}(X:K.In h)(G:h.Ns mainGlobals mg){a:Addr}{its:Array Value}{sl:Array (Option Value)}
  (z:nsIn K mainGlobals x=some (some (.ref a)))(l:K.lookup a=some ⟨.type "tuple",none,.seq its n,sl⟩)(hs:decide (its.size<=1000)=true)(hv:M7 ss its.toList=true):GTup K mg x ss:=
 ⟨a,_,its,n,mg_of X G z,l,rfl,rfl,rfl,by rw[sizeLine_eq];have:=of_decide_eq_true hs;omega,HB hv⟩
theorem Qj{u:Value}(h:valB u d=true):∃v,RelV v u/\∀(K:Frag) H,DV K H v d:=by
 cases u with
 |str x t=>cases d with
  |str y=>exact⟨.str y,⟨t,by rw[eq_of_beq (show(x==y)=true from h)]⟩,λ_ _=>.str y⟩
  |_=>cases h
 |int x t=>cases d with
  |int y=>exact⟨.int y,⟨t,by rw[eq_of_beq (show(x==y)=true from h)]⟩,λ_ _=>.int y⟩
  |_=>cases h
 |_=>cases h
theorem Jr:∀{tab:List (Str×PyData)}{es:List DictEntry},tabB tab es=true->(tab.map (·.1)).Nodup->∀q∈tab,∃e,es.find? (·.key.isStr q.1)=some e/\valB e.val q.2=true
 |[],[],_,_,q,hq=>by cases hq
 |[],_::_,h,_,_,_=>by cases h
 |_::_,[],h,_,_,_=>by cases h
 |p::r,e::es,h,hn,q,hq=>by
  have h:=Bool.and_eq_true_iff.mp (show(e.key.isStr p.1&&valB e.val p.2&&tabB r es)=true from h)
  have h1:=Bool.and_eq_true_iff.mp h.1
  rw[map_cons,nodup_cons]at hn
  rcases mem_cons.mp hq with rfl|hq
  .exact⟨e,by rw[find?_cons,h1.1],h1.2⟩
  .obtain⟨e',f1,f2⟩:=Jr h.2 hn.2 q hq
   refine⟨e',?_,f2⟩
   have:e.key.isStr q.1=false:=by
    obtain⟨t,e1⟩:=Fn h1.1
    rw[e1]
    refine beq_eq_false_iff_ne.mpr λc=>hn.1 ?_
    rw[c]
    exact mem_map.mpr ⟨q,hq,rfl⟩
   rw[find?_cons,this]
   exact f1
theorem gdict_mk{h:Heap}{P:Params}(X:K.In h)(G:h.Ns mainGlobals mg){tab:List (Str×PyData)}{a:Addr}{es:Array DictEntry}
  (z:nsIn K mainGlobals x=some (some (.ref a)))(l:K.lookup a=some ⟨.type "dict",none,.dict es n,#[]⟩)(hk:KeysLit P es.toList)(ht:tabB tab es.toList=true)(hn:(tab.map (·.1)).Nodup):GE K mg P x tab:=
 ⟨a,es,n,mg_of X G z,l,hk,λq hq=>by
   obtain⟨e,h1,h2⟩:=Jr ht hn q hq
   obtain⟨v,r,d⟩:=Qj h2
   exact⟨e.val,v,by unfold nsIn;rw[l];simp only;rw[h1],r,λH=>d K H⟩⟩
def TabV(K:Frag)(H:Hp):List (Key×V)->List (Str×PyData)->Prop
 |[],[]=>True
 |kv::r,q::t=>kv.1=.inr q.1/\DV K H kv.2 q.2/\TabV K H r t
 |_,_=>False
mutual
def noK:PyData->Bool
 | .none=>true
 | .bool _=>true
 | .int _=>true
 | .str _=>true
 | .tuple xs=>noKs xs
 | .list xs=>noKs xs
 | .dict _=>false
def noKs:List PyData->Bool
 |[]=>true
 |x::r=>noK x&&noKs r
end
variable{p:Addr}{kvs:List (Key×V)}
theorem GT{a:Addr}{o:HO}(hp:H p=some (.dK kvs))(e:H a=some o)(n:∀k,o≠.dK k):a≠p:=λc=>by subst c;rw[hp]at e;cases e;exact n _ rfl
mutual
theorem DV.noDict{K:PySem.W.Frag}{H H':Hp}{p:Addr}{kvs:List (Key×V)}(hp:H p=some (.dK kvs))(hH:∀a,a≠p->H' a=H a):∀{v:V}{d:PyData},DV K H v d->noK d=true->DV K H' v d
 |_,_,.non,_=>.non
 |_,_,.bl b,_=>.bl b
 |_,_,.int i,_=>.int i
 |_,_,.str x,_=>.str x
 |_,_,.tup (a:=a) h t,f=>by
  refine .tup ?_ (DVs.noDict hp hH t (by unfold noK at f;exact f))
  rcases h with(h|⟨o,h⟩)|h
  .exact .inl (.inl (by rw[hH a (GT hp h λ_ c=>by cases c)];exact h))
  .exact .inl (.inr ⟨o,by rw[hH a (GT hp h λ_ c=>by cases c)];exact h⟩)
  .exact .inr h
 |_,_,.lst (a:=a) h t,f=>by
  refine .lst ?_ (DVs.noDict hp hH t (by unfold noK at f;exact f))
  rcases h with(h|⟨o,h⟩)|h
  .exact .inl (.inl (by rw[hH a (GT hp h λ_ c=>by cases c)];exact h))
  .exact .inl (.inr ⟨o,by rw[hH a (GT hp h λ_ c=>by cases c)];exact h⟩)
  .exact .inr h
 |_,_,.dct h t,f=>by unfold noK at f;cases f
 |_,_,.exc h,f=>by unfold noK at f;cases f
 |_,_,.exr h h',f=>by unfold noK at f;cases f
 |_,_,.obj h n t,f=>by unfold noK at f;cases f
 |_,_,.dtt h,f=>by unfold noK at f;cases f
theorem DVs.noDict{K:PySem.W.Frag}{H H':Hp}{p:Addr}{kvs:List (Key×V)}(hp:H p=some (.dK kvs))(hH:∀a,a≠p->H' a=H a):∀{v:List V}{d:List PyData},DVs K H v d->noKs d=true->DVs K H' v d
 |_,_,.nil,_=>.nil
 |_,_,.cons h t,f=>by
  unfold noKs at f
  rw[Bool.and_eq_true]at f
  exact .cons (DV.noDict hp hH h f.1) (DVs.noDict hp hH t f.2)
end
def V0(t:List (Str×PyData))(s:Str):Option PyData:=(t.find? λq=>q.1==s).map (·.2)
variable{apos:Pos}{tab:List (Str×PyData)}
section
variable{f:Expr}{p:Pos}{d0:PyData}{keys:List (Option Expr)}{values:List Expr}
end
variable{o:Expr}
section
variable{p:Pos}
theorem DVs.of_strs:∀{ss:List Str}{vs:List V},DVs K H vs (ss.map PyData.str)->vs=ss.map V.str
 |[],_,.nil=>rfl
 |a::r,_,.cons h t=>by rw[h.of_str,DVs.of_strs t];rfl
theorem OG{s:Str}{j:Nat}(ho:EV X G o (.list (ss.map str)))(he:EV X G e (.str s))(hj:ss[j]?=some s)(hno:∀m,m<j->ss[m]?≠some s)
  (hb:attributeBase o "index" X.env (eval o X.env)=eval o X.env:=by rfl)
  (hfew:((backTo pos (starEach [e] X.env)).all (λx=>!x.1)&&(backToKw pos (keywordEach [] X.env)).all (λx=>x.1.isSome)
   &&decide ([e].length+([]:List Keyword).length+(if([]:List Keyword).isEmpty then 0 else 1)<30))=true:=by rfl)
  (hline:(apos.endLine==pos.line)=true:=by rfl)(hs:starEach [e] X.env=(false,eval e X.env)::starEach [] X.env:=by rfl)(hpl:(backTo pos (starEach [] X.env)).any (·.1)=false:=by rfl):
  EV X G (.Call (.Attribute o "index" apos) [e] [] pos) (.int j):=by
 have hjl:j<ss.length:=(List.getElem?_eq_some_iff.mp hj).1
 have mr:MtR X "list.index" (λy ys H Q=>∃l,y=.ref l/\SqL X.K H l (ss.map V.str)/\ys=[.str s]/\Q (.int j) H):=by
  intro pins s1 σ H y ys v us Q I ry rys ⟨l,e1,hl,e2,q⟩
  subst e1 e2
  cases ry
  obtain⟨u,rfl,ru⟩:=vals1 rys
  obtain⟨its,r,⟨ob,n,h1,h2,h3,h4⟩,hz⟩:=I.list hl
  obtain⟨oc,od,odt,osl⟩:=ob
  simp only at h2 h3 h4
  subst h2 h3 h4
  have hlen:its.length=ss.length:=by rw[<-r.length,length_map]
  rw[length_map,sizeLine_eq]at hz
  have get:∀m (hm:m<its.toArray.size),∃t,its.toArray[m]=Value.str (ss[m]'(by simpa[hlen]using hm)) t:=by
   intro m hm
   have hm2:m<ss.length:=by simpa[hlen]using hm
   obtain⟨u2,eu,t,ru2⟩:=r.get (i:=m) (x:=V.str ss[m]) (by simp[hm2])
   refine⟨t,?_⟩
   rw[<-ru2]
   have hm3:m<its.length:=by rw[hlen];exact hm2
   rw[getElem?_eq_getElem hm3]at eu
   simpa using Option.some.inj eu
  have hjs:j<its.toArray.size:=by simpa[hlen]using hjl
  refine call_meets PySem.F.slot_list_index ⟨_,h1,rfl⟩ PySem.F.entry_list_index (PySem.F.args_list_index_2 _ _) (PySem.SeqAt.list_indexAt l its.toArray n none osl u (λy=>y.isStr s) j hjs (by omega) ?_ ?_)
   ⟨h1,λy hy=>?_,⟨.int j,H,I.tok _,⟨_,rfl⟩,q⟩⟩
  .obtain⟨t,et⟩:=get j hjs
   simp only[et]
   show(_==s)=true
   have:=(List.getElem?_eq_some_iff.mp hj).2
   simpa using this
  .intro m hm hlt
   obtain⟨t,et⟩:=get m hm
   simp only[et]
   show(_==s)=false
   have hm2:m<ss.length:=by simpa[hlen]using hm
   refine beq_eq_false_iff_ne.mpr λc=>hno m hlt ?_
   rw[getElem?_eq_getElem hm2,c]
  .obtain⟨m,hm,em⟩:=Array.getElem_of_mem hy
   obtain⟨t,et⟩:=get m hm
   rw[<-em,et]
   have rr:RelV (.str (ss[m]'(by simpa[hlen]using hm))) (Value.str (ss[m]'(by simpa[hlen]using hm)) t):=⟨t,rfl⟩
   exact Mg (A:=X.A.in1) (s:=s1) rr ru rfl rfl
 refine(HC plainAttrs_list PySem.F.slot_list_index PySem.F.type_list_index mr ho (Aa he Ad hs) hb hfew hline hs hpl).imp λσ H Q ⟨h,q⟩=>⟨h,λv H1 s1 d1=>?_⟩
 obtain⟨l,us,rfl,hl,d2⟩:=d1.of_lst
 refine⟨.inl ⟨rfl,us,hl⟩,h.mono s1,λvs H2 s2 d3=>?_⟩
 obtain⟨v,rfl,dv⟩:=d3.one
 exact⟨l,rfl,by rw[<-d2.of_strs];exact s2.seq hl,by rw[dv.of_str],q _ H2 (s1.trans s2) (.int j)⟩
end
variable{H0:Hp}{j:Nat}{Pre Post:Gam->List PyData->Prop}{xs ys:List PyData}
section
variable{Mid:Gam->List PyData->Prop}
theorem DU(h:AV X G es ws)(hz:ws.length<=sizeLine):EVF X G (.List es pos) ws:=
 (Ho h).imp λσ H Q ⟨h,q⟩=>⟨h,λvs H1 s1 d1=>⟨by rw[d1.length];exact hz,λp hp=>q p vs _ (s1.free hp) (s1.trans (Same.new hp)) Al (d1.mono (Same.new hp))⟩⟩
theorem S6(h:∀G ds,Pre G ds->SVs X (EN G i ds) sts (.ret d)):HRs X H0 p i Pre sts (λz=>z=d):=by
 intro pins s σ H D I ⟨⟨G,ds,a,o⟩,q⟩
 refine h G ds a pins s σ H D I ⟨o.sd,λv H' s' dv=>q d v H' rfl ?_ dv⟩
 obtain⟨Hb,vs,rfl,hn,s0,_⟩:=o
 exact(s0.trans (Same.new hn)).trans s'
theorem Rv(hN:X.N.Nodup)(hi:X.N[i]?=some x)(hx:Loc X.env.scope x)(hG:i<G.length)(h:∀H0 p,HRs X H0 p i (λG' ds=>G'=G.set i none/\ds=[]) sts (λz=>z=d))
  (hs:swapsWith (.List [] pos2) (some (.Name x pos')) pos.line X.env=pure false:=by rfl)(hf:Zlo X x:=by first|exact .inl rfl|exact .inr rfl|assumption):
  SVs X G (.Assign [.Name x pos'] (.List [] pos2) pos::sts) (.ret d):=
 (Jx hN hi hx hG h hs hf).imp λD σ H ⟨h,q⟩=>⟨h,λd' v H' e s dv=>by subst e;exact q v H' s dv⟩
end
section
def hasK(es:List (PyData×PyData))(k:Key):Bool:=es.any λq=>eqv q.1 (keyD k)
def putD(es:List (PyData×PyData))(k:Key)(d:PyData):List (PyData×PyData):=if hasK es k=true then es.map (λq=>if eqv q.1 (keyD k)=true then(q.1,d)else q)else es++[(keyD k,d)]
section
variable{es:List (PyData×PyData)}
end
mutual
theorem DVk.noDict{K:PySem.W.Frag}{H H':Hp}{p:Addr}{kvs:List (Key×V)}(hp:H p=some (.dK kvs))(hH:∀a,a≠p->H' a=H a):∀{v:List (Key×V)}{d:List (PyData×PyData)},DVk K H v d->(d.all λq=>noK q.2)=true->DVk K H' v d
 |_,_,.nil,_=>.nil
 |_,_,.cons h t,f=>by
  rw[List.all_cons,Bool.and_eq_true]at f
  exact .cons (DV.noDict hp hH h f.1) (DVk.noDict hp hH t f.2)
end
abbrev V6(G:Gam)(i:Nat)(es:List (PyData×PyData)):Gam:=G.set i (some (.dict es))
def ODt(K:Frag)(H0:Hp)(p:Addr)(i:Nat)(G:Gam)(es:List (PyData×PyData))(σ:St)(H:Hp):Prop:=
 ∃Hb kvs,H=upd Hb p (.dK kvs)/\Hb p=none/\Same H0 Hb/\SD K Hb σ G/\σ[i]?=some (some (.ref p))/\DVk K Hb kvs es
variable{PreA PreB:Gam->List (PyData×PyData)->Prop}
section
variable{Pre Mid Post:Gam->List (PyData×PyData)->Prop}
end
end
variable{tg:Expr}
section
variable{Mid:Gam->List PyData->Prop}{R:PyData->Prop}
def GB:List Nat->List PyData->Gam->Gam
 |i::is,d::ds,G=>GB is ds (G.set i (some d))
 |_,_,G=>G
def Nu(is:List Nat)(d:PyData)(G:Gam):Gam:=match d with
 | .tuple ds=>GB is ds G
 |_=>G
def Ds:List Nat->TGs
 |[]=>gNil
 |i::is=>KW (BO i) (Ds is)
theorem Ky{K:Frag}{H:Hp}:∀(is:List Nat) (ds:List PyData) (vs:List V) (σ:St) (G:Gam) (Q:St->Hp->Prop),is.length=ds.length->SD K H σ G->DVs K H vs ds->(∀σ2,SD K H σ2 (GB is ds G)->Q σ2 H)->Ds is vs σ H Q
 |[],[],_,σ,G,Q,_,h,.nil,q=>⟨rfl,q σ h⟩
 |i::is,d::ds,_,σ,G,Q,hl,h,.cons (x:=v) (xs:=vs) dv t,q=>⟨v,vs,rfl,Ky is ds vs _ _ Q (Nat.succ.inj hl) (h.set dv) t q⟩
theorem JW{k:Nat}(is:List Nat)(ds:List PyData)(hl:is.length=ds.length):BindD K k (gTup K is.length (Ds is)) (Nu is) (.tuple ds):=⟨λv σ H G Q h dv q=>by
 obtain⟨l,us,rfl,hs,d1⟩:=dv.of_tup
 exact⟨l,us,rfl,hs,by rw[d1.length,hl],Ky is ds us σ G Q hl h d1 q⟩⟩
theorem Q0{k:Nat}{g:TG}{B:PyData->Gam->Gam}{G1:Gam}(he:EV X G e d)(hg:PG X tg g)(hb:BindD X.K k g B d)(hG:B d G=G1)(hs:swapsWithSole [tg] e pos.line X.env=pure false:=by rfl)(hw:swappedStores [tg] e X.env=pure none:=by rfl)
  (h1:(assignEach [tg] X.env).map (·.2)=[assign tg X.env]:=by rfl):SV X G (.Assign [tg] e pos) (.next G1):=hG▸
 (C8 he hg hs hw h1).imp λD σ H ⟨h,q⟩=>⟨h,λv H1 s1 d1=>hb.to v σ H1 G _ (h.mono s1) d1 λσ2 h2=>q σ2 H1 s1 h2⟩
theorem Up{i j:Int}(hc:X.calm=true):CD X (.builtin "min") [.int i,.int j] (.int (if j<i then j else i)):=(Ow hc).imp λxs H Q ⟨h,q⟩=>by
 obtain⟨v,w,rfl,dv,dw⟩:=h.two
 exact⟨i,j,by rw[dv.of_int,dw.of_int],q _ H (Same.refl H) (.int _)⟩
theorem Qi(h:∀G ds,Pre G ds->∃d,R d/\SVs X (EN G i ds) sts (.ret d)):HRs X H0 p i Pre sts R:=by
 intro pins s σ H D I ⟨⟨G,ds,a,o⟩,q⟩
 obtain⟨d,r,hh⟩:=h G ds a
 refine hh pins s σ H D I ⟨o.sd,λv H' s' dv=>q d v H' r ?_ dv⟩
 obtain⟨Hb,vs,rfl,hn,s0,_⟩:=o
 exact(s0.trans (Same.new hn)).trans s'
end
def UD{α:Type}(N:Nat)(R:α->Prop):KasT α->Prop
 | .ret a=>R a
 | .ask i j k=>i<N/\j<N/\∀b,UD N R (k b)
def PmN(N:Nat)(p:Array Nat):Prop:=p.Perm (toArray (range N))
section
variable{N:Nat}(hN:0<N)
end
variable{prog:Program}{A:Around}{E:Value->Shared->Prop}{s:Shared}
variable{cpos:Pos}
section
variable{p:Pos}{es:List (PyData×PyData)}
end
variable{p1:Pos}
section
variable{Pre Mid Post:Gam->List (PyData×PyData)->Prop}{R:PyData->Prop}{Rs:List PyData->Prop}
end
section
variable{p:Pos}
end
section
variable{p:Pos}
end
theorem Fun.dataN{qual:Str}{st:Stmt}{f:Addr}{fd:FuncData}{N ps:List Str}{k:Nat}{F:List PyData->Prop}(F0:Fun K x qual st f fd)(hm:mg x=some (.ref f))(hb:Binds K fd ps [])(S:FnScope N ps (Ae st))(len:∀ds,F ds->ds.length=ps.length)
  (hbody:∀(cdv:Value) (A:Around) (outer:List Env) (s:Shared) (H:Hp) (E:XK) (ds:List PyData),Room k (A.deeper (envOfC qual (Ae st) s.heap.objs.size f cdv))->F ds->
   ∃G',SVs (cxOf CX0 P w K mg base N qual (Ae st) f cdv A outer s H E).nox (Bh N ds) (AN st) (.next G')):DFn P w K mg base (k+1) x (λds d=>F ds/\d=.none):=by
 refine⟨f,fd,ps,F0.ok S (λvs H Q E ⟨ds,d,h1,h2,_⟩=>h1.length.trans (len ds h2.1)) (λcdv A outer s H vs Q E hr ⟨ds,d,h1,⟨h2,e⟩,q⟩=>?_),hm,F0.kp,hb⟩
 obtain⟨G',h⟩:=hbody cdv A outer s H E ds hr h2
 subst e
 exact⟨_,h,SD.start h1,λσ' H' s' h'=>q .non H' s' .non⟩
variable{f:Str}
theorem Sf(h:EV X G e d)(hs:swapsWith e none pos.line X.env=pure false:=by rfl):SV X G (.Expr e pos) (.next G):=
 (BG h hs).imp λD σ H ⟨h,q⟩=>⟨h,λv H' s' _=>q σ H' s' (h.mono s')⟩
def Flds(K:Frag)(H:Hp)(fs:List (Str×V))(fd:List (Str×PyData)):Prop:=∀q∈fd,∃v,fs.lookup q.1=some v/\DV K H v q.2
structure OI(K:Frag)(a C dx:Addr)(H0:Hp)(n:Nat)(fd:List (Str×PyData))(σ:St)(G:Gam)(fs:List (Str×V))(H:Hp):Prop where
 slot:σ[0]?=some (some (.ref a))
 obj:H a=some (.ins C dx fs)
 sd:SD K H σ G
 keep:∀b,b≠a->∀o,H0 b=some o->H b=some o
 flds:Flds K H fs fd
 few:fs.length<=n
theorem mulW(l:Addr)(items:Array Value)(n:Nat)(dd:Option Addr)(sl:Array (Option Value))(x:Int)(u:Tok)(hc0:¬(!Builtin.List.listFitsIndex x)=true)(hc1:¬items.size*x.toNat>(2^63-1)/8)(hc2:¬Builtin.List.listTooLong (items.size*x.toNat)=true):
  Meets (Builtin.«list.__mul__» ⟨[.ref l,.int x u],[]⟩) (λ_ R s=>s.heap.get? l=some {cls:=.type "list",dict:=dd,data:=.seq items n,slots:=sl}/\R (.ok (.ret (Value.ref s.heap.objs.size))) {s with heap:=s.heap.push {cls:=Value.type "list",data:=Data.seq (foldl (λx1 x2=>x1++x2) #[] (replicate (if items.isEmpty=true then 0 else x.toNat) items))},toks:=s.toks}):=
 .of_wp λprog w A R s h=>by
  obtain⟨hp,g,d,tk,os⟩:=s;obtain⟨hl,h⟩:=h
  have hsz:=PySem.AutoListH.joined_fits hc2
  wp_walk using wpAny_loadPart' hl;refine wpAny_ite_false (decide_eq_false (Nat.not_lt.mpr hsz)) ?_;wp_walk;exact⟨_,rfl,h⟩
theorem Vy(a:Int)(t:Tok)(l:Addr)(items:Array Value)(n:Nat)(dd:Option Addr)(sl:Array (Option Value)):
  Meets (Builtin.«int.__rmul__» ⟨[.int a t,.ref l],[]⟩) (λ_ R s=>s.heap.get? l=some {cls:=.type "list",dict:=dd,data:=.seq items n,slots:=sl}/\R (.ok (.ret Value.notImplemented)) s):=
 .of_wp λprog w A R s h=>by obtain⟨hp,g,d,tk,os⟩:=s;obtain⟨hl,h⟩:=h;wp_walk using wpAny_loadPart' hl;exact⟨_,rfl,h⟩
theorem DVs.rep{vs:List V}(h:DVs K H vs ds):∀k:Nat,DVs K H (List.replicate k vs).flatten (List.replicate k ds).flatten
 |0=>.nil
 |k+1=>by
  rw[List.replicate_succ,List.replicate_succ,List.flatten_cons,List.flatten_cons]
  exact h.append (DVs.rep h k)
theorem EJ{c j pos}{env:Env}:starEach (.Constant c j pos::es) env=(false,eval (.Constant c j pos) env)::starEach es env:=rfl
section
variable{o:Out}
end
variable{iter:Expr}{pos3:Pos}
section
variable{Mid:Gam->List PyData->Prop}{A B:List Stmt}
theorem Gh{db dc:PyData}{op op':CmpOp}{k k':Bool}(ho:OD X (compareOp op) da db (.bool k))(ho':OD X (compareOp op') db dc (.bool k'))(ha:EV X G a da)(hb:EV X G b db)(hc:EV X G c dc)
  (hm:lastMarks [op,op'] [b,c]=false:=by with_unfolding_all rfl):TV X G (.Compare a [op,op'] [b,c] pos) (k&&k'):=by
 refine(QQ ho ho' ha hb hc hm).imp λσ H Q ⟨h,q⟩=>⟨h,λx H1 s1 d1=>⟨h.mono s1,λy H2 s2 d2=>⟨d1.mono s2,d2,λv H3 s3 d3=>⟨k,d3.of_bl,?_⟩⟩⟩⟩
 cases k with
 |true=>
  simp only[if_true]
  exact⟨((h.mono s1).mono s2).mono s3,λz H4 s4 d4=>⟨(d2.mono s3).mono s4,d4,λv H5 s5 d5=>⟨k',d5.of_bl,q H5 ((((s1.trans s2).trans s3).trans s4).trans s5)⟩⟩⟩
 |false=>
  simp only[false_eq_true,if_false]
  exact⟨false,rfl,q H3 ((s1.trans s2).trans s3)⟩
theorem DVs.setAt{v:V}(h:DV K H v d):∀{vs:List V}{ds:List PyData}(n:Nat),DVs K H vs ds->DVs K H (vs.set n v) (ds.set n d)
 |_,_,_,.nil=>.nil
 |_,_,0,.cons _ t=>.cons h t
 |_,_,n+1,.cons q t=>.cons q (DVs.setAt h n t)
theorem Us{k:Int}(hv:PE X (.Name x pos2) (tVar i))(h:∀G ds,Pre G ds->∃d m,EV X (EN G i ds) e d/\noL d=true/\EV X (EN G i ds) b (.int m)/\0<=m/\m<ds.length/\Post G (ds.set m.toNat d))
  (ha:∀v,assign (.Subscript (.Name x pos2) b pos3) X.env v=(do
   let ov <-holding [v] (eval (.Name x pos2) X.env)
   let iv <-holding [v,ov] (eval b X.env)
   standAt pos3
   holding [v,ov,iv] (setItem ov iv v)
   release [v,ov,iv] []):=by intro _;rfl)
  (hs:swapsWithSole [.Subscript (.Name x pos2) b pos3] e pos.line X.env=pure false:=by rfl)(hw:swappedStores [.Subscript (.Name x pos2) b pos3] e X.env=pure none:=by rfl)
  (h1:(assignEach [.Subscript (.Name x pos2) b pos3] X.env).map (·.2)=[assign (.Subscript (.Name x pos2) b pos3) X.env]:=by rfl):HT1 X H0 p i Pre (.Assign [.Subscript (.Name x pos2) b pos3] e pos) Post:=by
 intro pins s σ H D I ⟨⟨G,ds,a,o⟩,q⟩
 obtain⟨d,m,ev,nl,eb,m0,m1,po⟩:=h G ds a
 refine C8 ev (HJ hv eb set_list ha) hs hw h1 pins s σ H D I ⟨o.sd,λv H1 s1 d1=>?_⟩
 obtain⟨o1,k⟩:=o.step s1
 obtain⟨Hb,vs,e1,e2,e3,e4,e5,e6,e7⟩:=k v d d1 nl
 refine⟨.ref p,e5,o1.sd,λw H2 s2 d2=>?_⟩
 obtain⟨o2,k2⟩:=o1.step s2
 obtain⟨Hc,us,f1,f2,f3,f4,f5,f6,f7⟩:=k2 v d (d1.mono s2) nl
 subst f1
 have hl:us.length=ds.length:=f6.length
 refine⟨p,us,m,m.toNat,rfl,d2.of_int,Al,?_,?_⟩
 .unfold ixN
  rw[if_pos m0,if_pos (by rw[hl];exact m1)]
 rw[Nd]
 exact q _ _ G _ po ⟨Hc,us.set m.toNat v,rfl,f2,f3,f4,f5,f6.setAt f7 _⟩
end
variable{N:List Str}
section
variable{elt target:Expr}{ifs:List Expr}{scope:Scope}{ix:List Nat}
end
section
variable{p:Pos}
end
section
variable{t:Addr}{ys:List V}
theorem Po(hq:SqL K H t ys)(dys:DVs K H ys ds):ItD K (Itl K t) ds H where
 go:=λi H2 s2 hi=>by
  obtain⟨v,e,_⟩:=dys.get (i:=i) (d:=ds[i]) (by simp[hi])
  exact⟨ys,v,s2.seq hq,e⟩
 yld:=λi H2 v H3 s2 _ ⟨e,y⟩=>by
  subst e
  obtain⟨d,e1,e2⟩:=dys.get' (y ys (s2.seq hq))
  exact⟨Same.refl _,d,e1,e2.mono s2⟩
 stop:=λi H2 s2 hi=>⟨ys,s2.seq hq,by rw[dys.length];exact hi⟩
end
abbrev base2(H:Hp)(p q:Addr):Hp:=dele (dele H p) q
variable{q:Addr}
theorem CI{b:Addr}(h1:b≠p)(h2:b≠q):base2 H p q b=H b:=by show dele (dele H p) q b=_;rw[B9 h2,B9 h1]
theorem Ip{b:Addr}{o:HO}(h:base2 H p q b=some o):b≠p/\b≠q/\H b=some o:=by
 have hq:b≠q:=λc=>by subst c;rw[show base2 H p b b=none from Bj]at h;cases h
 have hp:b≠p:=λc=>by
  subst c
  rw[show base2 H b q b=dele H b b from B9 hq,Bj]at h
  cases h
 exact⟨hp,hq,by rw[CI hp hq]at h;exact h⟩
theorem base2_sub:Same (base2 H p q) H:=λb o e=>(Ip e).2.2
variable{H':Hp}
theorem CW(s:Same H H'):Same (base2 H p q) (base2 H' p q):=λb o e=>by
 obtain⟨h1,h2,h3⟩:=Ip e
 rw[CI h1 h2]
 exact s b o h3
theorem L5:base2 H p q=base2 H q p:=by
 funext b
 by_cases h1:b=p
 .by_cases h2:b=q
  .subst h1 h2;rfl
  .subst h1
   show dele (dele H b) q b=dele (dele H q) b b
   rw[B9 h2,Bj,Bj]
 .by_cases h2:b=q
  .subst h2
   show dele (dele H p) b b=dele (dele H b) p b
   rw[Bj,B9 h1,Bj]
  .rw[CI h1 h2,CI h2 h1]
theorem ED{o:HO}:base2 (upd H p o) p q=base2 H p q:=by
 funext b
 by_cases h2:b=q
 .subst h2;show dele _ b b=dele _ b b;rw[Bj,Bj]
 .by_cases h1:b=p
  .subst h1
   show dele (dele _ b) q b=dele (dele _ b) q b
   rw[B9 h2,B9 h2,Bj,Bj]
  .rw[CI h1 h2,CI h1 h2,Aj h1]
variable{us:List V}
section
variable{ws:List V}
theorem DV.base2{v:V}(hp:H p=some (.lst ws))(hq:H q=some (.lst us))(ne:p≠q)(h:DV K H v d)(n:noL d=true):DV K (L2.base2 H p q) v d:=DV.dele (ws:=us) (by rw[B9 (Ne.symm ne)];exact hq) (DV.dele hp h n) n
theorem DVs.base2{v:List V}{d:List PyData}(hp:H p=some (.lst ws))(hq:H q=some (.lst us))(ne:p≠q)(h:DVs K H v d)(n:noLs d=true):DVs K (L2.base2 H p q) v d:=DVs.dele (ws:=us) (by rw[B9 (Ne.symm ne)];exact hq) (DVs.dele hp h n) n
end
structure OS2(K:Frag)(H0:Hp)(p:Addr)(i:Nat)(q:Addr)(j:Nat)(G:Gam)(ds es:List PyData)(σ:St)(H:Hp):Prop where
 ne:p≠q
 ex:∃vs us,H p=some (.lst vs)/\H q=some (.lst us)/\DVs K (base2 H p q) vs ds/\DVs K (base2 H p q) us es
 old:Same H0 (base2 H p q)
 sdb:SD K (base2 H p q) σ G
 hi:σ[i]?=some (some (.ref p))
 hj:σ[j]?=some (some (.ref q))
abbrev IJ(G:Gam)(i:Nat)(ds:List PyData)(j:Nat)(es:List PyData):Gam:=(G.set i (some (.list ds))).set j (some (.list es))
variable{α:Type}
theorem KJ{l:List α}{a:α}(h:l[i]?=some a):l.set i a=l:=by
 refine ext_getElem? λj=>?_
 by_cases hj:i=j
 .subst hj
  rw[getElem?_set_self (List.getElem?_eq_some_iff.mp h).1,h]
 .rw[getElem?_set_ne hj]
variable{σ:St}
section
variable{es:List PyData}
theorem OS2.swap(o:OS2 K H0 p i q j G ds es σ H):OS2 K H0 q j p i G es ds σ H:=by
 obtain⟨ne,⟨vs,us,h1,h2,d1,d2⟩,old,sd,hi,hj⟩:=o
 rw[L5]at d1 d2 old sd
 exact⟨Ne.symm ne,⟨us,vs,h2,h1,d2,d1⟩,old,sd,hj,hi⟩
theorem OS2.sd(o:OS2 K H0 p i q j G ds es σ H):SD K H σ (IJ G i ds j es):=by
 obtain⟨ne,⟨vs,us,h1,h2,d1,d2⟩,old,sd,hi,hj⟩:=o
 have a:=((sd.mono base2_sub).set (i:=i) (v:=.ref p) (d:=.list ds) (.lst (SqL.of h1) (d1.mono base2_sub))).set (i:=j) (v:=.ref q) (d:=.list es) (.lst (SqL.of h2) (d2.mono base2_sub))
 rw[KJ hi,KJ hj]at a
 exact a
theorem OS2.step(o:OS2 K H0 p i q j G ds es σ H)(s:Same H H'):OS2 K H0 p i q j G ds es σ H':=by
 obtain⟨ne,⟨vs,us,h1,h2,d1,d2⟩,old,sd,hi,hj⟩:=o
 exact⟨ne,⟨vs,us,s _ _ h1,s _ _ h2,d1.mono (CW s),d2.mono (CW s)⟩,old.trans (CW s),sd.mono (CW s),hi,hj⟩
theorem OS2.new{v:V}(o:OS2 K H0 p i q j G ds es σ H)(h:DV K H v d)(n:noL d=true):DV K (base2 H p q) v d:=by
 obtain⟨ne,⟨vs,us,h1,h2,_⟩,_⟩:=o
 exact DV.base2 h1 h2 ne h n
end
abbrev P2:=Gam->List PyData->List PyData->Prop
def sw(Q:P2):P2:=λG a b=>Q G b a
def tH2(K:Frag)(H0:Hp)(p:Addr)(i:Nat)(q:Addr)(j:Nat)(Pre Post:P2):TS:=λD σ H=>(∃G ds es,Pre G ds es/\OS2 K H0 p i q j G ds es σ H)/\∀σ' H' G ds es,Post G ds es->OS2 K H0 p i q j G ds es σ' H'->D.nx σ' H'
def tHR2(K:Frag)(H0:Hp)(p:Addr)(i:Nat)(q:Addr)(j:Nat)(Pre:P2)(R:PyData->Prop):TS:=λD σ H=>(∃G ds es,Pre G ds es/\OS2 K H0 p i q j G ds es σ H)/\∀d v H',R d->Same H0 H'->DV K H' v d->D.rt v H'
abbrev HT2(X:Cx)(H0:Hp)(p:Addr)(i:Nat)(q:Addr)(j:Nat)(Pre:P2)(st:Stmt)(Post:P2):Prop:=PS X st (tH2 X.K H0 p i q j Pre Post)
abbrev HT2s(X:Cx)(H0:Hp)(p:Addr)(i:Nat)(q:Addr)(j:Nat)(Pre:P2)(sts:List Stmt)(Post:P2):Prop:=PSs X sts (tH2 X.K H0 p i q j Pre Post)
abbrev HR2s(X:Cx)(H0:Hp)(p:Addr)(i:Nat)(q:Addr)(j:Nat)(Pre:P2)(sts:List Stmt)(R:PyData->Prop):Prop:=PSs X sts (tHR2 X.K H0 p i q j Pre R)
section
variable{m:Nat}{Pre Mid Post PreA PreB:P2}{R:PyData->Prop}
theorem S4{st:Stmt}(h:HT2 X H0 q j p i (sw Pre) st (sw Post)):HT2 X H0 p i q j Pre st Post:=h.imp λD σ H ⟨⟨G,ds,es,a,o⟩,k⟩=>⟨⟨G,es,ds,a,o.swap⟩,λσ' H' G' ds' es' r o'=>k σ' H' G' es' ds' r o'.swap⟩
theorem FO(h:∀G ds es,Pre G ds es->Post G ds es):HT2s X H0 p i q j Pre [] Post:=pss_nil.imp λD σ H ⟨⟨G,ds,es,a,o⟩,k⟩=>k σ H G ds es (h G ds es a) o
theorem DG{st:Stmt}(h1:HT2 X H0 p i q j Pre st Mid)(h2:HT2s X H0 p i q j Mid sts Post):HT2s X H0 p i q j Pre (st::sts) Post:=
 (Az h1 h2).imp λD σ H ⟨a,k⟩=>⟨a,λσ' H' G ds es r o=>⟨⟨G,ds,es,r,o⟩,k⟩⟩
theorem Ko{st:Stmt}(h1:HT2 X H0 p i q j Pre st Mid)(h2:HR2s X H0 p i q j Mid sts R):HR2s X H0 p i q j Pre (st::sts) R:=
 (Az h1 h2).imp λD σ H ⟨a,k⟩=>⟨a,λσ' H' G ds es r o=>⟨⟨G,ds,es,r,o⟩,k⟩⟩
theorem S3(h:∀G ds es,Pre G ds es->SVs X (IJ G i ds j es) sts (.ret d)):HR2s X H0 p i q j Pre sts (λz=>z=d):=by
 intro pins s σ H D I ⟨⟨G,ds,es,a,o⟩,k⟩
 exact h G ds es a pins s σ H D I ⟨o.sd,λv H' s' dv=>k d v H' rfl ((o.old.trans base2_sub).trans s') dv⟩
theorem Mb(hN:X.N.Nodup)(hm:X.N[m]?=some x)(hmi:m≠i)(hmj:m≠j)(hx:Loc X.env.scope x)(h:∀G ds es,Pre G ds es->∃d,EV X (IJ G i ds j es) e d/\noL d=true/\Post (G.set m (some d)) ds es)(hs:swapsWith e (some (.Name x pos')) pos.line X.env=pure false:=by rfl)
  (hf:Zlo X x:=by first|exact .inl rfl|exact .inr rfl|assumption):HT2 X H0 p i q j Pre (.Assign [.Name x pos'] e pos) Post:=by
 intro pins s σ H D I ⟨⟨G,ds,es,a,o⟩,k⟩
 obtain⟨d,ev,nl,po⟩:=h G ds es a
 refine BL hN hm hx ev hs hf pins s σ H D I ⟨o.sd,λv H1 s1 d1=>?_⟩
 have o1:=o.step s1
 have dn:=o1.new d1 nl
 obtain⟨ne,ex,old,sd,hi,hj⟩:=o1
 exact k _ _ _ ds es po ⟨ne,ex,old,sd.set dn,by rw[getElem?_set_ne hmi];exact hi,by rw[getElem?_set_ne hmj];exact hj⟩
theorem Jg(h:∀G ds es,Pre G ds es->∃d,EV X (IJ G i ds j es) e d/\noL d=true/\ds.length<sizeLine/\Post G (ds++[d]) es)(hv:PE X (.Name x pos2) (tVar i))
  (hs0:starEach [e] X.env=(false,eval e X.env)::starEach [] X.env:=by rfl)
  (hb:attributeBase (.Name x pos2) "append" X.env (eval (.Name x pos2) X.env)=eval (.Name x pos2) X.env:=by rfl)
  (hfew:((backTo pos' (starEach [e] X.env)).all (λx=>!x.1)&&(backToKw pos' (keywordEach [] X.env)).all (λx=>x.1.isSome)
   &&decide ([e].length+([]:List Keyword).length+(if([]:List Keyword).isEmpty then 0 else 1)<30))=true:=by rfl)
  (hline:(apos.endLine==pos'.line)=true:=by rfl)(hpl:(backTo pos' (starEach [] X.env)).any (·.1)=false:=by rfl)
  (hsw:swapsWith (.Call (.Attribute (.Name x pos2) "append" apos) [e] [] pos') none pos.line X.env=pure false:=by rfl):
  HT2 X H0 p i q j Pre (.Expr (.Call (.Attribute (.Name x pos2) "append" apos) [e] [] pos') pos) Post:=by
 intro pins s σ H D I ⟨⟨G,ds,es,a,o⟩,k⟩
 obtain⟨d,ev,nl,hz,po⟩:=h G ds es a
 refine BG (HC plainAttrs_list PySem.F.slot_list_append PySem.F.type_list_append DA hv (Aa ev Ad hs0) hb hfew hline hs0 hpl) hsw pins s σ H D I ?_
 obtain⟨vs0,us0,g1,g2,_⟩:=id o.ex
 refine⟨_,o.hi,.inl ⟨rfl,vs0,SqL.of g1⟩,o.sd,λws H1 s1 d1=>?_⟩
 obtain⟨v,rfl,d2⟩:=d1.one
 have o1:=o.step s1
 have dn:=o1.new d2 nl
 obtain⟨ne,⟨vs,us,h1,h2,d3,d4⟩,old,sd,hi,hj⟩:=o1
 refine⟨p,vs,v,rfl,rfl,h1,by rw[d3.length];exact hz,?_⟩
 refine k _ _ G _ es po ⟨ne,⟨vs++[v],us,Al,by rw[Aj (symm ne)];exact h2,?_,?_⟩,?_,?_,hi,hj⟩
 .rw[ED];exact d3.append (.cons dn .nil)
 .rw[ED];exact d4
 .rw[ED];exact old
 .rw[ED];exact sd
theorem SM{A B:List Stmt}(h:∀G ds es,Pre G ds es->(TV X (IJ G i ds j es) c true/\PreA G ds es)\/(TV X (IJ G i ds j es) c false/\PreB G ds es))(h1:HT2s X H0 p i q j PreA A Post)(h2:HT2s X H0 p i q j PreB B Post):HT2 X H0 p i q j Pre (.If c A B pos) Post:=by
 intro pins s σ H D I ⟨⟨G,ds,es,a,o⟩,k⟩
 rcases h G ds es a with⟨tv,pa⟩|⟨tv,pb⟩
 .exact Cu tv h1 h2 pins s σ H D I ⟨o.sd,λH1 s1=>iteT ⟨⟨G,ds,es,pa,o.step s1⟩,k⟩⟩
 .exact Cu tv h1 h2 pins s σ H D I ⟨o.sd,λH1 s1=>iteF ⟨⟨G,ds,es,pb,o.step s1⟩,k⟩⟩
abbrev IV2(X:Cx)(H0:Hp)(p:Addr)(i:Nat)(q:Addr)(j:Nat)(G:Gam)(ds es:List PyData)(tg iter:Expr)(xs:List PyData):Prop:=PI X tg iter (λσ H R=>OS2 X.K H0 p i q j G ds es σ H/\∀J H',Same H H'->ItD X.K J xs (base2 H' p q)->R J H')
structure BindB(K:Frag)(is:List Nat)(g:TG)(B:PyData->Gam->Gam)(d:PyData):Prop where
 to:∀(v:V) (σ:St) (Hb H:Hp) (G:Gam) (Q:St->Hp->Prop),Same Hb H->SD K Hb σ G->DV K Hb v d->(∀σ2,SD K Hb σ2 (B d G)->(∀m,m∉is->σ2[m]?=σ[m]?)->Q σ2 H)->g v σ H Q
theorem LQ(n:Nat)(d:PyData):BindB K [n] (BO n) (Hy n) d:=⟨λv σ Hb H G Q s h dv k=>k _ (h.set dv) λm hm=>getElem?_set_ne λc=>hm (by rw[c];simp)⟩
theorem Uw{body:List Stmt}{is:List Nat}{g:TG}{B:PyData->Gam->Gam}(W:Nat->P2)(hp:PassesOwn (model X.prog X.w) X.A X.env X.xe)(hcalm:X.calm=true)(hii:i∉is)(hjj:j∉is)(hg:PG X tg g)
  (hbd:∀d∈xs,BindB X.K is g B d)(hnl:∀d∈xs,noL d=true)(hpre:∀G ds es,Pre G ds es->W 0 G ds es/\IV2 X H0 p i q j G ds es tg iter xs)
  (hs:∀(H1:Hp) (k:Nat) d,xs[k]?=some d->HT2s X H1 p i q j (λG ds es=>∃G',W k G' ds es/\G=B d G') body (W (k+1)))(hpost:∀G ds es,W xs.length G ds es->Post G ds es)
  (hfs:∀x,foldedSetIterable iter X.env x=pure x:=by intro _;rfl):HT2 X H0 p i q j Pre (.For tg iter body [] pos) Post:=by
 intro pins s σ H D I ⟨⟨G,ds,es,a,o⟩,k⟩
 obtain⟨w0,hi⟩:=hpre G ds es a
 have hbody:PSs X body (λD σ H=>∃kd:Hp×Nat×PyData,xs[kd.2.1]?=some kd.2.2/\tH2 X.K kd.1 p i q j (λG ds es=>∃G',W kd.2.1 G' ds es/\G=B kd.2.2 G') (W (kd.2.1+1)) D σ H):=λpins s σ H D I ⟨k,hk,q⟩=>hs k.1 k.2.1 k.2.2 hk pins s σ H D I q
 refine Gy hp hcalm hi hg hbody hfs pins s σ H D I ⟨o,λJ H1 s1 hJ=>?_⟩
 have ostart:OS2 X.K (base2 H1 p q) p i q j G ds es σ H1:=by
  obtain⟨ne,ex,old,sd,hi,hj⟩:=o.step s1
  exact⟨ne,ex,Same.refl _,sd,hi,hj⟩
 have oback:Same H0 (base2 H1 p q):=o.old.trans (CW s1)
 refine⟨λk m σ H=>k<=xs.length/\m=xs.length-k/\∃G ds es,W k G ds es/\OS2 X.K (base2 H1 p q) p i q j G ds es σ H,⟨_,zero_le _,rfl,G,ds,es,w0,ostart⟩,?_⟩
 rintro n m σ2 H2 ⟨hn,rfl,G2,ds2,es2,w2,o2⟩
 have sm:Same (base2 H1 p q) H2:=o2.old.trans base2_sub
 by_cases hlt:n<xs.length
 .refine .inr ⟨hJ.go n H2 sm hlt,λσ' H'=>∃G ds es,W (n+1) G ds es/\OS2 X.K (base2 H1 p q) p i q j G ds es σ' H',λσ' H' z=>⟨xs.length- (n+1),by omega,hlt,rfl,z⟩,λv H' y=>?_⟩
  obtain⟨s2,d,ed,dv⟩:=hJ.yld n H2 v H' sm hlt y
  have hmem:=mem_of_getElem? ed
  have o3:=o2.step s2
  refine(hbd d hmem).to v _ (base2 H' p q) H' _ _ base2_sub o3.sdb (o3.new dv (hnl d hmem)) λσ3 h3 hm=>?_
  refine⟨(base2 H1 p q,n,d),ed,⟨_,ds2,es2,⟨G2,w2,rfl⟩,⟨o3.ne,o3.ex,o3.old,h3,by rw[hm i hii];exact o3.hi,by rw[hm j hjj];exact o3.hj⟩⟩,λσ4 H4 G4 ds4 es4 w4 o4=>⟨G4,ds4,es4,w4,o4⟩⟩
 .have e:n=xs.length:=by omega
  subst e
  refine .inl ⟨hJ.stop _ H2 sm (le_refl _),k σ2 H2 G2 ds2 es2 (hpost _ _ _ w2) ?_⟩
  obtain⟨ne,ex,old,sd,hi,hj⟩:=o2
  exact⟨ne,ex,oback.trans old,sd,hi,hj⟩
theorem PN{e1 e2:Expr}{ws1 ws2:List PyData}{pa pa' pb pb':Pos}(hN:X.N.Nodup)(hi:X.N[i]?=some x)(hj:X.N[j]?=some y)(hij:i≠j)(hx:Loc X.env.scope x)(hy:Loc X.env.scope y)(hGi:i<G.length)(hGj:j<G.length)(h1:EVF X G e1 ws1)(h2:EVF X (G.set i (some (.list ws1))) e2 ws2)(n1:noLs ws1=true)(n2:noLs ws2=true)
  (h:∀H0 p q,HR2s X H0 p i q j (λG' ds es=>G'=(G.set i none).set j none/\ds=ws1/\es=ws2) sts (λz=>z=d))
  (hs:swapsWith e1 (some (.Name x pa')) pa.line X.env=pure false:=by rfl)(hf:Zlo X x:=by first|exact .inl rfl|exact .inr rfl|assumption)
  (hs':swapsWith e2 (some (.Name y pb')) pb.line X.env=pure false:=by rfl)(hf':Zlo X y:=by first|exact .inl rfl|exact .inr rfl|assumption):
  SVs X G (.Assign [.Name x pa'] e1 pa::.Assign [.Name y pb'] e2 pb::sts) (.ret d):=by
 have hr:PSs X sts (λD σ H=>∃z:Hp×Addr×Addr,tHR2 X.K z.1 z.2.1 i z.2.2 j (λG' ds es=>G'=(G.set i none).set j none/\ds=ws1/\es=ws2) (λz=>z=d) D σ H):=λpins s σ H D I ⟨z,q⟩=>h z.1 z.2.1 z.2.2 pins s σ H D I q
 refine(Az (BL hN hi hx h1 hs hf) (Az (BL hN hj hy h2 hs' hf') hr)).imp λD σ H ⟨hσ,k⟩=>⟨hσ,λp us H1 hp s1 hl dv=>⟨(hσ.mono s1).set (.lst (SqL.of hl) dv),λq us2 H2 hq s2 hl2 dv2=>?_⟩⟩
 have hpq:p≠q:=λc=>by rw[<-c,hl]at hq;cases hq
 have hp2:H2 p=some (.lst us):=s2 _ _ hl
 have sb:Same H (base2 H2 p q):=λb o e=>by
  have b1:b≠p:=Av e hp
  have b2:b≠q:=λc=>by rw[c]at e;rw[s1 _ _ e]at hq;cases hq
  rw[CI b1 b2]
  exact s2 _ _ (s1 _ _ e)
 refine⟨(H,p,q),⟨_,ws1,ws2,⟨rfl,rfl,rfl⟩,⟨hpq,⟨us,us2,hp2,hl2,DVs.base2 hp2 hl2 hpq (dv.mono s2) n1,DVs.base2 hp2 hl2 hpq dv2 n2⟩,sb,⟨by simp[hσ.1],λm d e=>?_⟩,?_,?_⟩⟩,λd' v H' r s' dv'=>by subst r;exact k v H' s' dv'⟩
 .by_cases hmj:j=m
  .subst hmj
   rw[getElem?_set_self (by rw[length_set];exact hGj)]at e
   cases e
  .by_cases hmi:i=m
   .subst hmi
    rw[getElem?_set_ne hmj,getElem?_set_self hGi]at e
    cases e
   .rw[getElem?_set_ne hmj,getElem?_set_ne hmi]at e
    obtain⟨v,a1,a2⟩:=hσ.2 m d e
    exact⟨v,by rw[getElem?_set_ne hmj,getElem?_set_ne hmi];exact a1,a2.mono sb⟩
 .rw[getElem?_set_ne (symm hij),getElem?_set_self (by rw[hσ.1];exact hGi)]
 .rw[getElem?_set_self (by rw[length_set,hσ.1];exact hGj)]
end
variable{k1:Expr}{ws1 ws2:List PyData}
section
variable{Mid:Gam->List PyData->Prop}{f k2 v1 v2:Expr}{ws0:List PyData}
def UI(K:Frag)(xs:List PyData)(k:Int):R2:=λx y H Q=>DV K H x (.list xs)/\DV K H y (.int k)/\∀p us H',H p=none->Same H H'->H' p=some (.lst us)->DVs K H' us (replicate k.toNat xs).flatten->Q (.ref p) H'
theorem Sd{k:Int}(h1:-(2^63)<=k)(h2:k<2^63)(hz:xs.length*k.toNat<=sizeLine):OpR X (binaryOp .Mult) (UI X.K xs k):=by
 intro pins s σ H x y v u Q I rx ry ⟨d1,d2,q⟩
 obtain⟨l,us,rfl,hl,du⟩:=d1.of_lst
 cases d2.of_int
 cases rx
 obtain⟨t,rfl⟩:=ry
 obtain⟨its,r,pl,_⟩:=I.list hl
 obtain⟨⟨cls,dd,data,sl⟩,e,hc,n,hd⟩:=pl.isList
 simp only at hc hd
 subst hc hd
 have hus:us.length=xs.length:=du.length
 have hil:its.length=xs.length:=by rw[<-hus];exact r.length.symm
 have hlen:its.toArray.size*k.toNat<=sizeLine:=by rw[size_toArray,hil];exact hz
 have hcap:¬its.toArray.size*k.toNat>(2^63-1)/8:=by
  have:(sizeLine:Nat)<=(2^63-1)/8:=by decide
  omega
 have hfit:¬(!Builtin.List.listFitsIndex k)=true:=by
  rw[fitsIndex_both h1 h2]
  exact Bool.false_ne_true
 have hlong:¬Builtin.List.listTooLong (its.toArray.size*k.toNat)=true:=by
  rw[P_ hlen]
  exact Bool.false_ne_true
 have hnew:foldl (λx1 x2=>x1++x2) #[] (replicate (if its.toArray.isEmpty=true then 0 else k.toNat) its.toArray)=(replicate k.toNat its).flatten.toArray:=by
  have f0:∀m:Nat,foldl (λx1 x2=>x1++x2) #[] (replicate m its.toArray)=(replicate m its).flatten.toArray:=λm=>by
   have:=foldl_rep its m []
   rw[nil_append]at this
   exact this
  rw[f0]
  cases its with
  |nil=>simp
  |cons a r'=>rw[if_neg (by simp)]
 refine wpAny_binaryOp_repeat_ref (T:="list") (U:="int") (by decide) ⟨_,e,rfl⟩ (λs'=>typeIs_int s' k t) noFill_list_mul F.fills_int_mul F.slot_int_rmul repeat_list F.slot_int_index.lookup
  (call_meets F.slot_int_rmul (typeIs_int s k t) F.entry_int_rmul (F.args_int_rmul_2 _ _) (Vy k t l its.toArray n dd sl)
   ⟨e,rfl,⟨_,e,rfl⟩,call_meets F.slot_list_mul ⟨_,e,rfl⟩ F.entry_list_mul (F.args_list_mul_2 _ _) (mulW l its.toArray n dd sl k t hfit hcap hlong) ⟨e,?_⟩⟩)
 rw[hnew]
 have hf:=I.hok.fresh (le_refl _)
 exact⟨.ref _,_,I.lnew (t':=s.toks) (r.rep k.toNat) (by rw[len_rep,Nat.mul_comm,hus];exact hz),rfl,q _ _ _ hf (Same.new hf) Al ((du.rep k.toNat).mono (Same.new hf))⟩
theorem MU{k:Int}(ha:EV X G a (.list xs))(hb:EV X G b (.int k))(h1:-(2^63)<=k)(h2:k<2^63)(hz:xs.length*k.toNat<=sizeLine):EVF X G (.BinOp a .Mult b pos) (replicate k.toNat xs).flatten:=
 (SX (Sd h1 h2 hz) ha hb).imp λσ H Q ⟨h,k⟩=>IW h λx y H' s' d1 d2=>⟨d1,d2,λp us H2 hp s2 hl dv=>k p us H2 (s'.free hp) (s'.trans s2) hl dv⟩
end
section
open PySem
def Rise(xs:Array Nat):Prop:=xs.toList.Pairwise (· < ·)
def U7(b:Bool)(t:SetTable):Prop:=t.led=b/\Rise t.place
end
section
open PySem
structure SetG(prog:Program)(w:World)(h:Heap)(a:Addr)(S:Int->Bool)(n:Nat)(o:Obj)(es:Array (Int×Value))(ep:Nat)(t:SetTable):Prop where
 at_:h.get? a=some o
 ex:o.ExactSet
 dat:o.data=.set es ep t
 els:ElemsOf (intKind prog w) es.toList
 mem:∀k,S k=true↔∃e∈es.toList,(intKind prog w).is k e.2=true
 few:es.size<scanBound
 fit:t.fits es.size=true
 len:es.size=n
 tbl:U7 (!w.params.followText "set-order") t
section
variable{a:Addr}{S:Int->Bool}
end
end
abbrev metL(ns:List Int)(i:Nat):List Int:=firstMet (λi=>ns.getD i 0) i
def V4(h:Heap)(I a:Addr)(fst:Value)(i n ep:Nat):Prop:=∃o,h.get? I=some o/\o.cls=.type "set_iterator"/\o.data=.fields #[fst,.int i 0,.ref a,.int n 0,.int ep 0]
variable{ep:Nat}{t:SetTable}
section
variable{I a:Addr}{o:Obj}{es:Array (Int×Value)}{S:Int->Bool}{fst:Value}
end
section
variable{I a:Addr}{o:Obj}{es:Array (Int×Value)}{S:Int->Bool}
end
section
variable{a:Addr}{o:Obj}{es:Array (Int×Value)}{S:Int->Bool}
end
def insI(x:Int):List Int->List Int
 |[]=>[x]
 |a::r=>if x<a then x::a::r else if x=a then a::r else a::insI x r
def srtI(l:List Int):List Int:=l.foldr insI []
theorem HS:∀{l m:List Int},l.Nodup->(∀x∈l,x∈m)->m.length<=l.length->l.Perm m
 |[],m,_,_,h=>by
  have:m=[]:=List.eq_nil_of_length_eq_zero (by simpa using h)
  rw[this]
 |a::l,m,hn,hs,hl=>by
  obtain⟨h1,h2⟩:=nodup_cons.mp hn
  have ha:=hs a (mem_cons_self ..)
  have pe:=List.perm_cons_erase ha
  refine(List.Perm.cons a (HS h2 (λx hx=>?_) ?_)).trans pe.symm
  .have:=pe.mem_iff.mp (hs x (mem_cons_of_mem _ hx))
   rcases mem_cons.mp this with e|z
   .subst e;exact absurd hx h1
   .exact z
  .have:=pe.length_eq
   simp only[length_cons]at this hl
   omega
theorem GA(ns:List Int):∀i,(metL ns i).Nodup
 |0=>nodup_nil
 |i+1=>by
  rw[show metL ns (i+1)=step_dedup (metL ns i) (ns.getD i 0)from firstMet_succ _ i]
  unfold step_dedup
  split
  .exact GA ns i
  .rename_i h
   refine nodup_append.mpr ⟨GA ns i,by simp,λa ha b hb=>?_⟩
   rw[mem_singleton.mp hb]
   intro e
   subst e
   exact h (any_eq_true.mpr ⟨_,ha,by simp⟩)
theorem Cq{h:Heap}{a:Addr}{ns:List Int}{o:Obj}{es:Array (Int×Value)}(g:SetG prog w h a (λx=>(metL ns ns.length).any (·==x)) (metL ns ns.length).length o es ep t){L:List (Int×Value)}(pm:L.Perm es.toList):
  ∃ks,IntsAre (L.map (·.2)) ks/\ks.Perm (metL ns ns.length):=by
 have els:∀e∈L,∃k tk,e.2=Value.int k tk:=λe he=>by
  obtain⟨⟨k,hk,_⟩,_⟩:=g.els e (pm.mem_iff.mp he)
  obtain⟨tk,r⟩:=Value.isInt_shape (k:=k) (v:=e.2) hk
  exact⟨k,tk,r⟩
 have mk:∀(M:List (Int×Value)),(∀e∈M,∃k tk,e.2=Value.int k tk)->∃ks,IntsAre (M.map (·.2)) ks/\∀k,(∃e∈M,(intKind prog w).is k e.2=true)->k∈ks:=by
  intro M
  induction M with
  |nil=>exact λ_=>⟨[],.nil,λk ⟨e,he,_⟩=>by cases he⟩
  |cons e M ih=>
   intro hM
   obtain⟨ks,h1,h2⟩:=ih λe he=>hM e (mem_cons_of_mem _ he)
   obtain⟨k,tk,r⟩:=hM e (mem_cons_self ..)
   refine⟨k::ks,by rw[map_cons,r];exact .cons k tk h1,λk' ⟨e',he',q⟩=>?_⟩
   rcases mem_cons.mp he' with rfl|he'
   .rw[r]at q
    have:=(intKind prog w).inj (.int k tk) k' k q (intKind_is _ _ _ _)
    rw[this]
    exact mem_cons_self ..
   .exact mem_cons_of_mem _ (h2 k' ⟨e',he',q⟩)
 obtain⟨ks,h1,h2⟩:=mk L els
 refine⟨ks,h1,(HS (GA ns _) (λx hx=>h2 x ?_) ?_).symm⟩
 .obtain⟨e,he,q⟩:=(g.mem x).mp (any_eq_true.mpr ⟨x,hx,by simp⟩)
  exact⟨e,pm.mem_iff.mpr he,q⟩
 .rw[<-IntsAre.length h1,length_map,pm.length_eq,length_toList,g.len]
  exact le_refl _
section
variable{p:Pos}{l:List Int}
end
theorem Dv(h:EVF X G e ws):EV X G e (.list ws):=h.imp λσ H Q ⟨h,q⟩=>⟨h,λp us H' _ s' hl dv=>q _ _ s' (.lst (SqL.of hl) dv)⟩
theorem AC(ha:EV X G a (.list ds))(hg:Gl X "list")(hm:X.mg "list"=none)(he:starEach [a] X.env=(false,eval a X.env)::starEach [] X.env:=by rfl)(hpl:(backTo pos (starEach [] X.env)).any (·.1)=false:=by rfl):EVF X G (.Call (.Name "list" pos2) [a] [] pos) ds:=
 (Ja call_list_of hg hm (by decide+kernel) (Aa ha Ad he) (by decide) (by decide) he hpl).imp λσ H Q ⟨h,q⟩=>⟨h,λvs H1 s1 d1=>by
  obtain⟨v,rfl,dv⟩:=d1.one
  obtain⟨l,us,rfl,hl,d1⟩:=dv.of_lst
  exact⟨l,us,rfl,.inl hl,λp hp=>q p us _ (s1.free hp) (s1.trans (Same.new hp)) Al (d1.mono (Same.new hp))⟩⟩
structure OSh(K:Frag)(H0:Hp)(p t:Addr)(i:Nat)(G:Gam)(ds es:List PyData)(σ:St)(H:Hp):Prop where
 ne:p≠t
 ex:∃vs u,H p=some (.lst vs)/\H t=some (.lst [.ref p,u])/\DVs K (base2 H p t) vs ds/\DV K (base2 H p t) u (.list es)
 old:Same H0 (base2 H p t)
 sdb:SD K (base2 H p t) σ G
 hi:σ[i]?=some (some (.ref t))
abbrev V5(G:Gam)(i:Nat)(ds es:List PyData):Gam:=G.set i (some (.list [.list ds,.list es]))
section
variable{t:Addr}{es:List PyData}
end
section
variable{t:Addr}{m:Nat}{Pre Mid Post:P2}
end
variable{sl:Array (Option Value)}
section
variable{a:Addr}{its:Array Value}
end
section
variable{K:Type}[DecidableEq K]{knd:KeyKind prog w K}{I D:Addr}{fp wr:List Addr}{P:Nat->Value->Prop}{St:Nat->Shared->Prop}{R:Result->Shared->Prop}
end
section
variable{K:Type}[DecidableEq K]{knd:KeyKind prog w K}{l:Addr}{its:Array Value}
end
section
variable{p:Pos}{es:List (PyData×PyData)}
end
def pairD(q:Int×Int):PyData:=.tuple [.int q.1,.int q.2]
def getI(m:List (Int×Int))(a:Int):Int:=(m.lookup a).getD 0
variable{pins:List (Addr×Obj)}
section
variable{a:Addr}{xs:List V}
end
section
variable{p:Pos}{m:List (Int×Int)}
theorem L6:bootBuiltins "dict"=some (.type "dict"):=by decide+kernel
end
mutual
def kT:PyData->Bool
 | .int _=>true
 | .str x=>canLay0 (.str x)
 | .tuple xs=>kTs xs
 |_=>false
def kTs:List PyData->Bool
 |[]=>true
 |x::r=>kT x&&kTs r
end
mutual
def MF(w:World):PyData->Int
 | .int i=>hashInt i
 | .str x=>hashStr w x
 | .tuple xs=>reduceHash (tupleHashOf (BR w xs))
 |_=>0
def BR(w:World):List PyData->List Int
 |[]=>[]
 |x::r=>MF w x::BR w r
end
mutual
def ME:PyData->Nat
 | .tuple xs=>Du xs+1
 |_=>1
def Du:List PyData->Nat
 |[]=>0
 |x::r=>ME x+Du r
end
theorem EX(w:World):∀(xs ys:List PyData),BR w (xs++ys)=BR w xs++BR w ys
 |[],_=>by simp[BR]
 |x::xs,ys=>by simp[BR,EX w xs ys]
theorem EY:∀(xs ys:List PyData),Du (xs++ys)=Du xs+Du ys
 |[],_=>by simp[Du]
 |x::xs,ys=>by simp[Du,EY xs ys,add_assoc]
mutual
theorem JZ:∀{d:PyData},kT d=true->d.canLay0=true
 | .int _,_=>rfl
 | .str _,h=>by unfold kT at h;exact h
 | .tuple xs,h=>by unfold canLay0;exact MV (by unfold kT at h;exact h)
 | .none,h=>by simp[kT]at h
 | .bool _,h=>by simp[kT]at h
 | .list _,h=>by simp[kT]at h
 | .dict _,h=>by simp[kT]at h
theorem MV:∀{ds:List PyData},kTs ds=true->canLayAll0 ds=true
 |[],_=>rfl
 |x::r,h=>by
  unfold kTs at h
  rw[and_eq_true]at h
  unfold canLayAll0
  rw[JZ h.1,MV h.2]
  rfl
end
mutual
theorem Ro:∀(a b:PyData),kT a=true->kT b=true->(eqv a b=true↔a=b)
 | .int i,.int j,_,_=>by simp[eqv]
 | .str i,.str j,_,_=>by simp[eqv]
 | .int i,.str j,_,_=>by simp[eqv]
 | .str i,.int j,_,_=>by simp[eqv]
 | .int i,.tuple j,_,_=>by simp[eqv]
 | .str i,.tuple j,_,_=>by simp[eqv]
 | .tuple i,.int j,_,_=>by simp[eqv]
 | .tuple i,.str j,_,_=>by simp[eqv]
 | .tuple xs,.tuple ys,ha,hb=>by
   have:=Mx xs ys (by unfold kT at ha;exact ha) (by unfold kT at hb;exact hb)
   simp only[eqv,tuple.injEq]
   exact this
 | .none,_,h,_=>by simp[kT]at h
 | .bool _,_,h,_=>by simp[kT]at h
 | .list _,_,h,_=>by simp[kT]at h
 | .dict _,_,h,_=>by simp[kT]at h
 |_,.none,_,h=>by simp[kT]at h
 |_,.bool _,_,h=>by simp[kT]at h
 |_,.list _,_,h=>by simp[kT]at h
 |_,.dict _,_,h=>by simp[kT]at h
theorem Mx:∀(a b:List PyData),kTs a=true->kTs b=true->(eqvAll a b=true↔a=b)
 |[],[],_,_=>by simp[eqvAll]
 |[],_::_,_,_=>by simp[eqvAll]
 |_::_,[],_,_=>by simp[eqvAll]
 |x::xs,y::ys,ha,hb=>by
  unfold kTs at ha hb
  rw[and_eq_true]at ha hb
  have h1:=Ro x y ha.1 hb.1
  have h2:=Mx xs ys ha.2 hb.2
  simp only[eqvAll,and_eq_true,List.cons.injEq]
  rw[h1,h2]
end
theorem K3:∀x∈xs,x.depth<=depthAll xs:=by
 induction xs with
 |nil=>intro x hx;cases hx
 |cons y r ih=>
  intro x hx
  unfold depthAll
  rcases mem_cons.mp hx with rfl|hx
  .exact Nat.le_max_left _ _
  .exact le_trans (ih x hx) (Nat.le_max_right _ _)
def J6(prog:Program)(w:World)(d:PyData):Prop:=∀(A:Around) (E:Value->Shared->Prop) (s:Shared) (v:Value) (as:List Addr) (Q:Int->Shared->Prop),A.units+d.depth<cLine->Reads s.heap v d as->Q (MF w d) {s with toks:=s.toks+ME d}->wpAny (model prog w) A (pyHash v) Q E s
theorem Pl(hP:∀x∈xs,J6 prog w x):J6 prog w (.tuple xs):=by
 intro A E s v as Q hu hr h
 cases hr with
 | @tuple a o items n _ _ ho hc hd hi=>
 have hT:s.TypeIs (.ref a) "tuple":=⟨o,ho,hc⟩
 have hd1:depth (.tuple xs)=depthAll xs+1:=by first|rfl|simp[depth,add_comm]
 have hu0:A.units<cLine:=by omega
 unfold pyHash
 first|unfold pyHashByItsType|skip
 first|refine wpAny_bind (wpAny_cRoomFor_or (.inr hu0) ?_)|skip
 refine wpAny_bind (wpAny_specialOf hT F.slot_tuple_hash.lookup ?_)
 show wpAny _ _ (if(some (Value.builtin "tuple.__hash__")==some Value.none)=true then _ else _) Q E s
 rw[if_neg (by rw[beq_builtin_none];exact Bool.false_ne_true)]
 refine wpAny_bind (wpAny_specialOf hT F.slot_tuple_hash.lookup ?_)
 show wpAny _ _ (callSpecialIfBoundUnlessNone? (.ref a) "__hash__" _>>=_) Q E s
 refine wpAny_bind (wpAny_callSpecialIfBoundUnlessNone?_slot hT F.slot_tuple_hash (wpAny_call_entry F.slot_tuple_hash hT F.entry_tuple_hash ?_ (F.args_tuple_hash_1 _)))
 show wpAny _ _ (tupleItemsOf (.ref a)>>=_) _ _ s
 refine wpAny_bind (wpAny_tupleItemsOf ho hd ?_)
 refine wpAny_bind ?_
 rw[<-Array.forIn_toList]
 refine wpAny_forIn_list _
  (λrest (b:Array Int) s'=>∃done left bs,xs=done++left/\ReadsAll s.heap rest left bs/\b.toList=BR w done/\s'={s with toks:=s.toks+Du done})
  _ ?_ ?_ _ _ ⟨[],xs,_,rfl,hi,rfl,rfl⟩
 .rintro x rest b s' ⟨done,left,bs,rfl,hl,hb,rfl⟩
  cases hl with
  | @cons _ _ k ks' as1 bs1 h1 hl'=>
    have hdk:k.depth<=depthAll (done++k::ks'):=K3 k (by simp)
    refine wpAny_bind (hP k (by simp) _ _ _ _ as1 _ ?_ h1 ?_)
    .first
      |(show A.units+1+k.depth<cLine;omega)
      |(simp only[Around.units_in1];omega)
      |omega
    first
     |exact wpAny_pure ⟨done++[k],ks',bs1,by simp,hl',by simp[hb,EX,BR],by simp[EY,Du,add_assoc]⟩
     |exact wpAny_bind (wpAny_pure (wpAny_pure ⟨done++[k],ks',bs1,by simp,hl',by simp[hb,EX,BR],by simp[EY,Du,add_assoc]⟩))
 .rintro b s' ⟨done,left,bs,rfl,hl,hb,rfl⟩
  cases hl
  rw[append_nil]at h
  show wpAny _ _ (retInt (tupleHashOf b.toList)) _ _ _
  rw[hb]
  refine wpAny_ret_mkInt ?_
  show wpAny _ _ (if(decide (-(2:Int)^63<=tupleHashOf (BR w done))&&decide (tupleHashOf (BR w done)<2^63))=true then _ else _) Q E _
  unfold MF reduceHash ME at h
  by_cases hr:(decide (-(2:Int)^63<=tupleHashOf (BR w done))&&decide (tupleHashOf (BR w done)<2^63))=true
  .rw[if_pos hr]
   rw[if_pos hr]at h
   exact wpAny_pure (by simpa[add_assoc]using h)
  .rw[if_neg hr]
   rw[if_neg hr]at h
   exact wpAny_bind (wpAny_rule (wpAny_pure (by simpa[add_assoc]using h)))
mutual
theorem NQ:∀(d:PyData),kT d=true->J6 prog w d
 | .int i,_=>λA E s v as Q _ hr h=>by
   cases hr
   exact wpAny_pyHash_int h
 | .str x,_=>λA E s v as Q _ hr h=>by
   cases hr
   exact wpAny_pyHash_str h
 | .tuple xs,h=>Pl (Lm xs (by unfold kT at h;exact h))
 | .none,h=>by simp[kT]at h
 | .bool _,h=>by simp[kT]at h
 | .list _,h=>by simp[kT]at h
 | .dict _,h=>by simp[kT]at h
theorem Lm:∀(xs:List PyData),kTs xs=true->∀x∈xs,J6 prog w x
 |[],_,x,hx=>by cases hx
 |y::r,h,x,hx=>by
  have h':kT y=true/\kTs r=true:=by unfold kTs at h;rwa[and_eq_true]at h
  have h1:=NQ y h'.1
  have h2:=Lm r h'.2
  rcases mem_cons.mp hx with e|hx
  .rw[e];exact h1
  .exact h2 x hx
end
def GZ(prog:Program)(w:World)(d:PyData):Prop:=∀(n:Nat) (A:Around) (E:Value->Shared->Prop) (s:Shared) (v:Value) (as:List Addr) (Q:Bool->Shared->Prop),d.depth<=n->Reads s.heap v d as->Q true s->wpAny (model prog w) A (eqIsQuiet n v) Q E s
theorem NY(hP:∀x∈xs,GZ prog w x):GZ prog w (.tuple xs):=by
 intro n A E s v as Q hn hr h
 cases hr with
 | @tuple a o items n0 _ _ ho hc hd hi=>
 have hT:s.TypeIs (.ref a) "tuple":=⟨o,ho,hc⟩
 have hd1:depth (.tuple xs)=depthAll xs+1:=by first|rfl|simp[depth,add_comm]
 cases n with
 |zero=>omega
 |succ n=>
 unfold eqIsQuiet
 refine wpAny_bind (wpAny_specialOf hT F.slot_tuple_eq.lookup ?_)
 show wpAny _ _ (isInstance (.ref a) (.type "tuple")>>=_) _ _ s
 refine wpAny_bind (wpAny_isInstance hT isSubtype_tuple_tuple ?_)
 simp only[Bool.not_true,false_eq_true,if_false]
 refine wpAny_bind (wpAny_seqItems ho hd ?_)
 refine wpAny_bind ?_
 show wpAny _ _ (forIn items _ _) _ _ s
 rw[<-Array.forIn_toList]
 refine wpAny_forIn_list _ (λrest r s'=>r.1=none/\s'=s/\∃left bs,ReadsAll s.heap rest left bs/\∀x∈left,x∈xs) _ ?_ ?_ _ _ ⟨rfl,rfl,xs,_,hi,λx hx=>hx⟩
 .rintro v rest r s' ⟨hr,rfl,left,bs,hl,hm⟩
  cases hl with
  | @cons _ _ k ks' as1 bs1 h1 hl'=>
    have hk:k∈xs:=hm k mem_cons_self
    have hdk:k.depth<=depthAll xs:=K3 k hk
    refine wpAny_bind (hP k hk n _ _ _ _ as1 _ (by omega) h1 ?_)
    simp only[Bool.not_true,false_eq_true,if_false]
    exact wpAny_pure ⟨rfl,rfl,ks',bs1,hl',λx hx=>hm x (mem_cons_of_mem _ hx)⟩
 .rintro⟨r1,r2⟩ s' ⟨hr,rfl,_⟩
  simp only at hr
  subst hr
  exact wpAny_pure h
mutual
theorem Kn:∀(d:PyData),kT d=true->GZ prog w d
 | .int i,_=>λn A E s v as Q _ hr h=>by
   cases hr
   rw[eqIsQuiet_byValue _ rfl]
   exact wpAny_pure h
 | .str x,_=>λn A E s v as Q _ hr h=>by
   cases hr
   rw[eqIsQuiet_byValue _ rfl]
   exact wpAny_pure h
 | .tuple xs,h=>NY (Jh xs (by unfold kT at h;exact h))
 | .none,h=>by simp[kT]at h
 | .bool _,h=>by simp[kT]at h
 | .list _,h=>by simp[kT]at h
 | .dict _,h=>by simp[kT]at h
theorem Jh:∀(xs:List PyData),kTs xs=true->∀x∈xs,GZ prog w x
 |[],_,x,hx=>by cases hx
 |y::r,h,x,hx=>by
  have h':kT y=true/\kTs r=true:=by unfold kTs at h;rwa[and_eq_true]at h
  have h1:=Kn y h'.1
  have h2:=Jh r h'.2
  rcases mem_cons.mp hx with e|hx
  .rw[e];exact h1
  .exact h2 x hx
end
mutual
theorem Jk{h h':Heap}{d:Addr}{o:Obj}{es ep}(ho:h.get? d=some o)(hd:o.data=.dict es ep)(hs:SameBut d h h'):∀(k:PyData) (v:Value) (as:List Addr),kT k=true->Reads h v k as->Reads h' v k as
 | .int i,v,as,_,r=>by cases r;exact .int i _
 | .str i,v,as,_,r=>by cases r;exact .str i _
 | .tuple xs,v,as,hk,r=>by
   cases r with
   | @tuple a ob items n _ _ h1 h2 h3 h4=>
     have hne:a≠d:=λe=>by
      subst e
      rw[ho]at h1
      cases h1
      rw[hd]at h3
      cases h3
     exact .tuple ((hs.2 a hne).trans h1) h2 h3 (FJ ho hd hs xs _ _ (by unfold kT at hk;exact hk) h4)
 | .none,_,_,h,_=>by simp[kT]at h
 | .bool _,_,_,h,_=>by simp[kT]at h
 | .list _,_,_,h,_=>by simp[kT]at h
 | .dict _,_,_,h,_=>by simp[kT]at h
theorem FJ{h h':Heap}{d:Addr}{o:Obj}{es ep}(ho:h.get? d=some o)(hd:o.data=.dict es ep)(hs:SameBut d h h'):∀(k:List PyData) (v:List Value) (as:List Addr),kTs k=true->ReadsAll h v k as->ReadsAll h' v k as
 |[],v,as,_,r=>by cases r;exact .nil
 |x::xs,v,as,hk,r=>by
  have hk':kT x=true/\kTs xs=true:=by unfold kTs at hk;rwa[and_eq_true]at hk
  cases r with
  |cons h1 h2=>exact .cons (Jk ho hd hs x _ _ hk'.1 h1) (FJ ho hd hs xs _ _ hk'.2 h2)
end
noncomputable instance decD:DecidableEq PyData:=λa b=>Classical.propDecidable (a=b)
def keyT(d:PyData):Prop:=kT d=true/\d.depth<=8
noncomputable def QH (prog:Program) (w:World):HeapKind prog w PyData where
 is:=λh d a=>keyT d/\∃as,Reads h (.ref a) d as
 hash:=MF w
 draws:=ME
 room:=λA=>A.units+16<cLine
 inj:=λ{h a x y} ⟨hx,as,rx⟩ ⟨_,bs,ry⟩=>PySem.SeqAt.Reads.unique x y (.ref a) as bs (JZ hx.1) rx ry
 keeps:=λ{h h' k a d o es ep} ⟨hk,as,r⟩ ho hd hs=>⟨hk,as,Jk ho hd hs k _ as hk.1 r⟩
 pyHash:=λ{A E s k a Q} hu ⟨hk,as,r⟩ h=>NQ k hk.1 A E s _ as Q (by have:=hk.2;have hu:A.units+16<cLine:=hu;omega) r h
 eqBool:=λ{A E s x y a b Q} hu ⟨hx,as,rx⟩ ⟨hy,bs,ry⟩ h=>PySem.SeqAt.eqBoolOverData prog w A E s _ _ x y as bs Q rx ry (JZ hx.1) (JZ hy.1) (by have:=hx.2;have hu:A.units+16<cLine:=hu;omega) (by
  have e:eqv x y=decide (x=y):=by
   rw[Bool.eq_iff_iff,Ro x y hx.1 hy.1,decide_eq_true_iff]
  rw[e]
  exact h)
 quiet:=λ{A E s k a Q} ⟨hk,as,r⟩ h=>Kn k hk.1 8 A E s _ as Q hk.2 r h
def lef(L:List Addr)(H:Hp):Hp:=λb=>if b∈L then none else H b
theorem A9{L:List Addr}{b:Addr}(h:b∈L):lef L H b=none:=by unfold lef;rw[if_pos h]
theorem Ao{L:List Addr}{b:Addr}(h:b∉L):lef L H b=H b:=by unfold lef;rw[if_neg h]
theorem lef_same{L:List Addr}:Same (lef L H) H:=λb o e=>by
 by_cases h:b∈L
 .rw[A9 h]at e;cases e
 .rw[Ao h]at e;exact e
theorem Same.lef{L:List Addr}(s:Same H H'):Same (L2.lef L H) (L2.lef L H'):=λb o e=>by
 by_cases h:b∈L
 .rw[A9 h]at e;cases e
 .rw[Ao h]at e ⊢;exact s b o e
theorem FY{L M:List Addr}(h:∀b∈L,b∈M):Same (lef M H) (lef L H):=λb o e=>by
 by_cases hb:b∈M
 .rw[A9 hb]at e;cases e
 .rw[Ao hb]at e
  rw[Ao λz=>hb (h b z)]
  exact e
mutual
theorem DV.lef{K:PySem.W.Frag}{H:Hp}{L:List Addr}(hp:∀b∈L,∀xs,¬Rd H b (.tup xs)):∀{v:V}{d:PyData},DV K H v d->noL d=true->DV K (L2.lef L H) v d
 |_,_,.non,_=>.non
 |_,_,.bl b,_=>.bl b
 |_,_,.int i,_=>.int i
 |_,_,.str x,_=>.str x
 |_,_,.tup (a:=a) h t,f=>by
  refine .tup ?_ (DVs.lef hp t (by unfold noL at f;exact f))
  rcases h with h|h
  .have hn:a∉L:=λz=>hp a z _ h
   refine .inl ?_
   rcases h with h|⟨o,h⟩
   .exact .inl (by rw[Ao hn];exact h)
   .exact .inr ⟨o,by rw[Ao hn];exact h⟩
  .exact .inr h
 |_,_,.lst h t,f=>by unfold noL at f;cases f
 |_,_,.dct h t,f=>by unfold noL at f;cases f
 |_,_,.exc h,f=>by unfold noL at f;cases f
 |_,_,.exr h h',f=>by unfold noL at f;cases f
 |_,_,.obj h n t,f=>by unfold noL at f;cases f
 |_,_,.dtt h,f=>by unfold noL at f;cases f
theorem DVs.lef{K:PySem.W.Frag}{H:Hp}{L:List Addr}(hp:∀b∈L,∀xs,¬Rd H b (.tup xs)):∀{vs:List V}{ds:List PyData},DVs K H vs ds->noLs ds=true->DVs K (L2.lef L H) vs ds
 |_,_,.nil,_=>.nil
 |_,_,.cons h t,f=>by
  unfold noLs at f
  rw[Bool.and_eq_true]at f
  exact .cons (DV.lef hp h f.1) (DVs.lef hp t f.2)
end
mutual
theorem TF:∀{d:PyData},kT d=true->noL d=true
 | .int _,_=>rfl
 | .str _,_=>rfl
 | .tuple xs,h=>by unfold noL;exact MG (by unfold kT at h;exact h)
 | .none,h=>by simp[kT]at h
 | .bool _,h=>by simp[kT]at h
 | .list _,h=>by simp[kT]at h
 | .dict _,h=>by simp[kT]at h
theorem MG:∀{ds:List PyData},kTs ds=true->noLs ds=true
 |[],_=>rfl
 |x::r,h=>by
  unfold kTs at h
  rw[and_eq_true]at h
  unfold noLs
  rw[TF h.1,MG h.2]
  rfl
end
def SS(P:Program)(w:World)(da:Addr)(xs:List (PyData×Addr×Value))(h:Heap):Prop:=
 (da==sysModules)=false/\xs.length<=sizeLine/\∃o es ep,h.get? da=some o/\o.ExactDict/\o.data=.dict es ep/\es.toList=xs.map (entryOfKey (QH P w))/\(xs.map (·.1)).Nodup
section
variable{da b:Addr}{xs:List (PyData×Addr×Value)}
end
structure Reg where
 C:Addr
 a:Addr
 dx:Addr
 la:Addr
 da:Addr
abbrev Reg.L(R:Reg):List Addr:=[R.a,R.la,R.da]
def TK(K:Frag)(H:Hp)(T:List PyData)(xs:List (PyData×Addr×Value)):Prop:=
 xs.map (·.1)=T/\(∀x∈xs,DV K H (.ref x.2.1) x.1)/\∀(j:Nat) x,xs[j]?=some x->∃t,x.2.2=.int (j:Int) t
structure TabS(P:Program)(w:World)(K:Frag)(R:Reg)(T:List PyData)(Hb H:Hp)(fs:List (Str×V))(vs:List V)(xs:List (PyData×Addr×Value)):Prop where
 obj:H R.a=some (.ins R.C R.dx fs)
 f1:fs.lookup ("atoms":Str)=some (.ref R.la)
 f2:fs.lookup ("numbers":Str)=some (.ref R.da)
 fn:∀m:Str,m≠"atoms"->m≠"numbers"->fs.lookup m=none
 lst:H R.la=some (.lst vs)
 num:H R.da=some (.ext (SS P w R.da xs))
 atoms:DVs K Hb vs T
 ents:TK K Hb T xs
 keys:∀d∈T,keyT d
 few:T.length<1000
def Tb(P:Program)(w:World)(K:Frag)(R:Reg)(T:List PyData)(H:Hp):Prop:=∃fs vs xs,TabS P w K R T (lef R.L H) H fs vs xs
def RS(P:Program)(w:World)(K:Frag)(R:Reg)(G:Gam)(T:List PyData)(σ:St)(H:Hp):Prop:=σ[0]?=some (some (.ref R.a))/\Tb P w K R T H/\SD K (lef R.L H) σ G
variable{T:List PyData}
section
variable{R:Reg}
end
def tTR(P:Program)(w:World)(K:Frag)(R:Reg)(G:Gam)(T:List PyData)(d:PyData)(T':List PyData):TS:=λD σ H=>RS P w K R G T σ H/\∀v H',Tb P w K R T' H'->Same (lef R.L H) (lef R.L H')->DV K (lef R.L H') v d->D.rt v H'
variable{G1:Gam}{T1 T2:List PyData}
section
variable{R:Reg}{k:Bool}
end
structure ClsT(K:Frag)(C:Addr):Prop where
 cl:Cls K C
 n1:NoAttr K C "atoms"
 n2:NoAttr K C "numbers"
variable{m:Str}
section
variable{R:Reg}{k:Bool}
end
theorem Bq{L:List Addr}{o:HO}(h:p∈L):lef L (upd H p o)=lef L H:=by
 funext b
 by_cases hb:b∈L
 .rw[A9 hb,A9 hb]
 .rw[Ao hb,Ao hb,Aj λz=>hb (by rw[z];exact h)]
variable{pos4 p3 p4 p5 p6 p7:Pos}
section
variable{R:Reg}{pos5:Pos}
def Mid(P:Program)(w:World)(K:Frag)(R:Reg)(G:Gam)(T:List PyData)(d:PyData)(σ:St)(H0 H:Hp):Prop:=
 σ[0]?=some (some (.ref R.a))/\SD K (lef R.L H0) σ G/\∃fs vs xs b t,TabS P w K R T (lef R.L H0) H0 fs vs xs/\DV K (lef R.L H0) (.ref b) d/\H=upd H0 R.da (.ext (SS P w R.da (xs++[(d,b,.int T.length t)])))
end
def spT(P:Program)(w:World)(K:Frag)(C:Addr)(F:List PyData->List PyData->PyData->List PyData->Prop):Sp:=λvs H Q _=>∃(R:Reg) (T ds:List PyData) (d:PyData) (T':List PyData) (vr:List V),R.C=C/\vs=.ref R.a::vr/\Tb P w K R T H/\DVs K (lef R.L H) vr ds/\F T ds d T'/\
 ∀v H',Tb P w K R T' H'->Same (lef R.L H) (lef R.L H')->DV K (lef R.L H') v d->Q v H'
theorem SD.cons0(h:SD K H σ G)(o:Option V):SD K H (o::σ) (none::G):=⟨by simp[h.1],λi d e=>by
 cases i with
 |zero=>simp at e
 |succ i=>
  simp at e
  obtain⟨v,h1,h2⟩:=h.2 i d e
  exact⟨v,by simpa using h1,h2⟩⟩
theorem Bp(n:Str)(N:List Str)(v:V)(vs:List V):start (n::N) (v::vs)=some v::start N vs:=by
 unfold start
 simp
section
variable{R:Reg}{k:Nat}
end
abbrev Tm:=Int×List (Int×Int)
open PySem PySem.Spec PyProof.Rows in
abbrev kys(m:List (Int×Int)):List Int:=m.map (·.1)
def made(w:Int)(m:List (Int×Int)):Tm:=(w%4096,((srtI (kys m)).filter λa=>!decide (getI m a%4096=0)).map λa=>(a,getI m a%4096))
def okA(a:Int):Prop:=0<=a/\a<63
structure Wf(t:Tm):Prop where
 n:0<=t.1/\t.1<4096
 rise:(kys t.2).Pairwise (· < ·)
 at_:∀a∈kys t.2,okA a
 many:∀q∈t.2,0<q.2/\q.2<4096
section
variable{t u v:Tm}{k n:Int}
end
def LtOk(x y:PyData)(k:Bool):Prop:=∀(prog:Program) (w:World) (A:Around) (E:Value->Shared->Prop) (s:Shared) (u v:Value) (as bs:List Addr) (Q:Value->Shared->Prop),Reads s.heap u x as->Reads s.heap v y bs->A.units+min x.depth y.depth<cLine->Q (.bool k) s->wpAny (model prog w) A (richCompare .Lt u v) Q E s
section
variable{f:Expr}{m:List (Int×Int)}
end
section
variable{Pre Post:Gam->List (PyData×PyData)->Prop}
end
section
variable{R:Reg}{k:Nat}
structure OT(P:Program)(w:World)(K:Frag)(R:Reg)(H0:Hp)(p:Addr)(T ws:List PyData)(σ:St)(H:Hp):Prop where
 len:σ.length=2
 s0:σ[0]?=some (some (.ref R.a))
 s1:σ[1]?=some (some (.ref p))
 off:p∉R.L
 lst:∃us,H p=some (.lst us)/\DVs K (lef (p::R.L) H) us ws
 tab:∃fs vs xs,TabS P w K R T (lef (p::R.L) H) H fs vs xs
 same:Same (lef R.L H0) (lef (p::R.L) H)
end
def MFn(P:Program)(w:World)(K:Frag)(mg:Str->Option Value)(base:Heap)(k:Nat)(C:Addr)(m:Str)(F:List PyData->PyData->Prop):Prop:=
 ∃f fd ps,FnOk P w K mg base CX0 k f fd ps (spD K F)/\Meth K C m f/\Binds K fd ps []
theorem Fun.dataM{qual:Str}{st:Stmt}{f:Addr}{fd:FuncData}{ps:List Str}{k:Nat}{C:Addr}{F:List PyData->PyData->Prop}(F0:Fun K x qual st f fd)(hm:Meth K C m f)(hb:Binds K fd ps [])(S:FnScope N ps (Ae st))(len:∀ds d,F ds d->ds.length=ps.length)
  (hbody:∀(cdv:Value) (A:Around) (outer:List Env) (s:Shared) (H:Hp) (E:XK) (ds:List PyData) (d:PyData),Room k (A.deeper (envOfC qual (Ae st) s.heap.objs.size f cdv))->F ds d->
   SVs (cxOf CX0 P w K mg base N qual (Ae st) f cdv A outer s H E).nox (Bh N ds) (AN st) (.ret d)):MFn P w K mg base (k+1) C m F:=
 ⟨f,fd,ps,F0.ok S (λvs H Q E ⟨ds,d,h1,h2,_⟩=>h1.length.trans (len ds d h2)) (λcdv A outer s H vs Q E hr ⟨ds,d,h1,h2,q⟩=>⟨_,hbody cdv A outer s H E ds d hr h2,SD.start h1,q⟩),hm,hb⟩
variable{C:Addr}{k2:Nat}{fls:List (PyData×PyData)}{p8 p9:Pos}{xt:Str}
section
variable{k:Nat}{xa xf:Str}
theorem BF{F:List PyData->PyData->Prop}{pl:Sem Bool}(cl:Cls X.K C)(D:MFn X.prog X.w X.K X.mg X.base k C m F)(hr:Room k X.A)(hv:EV X G (.Name x pos2) (objD C fls))(ha:AV X G (e::es) ds)(hF:F (objD C fls::ds) d)(h1:m∉Bk:=by decide)
  (hst:Zst X e es:=by rfl)(hpl:(backTo pos (starEach es X.env)).any (·.1)=false:=by rfl)
  (ht:eval (.Call (.Attribute (.Name x pos2) m apos) (e::es) [] pos) X.env=(do
   let ov <-eval (.Name x pos2) X.env
   standAt apos.atName
   let(f,first) <-holding [ov] (getMethod ov m pl)
   callWith pos f first (backTo pos (starEach (e::es) X.env)) (backToKw pos (keywordEach [] X.env))):=by rfl):
  EV X G (.Call (.Attribute (.Name x pos2) m apos) (e::es) [] pos) d:=by
 obtain⟨f,fd,ps,ok,hm,hb⟩:=D
 refine(Hh (E:=E0) (dvs:=[]) (ds:=[]) hv cl hm ok hr hb .nil Cs ha hst hpl ht).imp λσ H Q ⟨h,q⟩=>⟨h,λv H1 s1 d1=>?_⟩
 obtain⟨a,dx,fs,rfl,ho,hf,hn⟩:=d1.of_objN
 refine⟨a,dx,fs,rfl,ho,hn m h1,h.mono s1,λvs H2 s2 dvs=>?_⟩
 show spD X.K F (V.ref a::(vs++[])) H2 Q E0
 rw[append_nil]
 exact⟨_,d,.cons (d1.mono s2) dvs,hF,λv H3 s3 d3=>q v H3 ((s1.trans s2).trans s3) d3⟩
theorem AG{F:List PyData->PyData->Prop}{pl:Sem Bool}(cl:Cls X.K C)(D:MFn X.prog X.w X.K X.mg X.base k C m F)(hr:Room k X.A)(hv:EV X G (.Name x pos2) (objD C fls))(hF:F [objD C fls] d)(h1:m∉Bk:=by decide)
  (ht:eval (.Call (.Attribute (.Name x pos2) m apos) [] [] pos) X.env=(do
   let ov <-eval (.Name x pos2) X.env
   standAt apos.atName
   let(f,first) <-holding [ov] (getMethod ov m pl)
   callWith pos f first (backTo pos (starEach [] X.env)) (backToKw pos (keywordEach [] X.env))):=by rfl):
  EV X G (.Call (.Attribute (.Name x pos2) m apos) [] [] pos) d:=by
 obtain⟨f,fd,ps,ok,hm,hb⟩:=D
 refine(FS (E:=E0) (dvs:=[]) (ds:=[]) hv cl hm ok hr hb .nil Cs ht).imp λσ H Q ⟨h,q⟩=>⟨h,λv H1 s1 d1=>?_⟩
 obtain⟨a,dx,fs,rfl,ho,hf,hn⟩:=d1.of_objN
 refine⟨a,dx,fs,rfl,ho,hn m h1,?_⟩
 show spD X.K F (V.ref a::([]++[])) H1 Q E0
 exact⟨_,d,.cons d1 .nil,hF,λv H3 s3 d3=>q v H3 (s1.trans s3) d3⟩
theorem A6(cl:Cls X.K C)(hn:NoAttr X.K C f)(hv:EV X G (.Name x pos2) (objD C fls))(hf:(.str f,d)∈fls)(hb:attributeBase (.Name x pos2) f X.env (eval (.Name x pos2) X.env)=eval (.Name x pos2) X.env:=by rfl):EV X G (.Attribute (.Name x pos2) f pos) d:=
 (L4 hv hb).imp λσ H Q ⟨h,q⟩=>⟨h,λv H1 s1 d1=>by
  obtain⟨a,dx,fs,rfl,ho,hfl,_⟩:=d1.of_objN
  obtain⟨u,e,du⟩:=hfl.get hf
  exact⟨a,C,dx,fs,u,rfl,ho,cl,hn,e,q u H1 s1 du⟩⟩
end
theorem IO{it t:Addr}{items:Array Value}(hne:t≠it):∀(n i:Nat) (s:Shared) (Q:List Value->Shared->Prop),s.heap.IsListIter it t i->s.heap.IsList t items->i+n<=items.size->
  (∀h',h'.IsListIter it t (i+n)->SameBut it s.heap h'->Q ((items.toList.drop i).take n) {s with heap:=h'})->wpAny (model prog w) A (draw (.ref it) n) Q E s
 |0,i,s,Q,hit,_,_,hQ=>by
  show wpAny _ _ (pure []) Q E s
  exact wpAny_pure (by simpa using hQ s.heap hit (Heap.SameBut.refl ..))
 |n+1,i,s,Q,hit,ht,hle,hQ=>by
  have hlt:i<items.size:=by omega
  show wpAny _ _ (pyNext (.ref it)>>=_) Q E s
  refine wpAny_bind (wpAny_pyNext_list_item hit ht (x:=items[i]) (by simp[hlt]) λh₁ hit₁ hs₁=>?_)
  refine wpAny_bind (wpAny_holding (IO hne n (i+1) _ _ hit₁ (ht.extBut hs₁.extBut hne) (by omega) λh₂ hit₂ hs₂=>wpAny_pure ?_))
  have hd:items.toList.drop i=items[i]::items.toList.drop (i+1):=by simp[List.drop_eq_getElem_cons,hlt]
  have:=hQ h₂ (by rw[show i+(n+1)=i+1+n by omega];exact hit₂) (hs₁.trans hs₂)
  rw[hd,List.take_succ_cons]at this
  exact this
theorem G9{t:Addr}{items:Array Value}{Q:List Value->Shared->Prop}(hh:A.handled=none)(ht:s.heap.IsList t items)
  (hQ:∀h',ExtBut s.heap.objs.size s.heap h'->Q items.toList {s with heap:=h'}):wpAny (model prog w) A (unpackItems (.ref t) items.size none) Q E s:=by
 have hlt:t≠s.heap.objs.size:=by obtain⟨o,ho,_⟩:=ht;exact ne_of_lt (lt_size ho)
 unfold unpackItems
 refine wpAny_bind ?_
 .unfold notIterableAtAll
  refine wpAny_bind (wpAny_specialOf ht.typeIs PySem.F.slot_list_iter.lookup ?_)
  refine wpAny_pure ?_
  simp only[false_eq_true,if_false]
  refine wpAny_bind (wpAny_holding (wpAny_pyIter_list ht ?_))
  refine wpAny_bind (wpAny_holding (IO hlt items.size 0 _ _ ⟨_,get?_push_size _ rfl,rfl,rfl⟩ (ht.push _) (by omega) λh₁ hit₁ hs₁=>?_))
  have hall:List.take items.size (List.drop 0 items.toList)=items.toList:=by
   rw[List.drop_zero];exact take_of_length_le (by simp)
  rw[hall]
  rw[if_neg (by simp)]
  have ht₁:h₁.IsList t items:=(ht.push _).extBut hs₁.extBut hlt
  refine wpAny_bind (wpAny_holding (wpAny_pyNext_list_end hh hit₁ ht₁ (by simp) λh₂ he₂=>?_))
  simp only[Option.isSome_none,false_eq_true,if_false]
  refine wpAny_pure (hQ h₂ λb o hb e=>he₂ b o hb (hs₁.extBut b o hb (get?_push_of_some _ e)))
theorem Ft{env:Env}{elts:List Expr}{x1}{t:Addr}{items:Array Value}{Q:Unit->Shared->Prop}(hh:A.handled=none)(ht:s.heap.IsList t items)
  (hn:(assignEach elts env).length=items.size)(hstar:(assignEach elts env).findIdx? (·.1)=none)
  (h:∀h',ExtBut s.heap.objs.size s.heap h'->wpAny (model prog w) A (assignInOrder ((assignEach elts env).map (·.2)) items.toList) Q E {s with heap:=h'}):
  wpAny (model prog w) A (assign (.Tuple elts x1 pos) env (.ref t)) Q E s:=by
 rw[assign_Tuple]
 refine wpAny_bind (wpAny_standAt ?_)
 unfold unpack
 rw[hn,hstar]
 exact wpAny_bind (wpAny_holding (G9 hh ht h))
def gLst(K:Frag)(n:Nat)(t:TGs):TG:=λv σ H Q=>∃a xs,v=.ref a/\SqL K H a xs/\xs.length=n/\t xs σ H Q
theorem Tl{k:Nat}{t:TGs}(hc:X.calm=true)(h:PGs X es t)
  (hn:(assignEach es X.env).length=n:=by rfl)(hst:(assignEach es X.env).findIdx? (·.1)=none:=by rfl):PG X (.Tuple es k pos) (gLst X.K n t):=by
 intro pins s σ H v u Q I r hw
 obtain⟨a,xs,e1,hq,hl,hw⟩:=hw
 subst e1
 cases r
 obtain⟨its,rv,pl,hz⟩:=I.list hq
 refine Ft (items:=its.toArray) (I.ok.hd hc) pl.isList (by simp[hn,<-hl,rv.length]) hst λh' hx=>?_
 have I1:Inv X pins σ H {s with heap:=h'}:=I.kept (t':=s.toks) λb o e=>hx b o (ne_of_lt (lt_size e)) e
 exact h pins _ σ H xs _ Q I1 (by simpa using rv) hw
def bindL(is:List Nat)(d:PyData)(G:Gam):Gam:=match d with
 | .list ds=>GB is ds G
 |_=>G
structure ZOk(L:List Addr)(I:Hp->Prop):Prop where
 step:∀{H H':Hp},I H->Same H H'->I H'
 notup:∀{H:Hp},I H->∀b∈L,∀xs,¬Rd H b (.tup xs)
 free:∀{H:Hp}{p:Addr},I H->H p=none->p∉L
def RZ(K:Frag)(L:List Addr)(I:Hp->Prop)(rs:List (Nat×Addr))(G:Gam)(σ:St)(H:Hp):Prop:=(∀q∈rs,σ[q.1]?=some (some (.ref q.2)))/\I H/\SD K (lef L H) σ G
def zE(K:Frag)(L:List Addr)(I:Hp->Prop)(rs:List (Nat×Addr))(G:Gam)(d:PyData)(I':Hp->Prop):TE:=λσ H Q=>RZ K L I rs G σ H/\∀v H',I' H'->Same (lef L H) (lef L H')->DV K (lef L H') v d->Q v H'
abbrev ZE(X:Cx)(L:List Addr)(I:Hp->Prop)(rs:List (Nat×Addr))(G:Gam)(e:Expr)(d:PyData)(I':Hp->Prop):Prop:=PE X e (zE X.K L I rs G d I')
def zT(K:Frag)(L:List Addr)(I:Hp->Prop)(rs:List (Nat×Addr))(G:Gam)(k:Bool):TT:=λσ H Q=>RZ K L I rs G σ H/\∀H',RZ K L I rs G σ H'->Same (lef L H) (lef L H')->Q k H'
abbrev ZT(X:Cx)(L:List Addr)(I:Hp->Prop)(rs:List (Nat×Addr))(G:Gam)(e:Expr)(k:Bool):Prop:=PT X e (zT X.K L I rs G k)
def zA(K:Frag)(L:List Addr)(I:Hp->Prop)(rs:List (Nat×Addr))(G:Gam)(ds:List PyData)(I':Hp->Prop):TA:=λσ H Q=>RZ K L I rs G σ H/\∀vs H',I' H'->Same (lef L H) (lef L H')->DVs K (lef L H') vs ds->Q vs H'
abbrev ZA(X:Cx)(L:List Addr)(I:Hp->Prop)(rs:List (Nat×Addr))(G:Gam)(es:List Expr)(ds:List PyData)(I':Hp->Prop):Prop:=PA X es (zA X.K L I rs G ds I')
def zN(K:Frag)(L:List Addr)(I:Hp->Prop)(rs:List (Nat×Addr))(G G':Gam)(I':Hp->Prop):TS:=λD σ H=>RZ K L I rs G σ H/\∀σ' H',RZ K L I' rs G' σ' H'->Same (lef L H) (lef L H')->D.nx σ' H'
def zR(K:Frag)(L:List Addr)(I:Hp->Prop)(rs:List (Nat×Addr))(G:Gam)(d:PyData)(I':Hp->Prop):TS:=λD σ H=>RZ K L I rs G σ H/\∀v H',I' H'->Same (lef L H) (lef L H')->DV K (lef L H') v d->D.rt v H'
variable{I I1 I2:Hp->Prop}{rs:List (Nat×Addr)}
section
variable{L:List Addr}{k:Bool}
theorem RZ.sd(r:RZ K L I rs G σ H):SD K H σ G:=r.2.2.mono lef_same
theorem RZ.step(ok:ZOk L I)(r:RZ K L I rs G σ H)(s:Same H H'):RZ K L I rs G σ H':=⟨r.1,ok.step r.2.1 s,r.2.2.mono s.lef⟩
theorem RZ.next(r:RZ K L I rs G σ H)(i:I1 H')(s:Same (lef L H) (lef L H')):RZ K L I1 rs G σ H':=⟨r.1,i,r.2.2.mono s⟩
theorem B2(ok:ZOk L I)(h:EV X G e d)(hn:noL d=true):ZE X L I rs G e d I:=h.imp λσ H Q ⟨r,q⟩=>⟨r.sd,λv H' s' dv=>q v H' (ok.step r.2.1 s') s'.lef (DV.lef (ok.notup (ok.step r.2.1 s')) dv hn)⟩
theorem AQ(ok:ZOk L I)(h:TV X G c k):ZT X L I rs G c k:=h.imp λσ H Q ⟨r,q⟩=>⟨r.sd,λH' s'=>q H' (r.step ok s') s'.lef⟩
theorem Ga:ZA X L I rs G [] [] I:=pa_nil.imp λσ H Q ⟨r,q⟩=>q [] H r.2.1 (Same.refl _) .nil
theorem BY(h:ZE X L I rs G e d I1)(hr:ZA X L I1 rs G es ds I2)(hs:Zst X e es:=by rfl):ZA X L I rs G (e::es) (d::ds) I2:=
 (BS h hr hs).imp λσ H Q ⟨r,q⟩=>⟨r,λv H1 t1 s1 d1=>⟨r.next t1 s1,λvs H2 t2 s2 d2=>q (v::vs) H2 t2 (s1.trans s2) (.cons (d1.mono s2) d2)⟩⟩
theorem Kg{A:List Stmt}(h:ZT X L I rs G c k)(h1:k=true->PSs X A (zR X.K L I rs G d I1))(h2:k=false->PSs X sts (zR X.K L I rs G d I1)):PSs X (.If c A [] pos::sts) (zR X.K L I rs G d I1):=by
 cases k with
 |true=>exact(Az (Cu h (h1 rfl) (AA (sts:=[]))) (AA (sts:=sts))).imp λD σ H ⟨r,q⟩=>⟨r,λH' r' s'=>iteT ⟨r',λv H2 t2 s2 dv=>q v H2 t2 (s'.trans s2) dv⟩⟩
 |false=>exact(Az (Cu h (AA (sts:=A)) pss_nil) (h2 rfl)).imp λD σ H ⟨r,q⟩=>⟨r,λH' r' s'=>iteF ⟨r',λv H2 t2 s2 dv=>q v H2 t2 (s'.trans s2) dv⟩⟩
theorem Bm{A B:List Stmt}(h:ZT X L I rs G c k)(h1:k=true->PSs X A (zN X.K L I rs G G1 I1))(h2:k=false->PSs X B (zN X.K L I rs G G1 I1)):PS X (.If c A B pos) (zN X.K L I rs G G1 I1):=by
 cases k with
 |true=>exact(Cu h (h1 rfl) (AA (sts:=B))).imp λD σ H ⟨r,q⟩=>⟨r,λH' r' s'=>iteT ⟨r',λσ2 H2 r2 s2=>q σ2 H2 r2 (s'.trans s2)⟩⟩
 |false=>exact(Cu h (AA (sts:=A)) (h2 rfl)).imp λD σ H ⟨r,q⟩=>⟨r,λH' r' s'=>iteF ⟨r',λσ2 H2 r2 s2=>q σ2 H2 r2 (s'.trans s2)⟩⟩
theorem BJ{st:Stmt}(h1:PS X st (zN X.K L I rs G G1 I1))(h2:PSs X sts (zR X.K L I1 rs G1 d I2)):PSs X (st::sts) (zR X.K L I rs G d I2):=
 (Az h1 h2).imp λD σ H ⟨r,q⟩=>⟨r,λσ' H' r' s'=>⟨r',λv H2 t2 s2 dv=>q v H2 t2 (s'.trans s2) dv⟩⟩
theorem At{st:Stmt}(h1:PS X st (zN X.K L I rs G G1 I1))(h2:PSs X sts (zN X.K L I1 rs G1 G2 I2)):PSs X (st::sts) (zN X.K L I rs G G2 I2):=
 (Az h1 h2).imp λD σ H ⟨r,q⟩=>⟨r,λσ' H' r' s'=>⟨r',λσ2 H2 r2 s2=>q σ2 H2 r2 (s'.trans s2)⟩⟩
theorem A7:PSs X [] (zN X.K L I rs G G I):=pss_nil.imp λD σ H ⟨r,q⟩=>q σ H r (Same.refl _)
theorem Gb(h:ZE X L I rs G e d I1):PSs X (.Return (some e) pos::sts) (zR X.K L I rs G d I1):=
 (Az (EW h) (AA (sts:=sts))).imp λD σ H ⟨r,q⟩=>⟨r,q⟩
theorem B7(hN:X.N.Nodup)(hi:X.N[i]?=some x)(hi0:i∉rs.map (·.1))(hx:Loc X.env.scope x)(h:ZE X L I rs G e d I1)(hs:swapsWith e (some (.Name x pos')) pos.line X.env=pure false:=by rfl)
  (hf:Zlo X x:=by first|exact .inl rfl|exact .inr rfl|assumption):PS X (.Assign [.Name x pos'] e pos) (zN X.K L I rs G (G.set i (some d)) I1):=
 (BL hN hi hx h hs hf).imp λD σ H ⟨r,q⟩=>⟨r,λv H1 t1 s1 d1=>q _ H1 ⟨λz hz=>by rw[getElem?_set_ne λy=>hi0 (mem_map.mpr ⟨z,hz,y.symm⟩)];exact r.1 z hz,t1,(r.2.2.mono s1).set d1⟩ s1⟩
end
def Kz(K:Frag)(p:Addr)(S:List PyData)(H:Hp):Prop:=∃us,H p=some (.lst us)/\DVs K (lef [p] H) us S/\noLs S=true
variable{S:List PyData}
theorem kz_ok:ZOk [p] (Kz K p S)where
 step:=λ⟨us,h1,h2,h3⟩ s=>⟨us,s _ _ h1,h2.mono s.lef,h3⟩
 notup:=λ⟨us,h1,_⟩ b hb xs r=>by
  have:=mem_singleton.mp hb
  subst this
  rcases r with r|⟨q,r⟩<;>(rw[h1]at r;cases r)
 free:=λ⟨us,h1,_⟩ hp hm=>by
  have:=mem_singleton.mp hm
  subst this
  rw[h1]at hp
  cases hp
def spK(K:Frag)(F:List PyData->List PyData->PyData->List PyData->Prop):Sp:=λvs H Q _=>∃(p:Addr) (S ds:List PyData) (d:PyData) (S':List PyData) (vr:List V),vs=.ref p::vr/\Kz K p S H/\DVs K (lef [p] H) vr ds/\F S ds d S'/\
 ∀v H',Kz K p S' H'->Same (lef [p] H) (lef [p] H')->DV K (lef [p] H') v d->Q v H'
def KFn(P:Program)(w:World)(K:Frag)(mg:Str->Option Value)(base:Heap)(k:Nat)(x:Str)(F:List PyData->List PyData->PyData->List PyData->Prop):Prop:=
 ∃f fd ps,FnOk P w K mg base CX0 k f fd ps (spK K F)/\mg x=some (.ref f)/\keepIn K (.ref f)=true/\Binds K fd ps []
section
variable{k:Nat}
end
section
variable{L:List Addr}{k:Bool}
end
def TKz(P:Program)(w:World)(K:Frag)(R:Reg)(ka:Addr)(T S:List PyData)(H:Hp):Prop:=Tb P w K R T H/\ka∉R.L/\∃us,H ka=some (.lst us)/\DVs K (lef (ka::R.L) H) us S/\noLs S=true
abbrev tkL(R:Reg)(ka:Addr):List Addr:=ka::R.L
variable{ka:Addr}{S':List PyData}
section
variable{R:Reg}{k:Nat}
end
section
variable{R:Reg}{k:Nat}
theorem Qg(hv:PE X (.Name x pos) (tVar i)){L:List Addr}(hG:G[i]?=some (some d)):ZE X L I rs G (.Name x pos) d I:=hv.imp λσ H Q ⟨r,q⟩=>by
 obtain⟨v,e,dv⟩:=r.2.2.2 i d hG
 exact⟨v,e,q v H r.2.1 (Same.refl _) dv⟩
end
structure LS(P:Program)(w:World)(K:Frag)(R:Reg)(ka q:Addr)(H0:Hp)(T told:List PyData)(G:Gam)(σ:St)(H:Hp):Prop where
 r1:σ[1]?=some (some (.ref R.a))
 r2:σ[2]?=some (some (.ref ka))
 r3:σ[3]?=some (some (.ref q))
 tk:TKz P w K R ka T T H
 off:q∉tkL R ka
 lst:∃us,H q=some (.lst us)/\DVs K (lef (q::tkL R ka) H) us told
 nl:noLs told=true
 sd:SD K (lef (q::tkL R ka) H) σ G
 sm:Same H0 (lef (q::tkL R ka) H)
variable{told:List PyData}
section
variable{R:Reg}
theorem BN{v:V}(h:σ[i]?=some (some v)):σ.set i (some v)=σ:=by
 refine ext_getElem? λj=>?_
 by_cases hj:i=j
 .subst hj
  rw[getElem?_set_self (List.getElem?_eq_some_iff.mp h).1,h]
 .rw[getElem?_set_ne hj]
end
section
variable{told1 told2:List PyData}{k:Nat}{z:Str}
end
theorem Jy(D:α->PyData)(xs:List α)(x:α):atI ((xs++[x]).map D) (-1)=some (D x):=by
 unfold atI
 have e:ixN ((xs++[x]).map D).length (-1)=some xs.length:=by
  unfold ixN
  rw[if_neg (by decide)]
  rw[if_pos (by simp;omega)]
  simp
  omega
 rw[e]
 simp
variable{body:List Stmt}
section
variable{k:Nat}{q1 q2 q3 q4 q5 q6:Pos}{xk xo:Str}
end
def Mo(a b:Int):Prop:=∃c:Int,a=b+4096*c
inductive Atm where
 |box (k:Int)
 |tru (k:Int)
 |cel (t:Tm) (n:Int)
 |two (o:Nat) (t u:Tm)
structure Sta where
 bx:List Int
 tr:List Bool
 rd:List ((Int×Int)×Int)
variable{tp:Pos}
section
variable{f:Expr}{kt}{m:List ((Int×Int)×Int)}
end
theorem FG{a:Addr}{kvs:List (List Key×V)}{o:HO}(hp:H p=some (.dT kvs))(e:H a=some o)(n:∀k,o≠.dT k):a≠p:=λc=>by subst c;rw[hp]at e;cases e;exact n _ rfl
mutual
theorem DV.noDT{K:PySem.W.Frag}{H H':Hp}{p:Addr}{kvs:List (List Key×V)}(hp:H p=some (.dT kvs))(hH:∀a,a≠p->H' a=H a):∀{v:V}{d:PyData},DV K H v d->noK d=true->DV K H' v d
 |_,_,.non,_=>.non
 |_,_,.bl b,_=>.bl b
 |_,_,.int i,_=>.int i
 |_,_,.str x,_=>.str x
 |_,_,.tup (a:=a) h t,f=>by
  refine .tup ?_ (DVs.noDT hp hH t (by unfold noK at f;exact f))
  rcases h with(h|⟨o,h⟩)|h
  .exact .inl (.inl (by rw[hH a (FG hp h λ_ c=>by cases c)];exact h))
  .exact .inl (.inr ⟨o,by rw[hH a (FG hp h λ_ c=>by cases c)];exact h⟩)
  .exact .inr h
 |_,_,.lst (a:=a) h t,f=>by
  refine .lst ?_ (DVs.noDT hp hH t (by unfold noK at f;exact f))
  rcases h with(h|⟨o,h⟩)|h
  .exact .inl (.inl (by rw[hH a (FG hp h λ_ c=>by cases c)];exact h))
  .exact .inl (.inr ⟨o,by rw[hH a (FG hp h λ_ c=>by cases c)];exact h⟩)
  .exact .inr h
 |_,_,.dct h t,f=>by unfold noK at f;cases f
 |_,_,.exc h,f=>by unfold noK at f;cases f
 |_,_,.exr h h',f=>by unfold noK at f;cases f
 |_,_,.obj h n t,f=>by unfold noK at f;cases f
 |_,_,.dtt h,f=>by unfold noK at f;cases f
theorem DVs.noDT{K:PySem.W.Frag}{H H':Hp}{p:Addr}{kvs:List (List Key×V)}(hp:H p=some (.dT kvs))(hH:∀a,a≠p->H' a=H a):∀{v:List V}{d:List PyData},DVs K H v d->noKs d=true->DVs K H' v d
 |_,_,.nil,_=>.nil
 |_,_,.cons h t,f=>by
  unfold noKs at f
  rw[Bool.and_eq_true]at f
  exact .cons (DV.noDT hp hH h f.1) (DVs.noDT hp hH t f.2)
end
abbrev PM:=List ((Int×Int)×Int)
abbrev V3(G:Gam)(i:Nat)(m:PM):Gam:=G.set i (some (.dict (ppE m)))
def OP(K:Frag)(H0:Hp)(p:Addr)(i:Nat)(G:Gam)(m:PM)(σ:St)(H:Hp):Prop:=
 ∃Hb,H=upd Hb p (.dT (ppK m))/\Hb p=none/\Same H0 Hb/\SD K Hb σ G/\σ[i]?=some (some (.ref p))
section
variable{Pre Mid Post:Gam->PM->Prop}{f:Expr}{kt}
end
variable{ns:List Int}
section
variable{p kp:Pos}{d:Int}
end
section
variable{p:Pos}
end
section
variable{L:List Addr}{k:Bool}
theorem Iu{A:List Stmt}(ok:ZOk L I)(h:ZT X L I rs G c false):PS X (.If c A [] pos) (zN X.K L I rs G G I):=Bm h nofun (λ_=>A7)
end
section
variable{R:Reg}{k:Nat}
end
section
variable{k:Nat}
end
section
variable{R:Reg}{k:Nat}
end
def hM:Nat:=2^64
def hP1:Nat:=11400714785074694791
def hP2:Nat:=14029467366897019727
def hQ2:Nat:=839798700976720815
def hC:Nat:=2^^^(2870177450012600261^^^3527539)
def hRot(x:Nat):Nat:=(x*2^31)%hM+x/2^33
def hF(acc h:Nat):Nat:=(hRot ((acc+h*hP2)%hM)*hP1)%hM
def hG(a b:Nat):Nat:=(hF (hF 2870177450012600261 a) b+hC)%hM
def hB(a:Nat):Nat:=hF 2870177450012600261 a*hQ2%hM
section
variable{K:Type}[DecidableEq K]{knd:KeyKind prog w K}
end
structure PPAt(h:Heap)(a:Addr)(m:List ((Int×Int)×Int))(xs:List (List Key×Addr×Value)):Prop where
 len:xs.length=m.length
 at_:∀(i:Nat) q,m[i]?=some q->∃b t,xs[i]?=some ([.inl q.1.1,.inl q.1.2],b,.int q.2 t)
 dct:∀(P:Program) (w:World),h.DictOfH (tupleKind (Bc P w)) a xs
variable{d1 d2 d3:PyData}
theorem three{vs:List V}(h:DVs K H vs [d1,d2,d3]):∃x y z,vs=[x,y,z]/\DV K H x d1/\DV K H y d2/\DV K H z d3:=by
 cases h with
 |cons h t=>
  obtain⟨y,z,rfl,h2,h3⟩:=t.two
  exact⟨_,y,z,rfl,h,h2,h3⟩
structure OR where
 C:Addr
 a:Addr
 dx:Addr
 ls:List (Str×Addr)
abbrev OR.L(R:OR):List Addr:=R.a::R.dx::R.ls.map (·.2)
abbrev LF:=List (Str×List PyData)
abbrev DF:=List (Str×PyData)
def upL(f:Str)(ds:List PyData)(lf:LF):LF:=lf.map λq=>if q.1=f then(q.1,ds)else q
def upD(f:Str)(d:PyData)(df:DF):DF:=df.map λq=>if q.1=f then(q.1,d)else q
theorem Kl(f:Str)(ds:List PyData)(lf:LF):(upL f ds lf).map (·.1)=lf.map (·.1):=by
 unfold upL
 rw[map_map]
 exact map_congr_left λq _=>by show(if q.1=f then(q.1,ds)else q).1=q.1;split<;>rfl
theorem Be(f:Str)(d:PyData)(df:DF):(upD f d df).map (·.1)=df.map (·.1):=by
 unfold upD
 rw[map_map]
 exact map_congr_left λq _=>by show(if q.1=f then(q.1,d)else q).1=q.1;split<;>rfl
variable{lf:LF}
theorem MT{q:Str×List PyData}(h:q∈upL f ds lf):(q.1=f/\q.2=ds/\f∈lf.map (·.1))\/(q.1≠f/\q∈lf):=by
 unfold upL at h
 obtain⟨r,hr,e⟩:=mem_map.mp h
 split at e
 .rename_i z
  refine .inl ⟨by rw[<-e];exact z,by rw[<-e],?_⟩
  rw[<-z]
  exact mem_map_of_mem hr
 .rename_i z
  subst e
  exact .inr ⟨z,hr⟩
variable{df:DF}
theorem Nf{q:Str×PyData}(h:q∈upD f d df):(q.1=f/\q.2=d/\f∈df.map (·.1))\/(q.1≠f/\q∈df):=by
 unfold upD at h
 obtain⟨r,hr,e⟩:=mem_map.mp h
 split at e
 .rename_i z
  refine .inl ⟨by rw[<-e];exact z,by rw[<-e],?_⟩
  rw[<-z]
  exact mem_map_of_mem hr
 .rename_i z
  subst e
  exact .inr ⟨z,hr⟩
theorem FE{f:Str}{v x:V}:∀{fs:List (Str×V)},fs.lookup f=some x->(putF f v fs).length=fs.length
 |[],h=>by cases h
 |(g,y)::r,h=>by
  show(if g=f then(g,v)::r else(g,y)::putF f v r).length=_
  by_cases e:g=f
  .rw[if_pos e];rfl
  .rw[if_neg e,length_cons,length_cons]
   rw[lookup_cons,show(f==g)=false from beq_eq_false_iff_ne.mpr (symm e)]at h
   rw[FE h]
structure OzS(K:Frag)(R:OR)(lf:LF)(df:DF)(Hb H:Hp)(fs:List (Str×V)):Prop where
 obj:H R.a=some (.ins R.C R.dx fs)
 own1:H R.dx=some (.own R.a)
 few:fs.length<=40
 nam:∀m:Str,m∉Bk->fs.lookup m=none
 nda:R.L.Nodup
 apart:∀q∈df,q.1∉lf.map (·.1)
 own:∀q∈R.ls,∃us,H q.2=some (.lst us)
 lst:∀q∈lf,∃p us,(q.1,p)∈R.ls/\fs.lookup q.1=some (.ref p)/\H p=some (.lst us)/\DVs K Hb us q.2/\noLs q.2=true
 dat:∀q∈df,∃v,fs.lookup q.1=some v/\DV K Hb v q.2
def Oz(K:Frag)(R:OR)(lf:LF)(df:DF)(H:Hp):Prop:=∃fs,OzS K R lf df (lef R.L H) H fs
variable{R:OR}{Hb Hb':Hp}
theorem OzS.mono{fs:List (Str×V)}(t:OzS K R lf df Hb H fs)(s:Same Hb Hb')(s2:Same H H'):OzS K R lf df Hb' H' fs:=
 ⟨s2 _ _ t.obj,s2 _ _ t.own1,t.few,t.nam,t.nda,t.apart,λq hq=>let⟨us,h⟩:=t.own q hq;⟨us,s2 _ _ h⟩,λq hq=>let⟨p,us,h1,h2,h3,h4,h5⟩:=t.lst q hq;⟨p,us,h1,h2,s2 _ _ h3,h4.mono s,h5⟩,λq hq=>let⟨v,h1,h2⟩:=t.dat q hq;⟨v,h1,h2.mono s⟩⟩
theorem oz_ok:ZOk R.L (Oz K R lf df)where
 step:=λ⟨fs,t⟩ s=>⟨fs,t.mono s.lef s⟩
 notup:=@λH ⟨fs,t⟩ b hb xs r=>by
  have key:∀o:HO,H b=some o->(∀ys,o≠.tup ys)->(∀q u,o≠.frz q u)->False:=λo e h1 h2=>by
   rcases r with r|⟨q,r⟩
   .rw[e]at r;exact h1 _ (Option.some.inj r)
   .rw[e]at r;exact h2 _ _ (Option.some.inj r)
  rcases mem_cons.mp hb with e|e
  .exact key _ (by rw[e];exact t.obj) (λ_ z=>by cases z) (λ_ _ z=>by cases z)
  rcases mem_cons.mp e with e|e
  .exact key _ (by rw[e];exact t.own1) (λ_ z=>by cases z) (λ_ _ z=>by cases z)
  .obtain⟨q,hq,e⟩:=mem_map.mp e
   obtain⟨us,h⟩:=t.own q hq
   exact key _ (by rw[<-e];exact h) (λ_ z=>by cases z) (λ_ _ z=>by cases z)
 free:=λ⟨fs,t⟩ hp hm=>by
  rcases mem_cons.mp hm with e|e
  .have:=t.obj;rw[<-e,hp]at this;cases this
  rcases mem_cons.mp e with e|e
  .have:=t.own1;rw[<-e,hp]at this;cases this
  .obtain⟨q,hq,rfl⟩:=mem_map.mp e
   obtain⟨us,h⟩:=t.own q hq
   rw[hp]at h;cases h
def fldD(lf:LF)(df:DF):List (PyData×PyData):=(lf.map λq=>((.str q.1,.list q.2):PyData×PyData))++df.map λq=>(.str q.1,q.2)
theorem MA{K:Frag}{H:Hp}{fs:List (Str×V)}:∀{l:List (Str×PyData)},(∀q∈l,∃v,fs.lookup q.1=some v/\DV K H v q.2)->DVf K H fs (l.map λq=>((.str q.1,q.2):PyData×PyData))
 |[],_=>.nil
 |q::r,h=>by
  obtain⟨v,h1,h2⟩:=h q mem_cons_self
  exact .cons h1 h2 (MA λz hz=>h z (mem_cons_of_mem _ hz))
theorem RY(lf:LF)(df:DF):fldD lf df=((lf.map λq=>((q.1,.list q.2):Str×PyData))++df).map λq=>((.str q.1,q.2):PyData×PyData):=by
 unfold fldD
 rw[map_append,map_map]
 rfl
theorem OzS.dv{L:List Addr}{fs:List (Str×V)}(t:OzS K R lf df (lef L H) H fs):DV K H (.ref R.a) (objD R.C (fldD lf df)):=by
 refine .obj t.obj t.nam ?_
 rw[RY]
 refine MA λq hq=>?_
 rcases List.mem_append.mp hq with hq|hq
 .obtain⟨z,hz,rfl⟩:=List.mem_map.mp hq
  obtain⟨p,us,_,h2,h3,h4,_⟩:=t.lst z hz
  exact⟨.ref p,h2,.lst (SqL.of h3) (h4.mono lef_same)⟩
 .obtain⟨v,h1,h2⟩:=t.dat q hq
  exact⟨v,h1,h2.mono lef_same⟩
abbrev viewO(C:Addr)(lf:LF)(df:DF)(i:Nat)(G:Gam):Gam:=G.set i (some (objD C (fldD lf df)))
section
variable{k:Nat}
theorem RZ.viewO{K:PySem.W.Frag}{σ:St}{H:Hp}(r:RZ K R.L (Oz K R lf df) rs G σ H)(hi:(i,R.a)∈rs):SD K H σ (viewO R.C lf df i G):=by
 obtain⟨fs,t⟩:=id r.2.1
 have h1:=r.sd.set (i:=i) t.dv
 rw[BN (r.1 _ hi)]at h1
 exact h1
theorem E7(hi:(i,R.a)∈rs)(h:EV X (viewO R.C lf df i G) e d)(hn:noL d=true):ZE X R.L (Oz X.K R lf df) rs G e d (Oz X.K R lf df):=h.imp λσ H Q ⟨r,q⟩=>⟨r.viewO hi,λv H' s' dv=>q v H' (oz_ok.step r.2.1 s') s'.lef (DV.lef (oz_ok.notup (oz_ok.step r.2.1 s')) dv hn)⟩
theorem ND(hi:(i,R.a)∈rs)(h:AV X (viewO R.C lf df i G) es ds)(hn:noLs ds=true):ZA X R.L (Oz X.K R lf df) rs G es ds (Oz X.K R lf df):=h.imp λσ H Q ⟨r,q⟩=>⟨r.viewO hi,λv H' s' dv=>q v H' (oz_ok.step r.2.1 s') s'.lef (DVs.lef (oz_ok.notup (oz_ok.step r.2.1 s')) dv hn)⟩
theorem GW(cl:Cls X.K R.C)(na:NoAttr X.K R.C f)(hi:(i,R.a)∈rs)(hv:PE X (.Name x pos2) (tVar i))(h:EV X (viewO R.C lf df i G) e d)(hn:noL d=true)(hf:f∈df.map (·.1))(hA:f∈Bk)
  (hs:swapsWith e (some (.Attribute (.Name x pos2) f pos')) pos.line X.env=pure false:=by rfl):PS X (.Assign [.Attribute (.Name x pos2) f pos'] e pos) (zN X.K R.L (Oz X.K R lf df) rs G G (Oz X.K R lf (upD f d df))):=by
 refine(JP hv h hs).imp λD σ H ⟨r,q⟩=>⟨r.viewO hi,λy H1 s1 d1=>?_⟩
 have i1:=oz_ok.step r.2.1 s1
 obtain⟨fs,t⟩:=id i1
 refine⟨.ref R.a,r.1 _ hi,R.a,R.C,R.dx,fs,rfl,t.obj,cl,na,by have:=t.few;omega,?_⟩
 have eL:lef R.L (upd H1 R.a (.ins R.C R.dx (putF f y fs)))=lef R.L H1:=Bq mem_cons_self
 obtain⟨q0,hq0,e0⟩:=mem_map.mp hf
 obtain⟨v0,l0,_⟩:=t.dat q0 hq0
 rw[e0]at l0
 have hlf:f∉lf.map (·.1):=by rw[<-e0];exact t.apart q0 hq0
 have nal:∀p∈R.ls.map (·.2),p≠R.a:=λp hp z=>(nodup_cons.mp t.nda).1 (z▸mem_cons_of_mem _ hp)
 have nad:R.dx≠R.a:=λz=>(nodup_cons.mp t.nda).1 (z▸mem_cons_self)
 refine q σ _ ⟨r.1,⟨putF f y fs,?_⟩,?_⟩ ?_
 .rw[eL]
  refine⟨Al,by rw[Aj nad];first|exact t1.own1|exact t.own1,by rw[FE l0];exact t.few,λm hm=>?_,t.nda,λz hz=>?_,λz hz=>?_,λz hz=>?_,λz hz=>?_⟩
  .rw[A4,if_neg (λw:m=f=>hm (w▸hA))]
   exact t.nam m hm
  .have:z.1∈(upD f d df).map (·.1):=mem_map_of_mem hz
   rw[Be]at this
   obtain⟨z',hz',ez⟩:=mem_map.mp this
   rw[<-ez]
   exact t.apart z' hz'
  .obtain⟨us,hu⟩:=t.own z hz
   exact⟨us,by rw[Aj (nal _ (mem_map_of_mem hz))];exact hu⟩
  .obtain⟨p,us,h1,h2,h3,h4,h5⟩:=t.lst z hz
   refine⟨p,us,h1,?_,?_,h4,h5⟩
   .rw[A4,if_neg (λw:z.1=f=>hlf (w▸mem_map_of_mem hz))]
    exact h2
   .rw[Aj (nal _ (mem_map_of_mem (f:=(·.2)) h1))]
    exact h3
  .rcases Nf hz with⟨e1,e2,_⟩|⟨e1,e2⟩
   .rw[e1,e2]
    exact⟨y,by rw[A4,if_pos rfl],DV.lef (oz_ok.notup i1) d1 hn⟩
   .obtain⟨v,h1,h2⟩:=t.dat z e2
    exact⟨v,by rw[A4,if_neg e1];exact h1,h2⟩
 .rw[eL];exact r.2.2.mono s1.lef
 .rw[eL];exact s1.lef
theorem PY{z n:Int}(cl:Cls X.K R.C)(na:NoAttr X.K R.C f)(hi:(i,R.a)∈rs)(hv:PE X (.Name x pos2) (tVar i))(h:EV X (viewO R.C lf df i G) e (.int n))(hf:(f,.int z)∈df)(hA:f∈Bk):PS X (.AugAssign (.Attribute (.Name x pos2) f pos') .Add e pos) (zN X.K R.L (Oz X.K R lf df) rs G G (Oz X.K R lf (upD f (.int (z+n)) df))):=by
 refine(O9 hv h T6).imp λD σ H ⟨r,q⟩=>?_
 obtain⟨fs,t⟩:=id r.2.1
 obtain⟨v0,l0,dv0⟩:=t.dat _ hf
 have dv0:=dv0.of_int
 subst dv0
 refine⟨.ref R.a,r.1 _ hi,R.a,R.C,R.dx,fs,.int z,rfl,t.obj,cl,na,l0,r.viewO hi,λy H1 s1 d1=>?_⟩
 have d1:=d1.of_int
 subst d1
 have i1:=oz_ok.step r.2.1 s1
 refine⟨z,n,rfl,rfl,R.dx,fs,s1 _ _ t.obj,by have:=t.few;omega,?_⟩
 have t1:=t.mono s1.lef s1
 have eL:lef R.L (upd H1 R.a (.ins R.C R.dx (putF f (.int (z+n)) fs)))=lef R.L H1:=Bq mem_cons_self
 have hlf:f∉lf.map (·.1):=t.apart _ hf
 have nal:∀p∈R.ls.map (·.2),p≠R.a:=λp hp z=>(nodup_cons.mp t.nda).1 (z▸mem_cons_of_mem _ hp)
 have nad:R.dx≠R.a:=λz=>(nodup_cons.mp t.nda).1 (z▸mem_cons_self)
 refine q σ _ ⟨r.1,⟨putF f (.int (z+n)) fs,?_⟩,?_⟩ ?_
 .rw[eL]
  refine⟨Al,by rw[Aj nad];first|exact t1.own1|exact t.own1,by rw[FE l0];exact t.few,λm hm=>?_,t.nda,λz hz=>?_,λz hz=>?_,λz hz=>?_,λz hz=>?_⟩
  .rw[A4,if_neg (λw:m=f=>hm (w▸hA))]
   exact t.nam m hm
  .have:z.1∈(upD f _ df).map (·.1):=mem_map_of_mem hz
   rw[Be]at this
   obtain⟨z',hz',ez⟩:=mem_map.mp this
   rw[<-ez]
   exact t.apart z' hz'
  .obtain⟨us,hu⟩:=t1.own z hz
   exact⟨us,by rw[Aj (nal _ (mem_map_of_mem hz))];exact hu⟩
  .obtain⟨p,us,h1,h2,h3,h4,h5⟩:=t1.lst z hz
   refine⟨p,us,h1,?_,?_,h4,h5⟩
   .rw[A4,if_neg (λw:z.1=f=>hlf (w▸mem_map_of_mem hz))]
    exact h2
   .rw[Aj (nal _ (mem_map_of_mem (f:=(·.2)) h1))]
    exact h3
  .rcases Nf hz with⟨e1,e2,_⟩|⟨e1,e2⟩
   .rw[e1,e2]
    exact⟨_,by rw[A4,if_pos rfl],.int _⟩
   .obtain⟨v,h1,h2⟩:=t1.dat z e2
    exact⟨v,by rw[A4,if_neg e1];exact h1,h2⟩
 .rw[eL];exact r.2.2.mono s1.lef
 .rw[eL];exact s1.lef
theorem OzS.put{fs:List (Str×V)}(t:OzS K R lf df (lef R.L H) H fs)(hp:(f,p)∈R.ls)(hf:fs.lookup f=some (.ref p))(dv:DVs K (lef R.L H) us ds)(hn:noLs ds=true):Oz K R (upL f ds lf) df (upd H p (.lst us)):=by
 have hpL:p∈R.L:=List.mem_cons_of_mem _ (List.mem_cons_of_mem _ (List.mem_map_of_mem (f:=(·.2)) hp))
 have eL:lef R.L (upd H p (.lst us))=lef R.L H:=Bq hpL
 have npa:R.a≠p:=λz=>(List.nodup_cons.mp t.nda).1 (by rw[z];exact List.mem_cons_of_mem _ (List.mem_map_of_mem (f:=(·.2)) hp))
 have npd:R.dx≠p:=λz=>(List.nodup_cons.mp (List.nodup_cons.mp t.nda).2).1 (by rw[z];exact List.mem_map_of_mem (f:=(·.2)) hp)
 refine⟨fs,?_⟩
 rw[eL]
 refine⟨by rw[Aj npa];exact t.obj,by rw[Aj npd];exact t.own1,t.few,t.nam,t.nda,λz hz=>by rw[Kl];exact t.apart z hz,λz hz=>?_,λz hz=>?_,t.dat⟩
 .by_cases e:z.2=p
  .rw[e];exact⟨us,Al⟩
  .rw[Aj e];exact t.own z hz
 .rcases MT hz with⟨e1,e2,_⟩|⟨e1,e2⟩
  .rw[e1,e2]
   exact⟨p,us,hp,hf,Al,dv,hn⟩
  .obtain⟨p',us',h1,h2,h3,h4,h5⟩:=t.lst z e2
   have hne:p'≠p:=λw=>by
    subst w
    have:∀{l:List (Str×Addr)},(l.map (·.2)).Nodup->(f,p')∈l->(z.1,p')∈l->z.1=f:=by
     intro l
     induction l with
     |nil=>intro _ h;cases h
     |cons y r ih=>
      intro hn h1 h2
      rw[List.map_cons,List.nodup_cons]at hn
      rcases List.mem_cons.mp h1 with e|h1<;>rcases List.mem_cons.mp h2 with e'|h2
      .rw[<-e']at e;cases e;rfl
      .exact absurd (by rw[<-e];exact List.mem_map_of_mem (f:=(·.2)) h2) hn.1
      .exact absurd (by rw[<-e'];exact List.mem_map_of_mem (f:=(·.2)) h1) hn.1
      .exact ih hn.2 h1 h2
    exact e1 (this (List.nodup_cons.mp (List.nodup_cons.mp t.nda).2).2 hp h1)
   exact⟨p',us',h1,h2,by rw[Aj hne];exact h3,h4,h5⟩
theorem DJ{z:Int}(cl:Cls X.K R.C)(na:NoAttr X.K R.C f)(hi:(i,R.a)∈rs)(hv:PE X (.Name x pos2) (tVar i))(h:EV X (viewO R.C lf df i G) e d)(hn:noL d=true)(hb:EV X (viewO R.C lf df i G) b (.int z))(hf:(f,ds)∈lf)(z0:0<=z)(z1:z<ds.length)
  (hba:attributeBase (.Name x pos2) f X.env (eval (.Name x pos2) X.env)=eval (.Name x pos2) X.env:=by rfl)
  (ha:∀v,assign (.Subscript (.Attribute (.Name x pos2) f pos4) b pos3) X.env v=(do
   let ov <-holding [v] (eval (.Attribute (.Name x pos2) f pos4) X.env)
   let iv <-holding [v,ov] (eval b X.env)
   standAt pos3
   holding [v,ov,iv] (setItem ov iv v)
   release [v,ov,iv] []):=by intro _;rfl)
  (hs:swapsWithSole [.Subscript (.Attribute (.Name x pos2) f pos4) b pos3] e pos.line X.env=pure false:=by rfl)(hw:swappedStores [.Subscript (.Attribute (.Name x pos2) f pos4) b pos3] e X.env=pure none:=by rfl)
  (h1:(assignEach [.Subscript (.Attribute (.Name x pos2) f pos4) b pos3] X.env).map (·.2)=[assign (.Subscript (.Attribute (.Name x pos2) f pos4) b pos3) X.env]:=by rfl):PS X (.Assign [.Subscript (.Attribute (.Name x pos2) f pos4) b pos3] e pos) (zN X.K R.L (Oz X.K R lf df) rs G G (Oz X.K R (upL f (ds.set z.toNat d) lf) df)):=by
 refine(C8 h (HJ (L4 hv hba) hb set_list ha) hs hw h1).imp λD σ H ⟨r,q⟩=>⟨r.viewO hi,λv H1 s1 d1=>?_⟩
 have r1:=r.step oz_ok s1
 obtain⟨fs,t⟩:=id r1.2.1
 obtain⟨p,us,hp,hl,hu,du,nd⟩:=t.lst _ hf
 refine⟨.ref R.a,r.1 _ hi,R.a,R.C,R.dx,fs,.ref p,rfl,t.obj,cl,na,hl,r1.viewO hi,λw H2 s2 d2=>?_⟩
 have d2:=d2.of_int
 subst d2
 have r2:=r1.step oz_ok s2
 have t2:=t.mono s2.lef s2
 have dv2:=DV.lef (oz_ok.notup r2.2.1) (d1.mono s2) hn
 have eL:lef R.L (upd H2 p (.lst (us.set z.toNat v)))=lef R.L H2:=Bq (mem_cons_of_mem _ (mem_cons_of_mem _ (mem_map_of_mem (f:=(·.2)) hp)))
 have hlen:us.length=ds.length:=du.length
 refine⟨p,us,z,z.toNat,rfl,rfl,s2 _ _ hu,?_,?_⟩
 .unfold ixN
  rw[if_pos z0,if_pos (by rw[hlen];exact z1)]
 .refine q σ _ ⟨r.1,t2.put hp hl ((du.mono s2.lef).setAt dv2 _) ?_,?_⟩ ?_
  .have:∀(l:List PyData) (n:Nat),noLs l=true->noLs (l.set n d)=true:=by
    intro l
    induction l with
    |nil=>intro n h;exact h
    |cons y r ih=>
     intro n h
     unfold noLs at h
     rw[and_eq_true]at h
     cases n with
     |zero=>rw[List.set_cons_zero];unfold noLs;rw[hn,h.2];rfl
     |succ n=>rw[List.set_cons_succ];unfold noLs;rw[h.1,ih n h.2];rfl
   exact this ds _ nd
  .rw[eL];exact r2.2.2
  .rw[eL];exact s1.lef.trans s2.lef
theorem IR(cl:Cls X.K R.C)(na:NoAttr X.K R.C f)(hi:(i,R.a)∈rs)(hv:PE X (.Name x pos2) (tVar i))(h:EV X (viewO R.C lf df i G) e d)(hn:noL d=true)(hf:(f,ds)∈lf)(hz:ds.length<sizeLine)
  (hba:attributeBase (.Name x pos2) f X.env (eval (.Name x pos2) X.env)=eval (.Name x pos2) X.env:=by rfl)
  (hb2:attributeBase (.Attribute (.Name x pos2) f pos3) "append" X.env (eval (.Attribute (.Name x pos2) f pos3) X.env)=eval (.Attribute (.Name x pos2) f pos3) X.env:=by rfl)
  (hs0:starEach [e] X.env=(false,eval e X.env)::starEach [] X.env:=by rfl)
  (hfew:((backTo pos' (starEach [e] X.env)).all (λx=>!x.1)&&(backToKw pos' (keywordEach [] X.env)).all (λx=>x.1.isSome)
   &&decide ([e].length+([]:List Keyword).length+(if([]:List Keyword).isEmpty then 0 else 1)<30))=true:=by rfl)
  (hline:(pos4.endLine==pos'.line)=true:=by rfl)(hpl:(backTo pos' (starEach [] X.env)).any (·.1)=false:=by rfl)
  (hsw:swapsWith (.Call (.Attribute (.Attribute (.Name x pos2) f pos3) "append" pos4) [e] [] pos') none pos.line X.env=pure false:=by rfl):
  PS X (.Expr (.Call (.Attribute (.Attribute (.Name x pos2) f pos3) "append" pos4) [e] [] pos') pos) (zN X.K R.L (Oz X.K R lf df) rs G G (Oz X.K R (upL f (ds++[d]) lf) df)):=by
 refine(BG (HC plainAttrs_list PySem.F.slot_list_append PySem.F.type_list_append DA (L4 hv hba) (Aa h Ad hs0) hb2 hfew hline hs0 hpl) hsw).imp λD σ H ⟨r,q⟩=>?_
 obtain⟨fs,t⟩:=id r.2.1
 obtain⟨p,us,hp,hl,hu,du,nd⟩:=t.lst _ hf
 refine⟨.ref R.a,r.1 _ hi,R.a,R.C,R.dx,fs,.ref p,rfl,t.obj,cl,na,hl,.inl ⟨rfl,us,SqL.of hu⟩,r.viewO hi,λvs H1 s1 dvs=>?_⟩
 obtain⟨v,rfl,dv⟩:=dvs.one
 have r1:=r.step oz_ok s1
 have t1:=t.mono s1.lef s1
 have dv1:=DV.lef (oz_ok.notup r1.2.1) dv hn
 have eL:lef R.L (upd H1 p (.lst (us++[v])))=lef R.L H1:=Bq (mem_cons_of_mem _ (mem_cons_of_mem _ (mem_map_of_mem (f:=(·.2)) hp)))
 refine⟨p,us,v,rfl,rfl,s1 _ _ hu,by rw[du.length];exact hz,q σ _ ⟨r.1,t1.put hp hl ((du.mono s1.lef).append (.cons dv1 .nil)) ?_,?_⟩ ?_⟩
 .have:∀xs:List PyData,noLs xs=true->noLs (xs++[d])=true:=by
   intro xs
   induction xs with
   |nil=>intro _;show(noL d&&true)=true;rw[hn];rfl
   |cons y r ih=>
    intro h
    rw[cons_append]
    unfold noLs at h ⊢
    rw[and_eq_true]at h
    rw[h.1,ih h.2]
    rfl
  exact this ds nd
 .rw[eL];exact r1.2.2
 .rw[eL];exact s1.lef
end
def spO(K:Frag)(C:Addr)(F:LF->DF->List PyData->PyData->LF->DF->Prop):Sp:=λvs H Q _=>∃(R:OR) (lf:LF) (df:DF) (ds:List PyData) (d:PyData) (lf':LF) (df':DF) (vr:List V),R.C=C/\vs=.ref R.a::vr/\Oz K R lf df H/\DVs K (lef R.L H) vr ds/\F lf df ds d lf' df'/\
 ∀v H',Oz K R lf' df' H'->Same (lef R.L H) (lef R.L H')->DV K (lef R.L H') v d->Q v H'
def OFn(P:Program)(w:World)(K:Frag)(mg:Str->Option Value)(base:Heap)(k:Nat)(C:Addr)(m:Str)(F:LF->DF->List PyData->PyData->LF->DF->Prop):Prop:=
 ∃f fd ps,FnOk P w K mg base CX0 k f fd ps (spO K C F)/\Meth K C m f/\Binds K fd ps []
theorem Fun.objM{qual n0:Str}{st:Stmt}{f:Addr}{fd:FuncData}{ps:List Str}{k:Nat}{F:LF->DF->List PyData->PyData->LF->DF->Prop}(F0:Fun K x qual st f fd)(hm:Meth K C m f)(hb:Binds K fd ps [])(S:FnScope (n0::N) ps (Ae st))(len:∀lf df ds d lf' df',F lf df ds d lf' df'->ds.length+1=ps.length)
  (hbody:∀(cdv:Value) (A:Around) (outer:List Env) (s:Shared) (H:Hp) (E:XK) (R:OR) (lf:LF) (df:DF) (ds:List PyData) (d:PyData) (lf':LF) (df':DF),Room k (A.deeper (envOfC qual (Ae st) s.heap.objs.size f cdv))->R.C=C->F lf df ds d lf' df'->
   PSs (cxOf CX0 P w K mg base (n0::N) qual (Ae st) f cdv A outer s H E).nox (AN st) (zR K R.L (Oz K R lf df) [(0,R.a)] (none::Bh N ds) d (Oz K R lf' df'))):OFn P w K mg base (k+1) C m F:=by
 refine⟨f,fd,ps,F0.ok S (λvs H Q E ⟨R,lf,df,ds,d,lf',df',vr,_,e,_,dv,hF,_⟩=>by rw[e,List.length_cons,dv.length];exact len lf df ds d lf' df' hF) (λcdv A outer s H vs Q E hr ⟨R,lf,df,ds,d,lf',df',vr,hC,e,tb,dv,hF,q⟩=>?_),hm,hb⟩
 subst e
 refine⟨_,hbody cdv A outer s H E R lf df ds d lf' df' hr hC hF,⟨λz hz=>?_,tb,?_⟩,q⟩
 .have:=List.mem_singleton.mp hz
  subst this
  rw[Bp]
  rfl
 .rw[Bp];exact(SD.start dv).cons0 _
theorem Fun.objN{qual n0:Str}{st:Stmt}{f:Addr}{fd:FuncData}{ps:List Str}{k:Nat}{F:LF->DF->List PyData->LF->DF->Prop}(F0:Fun K x qual st f fd)(hm:Meth K C m f)(hb:Binds K fd ps [])(S:FnScope (n0::N) ps (Ae st))(len:∀lf df ds lf' df',F lf df ds lf' df'->ds.length+1=ps.length)
  (hbody:∀(cdv:Value) (A:Around) (outer:List Env) (s:Shared) (H:Hp) (E:XK) (R:OR) (lf:LF) (df:DF) (ds:List PyData) (lf':LF) (df':DF),Room k (A.deeper (envOfC qual (Ae st) s.heap.objs.size f cdv))->R.C=C->F lf df ds lf' df'->
   ∃G',PSs (cxOf CX0 P w K mg base (n0::N) qual (Ae st) f cdv A outer s H E).nox (AN st) (zN K R.L (Oz K R lf df) [(0,R.a)] (none::Bh N ds) G' (Oz K R lf' df'))):OFn P w K mg base (k+1) C m (λlf df ds d lf' df'=>F lf df ds lf' df'/\d=.none):=by
 refine⟨f,fd,ps,F0.ok S (λvs H Q E ⟨R,lf,df,ds,d,lf',df',vr,_,e,_,dv,hF,_⟩=>by rw[e,List.length_cons,dv.length];exact len lf df ds lf' df' hF.1) (λcdv A outer s H vs Q E hr ⟨R,lf,df,ds,d,lf',df',vr,hC,e,tb,dv,⟨hF,ed⟩,q⟩=>?_),hm,hb⟩
 subst e ed
 obtain⟨G',hps⟩:=hbody cdv A outer s H E R lf df ds lf' df' hr hC hF
 refine⟨_,hps,⟨λz hz=>?_,tb,?_⟩,λσ' H' r' s'=>q .non H' r'.2.1 s' .non⟩
 .have:=List.mem_singleton.mp hz
  subst this
  rw[Bp]
  rfl
 .rw[Bp];exact(SD.start dv).cons0 _
variable{lf' lf1:LF}{df' df1:DF}
section
variable{L:List Addr}{k:Nat}
theorem Eb(h:ZE X L I rs G e d I1)(hs:swapsWith e none pos.line X.env=pure false:=by rfl):PS X (.Expr e pos) (zN X.K L I rs G G I1):=
 (BG h hs).imp λD σ H ⟨r,q⟩=>⟨r,λv H' t' s' _=>q σ H' (r.next t' s') s'⟩
theorem DT{F:LF->DF->List PyData->PyData->LF->DF->Prop}{pl:Sem Bool}(cl:Cls X.K R.C)(D:OFn X.prog X.w X.K X.mg X.base k R.C m F)(hr:Room k X.A)(hi:(i,R.a)∈rs)(hv:PE X (.Name x pos2) (tVar i))(ha:ZA X R.L (Oz X.K R lf df) rs G (e::es) ds (Oz X.K R lf1 df1))(hF:F lf1 df1 ds d lf' df')(h1:m∉Bk:=by decide)
  (hst:Zst X e es:=by rfl)(hpl:(backTo pos (starEach es X.env)).any (·.1)=false:=by rfl)
  (ht:eval (.Call (.Attribute (.Name x pos2) m apos) (e::es) [] pos) X.env=(do
   let ov <-eval (.Name x pos2) X.env
   standAt apos.atName
   let(f,first) <-holding [ov] (getMethod ov m pl)
   callWith pos f first (backTo pos (starEach (e::es) X.env)) (backToKw pos (keywordEach [] X.env))):=by rfl):
  ZE X R.L (Oz X.K R lf df) rs G (.Call (.Attribute (.Name x pos2) m apos) (e::es) [] pos) d (Oz X.K R lf' df'):=by
 obtain⟨f,fd,ps,ok,hm,hb⟩:=D
 refine(Hh (E:=E0) (dvs:=[]) (ds:=[]) hv cl hm ok hr hb .nil Cs ha hst hpl ht).imp λσ H Q ⟨r,q⟩=>?_
 obtain⟨fs,t⟩:=id r.2.1
 refine⟨.ref R.a,r.1 _ hi,R.a,R.dx,fs,rfl,t.obj,t.nam m h1,r,λvs' H' t' s' dv=>?_⟩
 show spO X.K R.C F (V.ref R.a::(vs'++[])) H' Q E0
 rw[append_nil]
 exact⟨R,lf1,df1,ds,d,lf',df',vs',rfl,rfl,t',dv,hF,λv H2 t2 s2 d2=>q v H2 t2 (s'.trans s2) d2⟩
theorem Qt{F:LF->DF->List PyData->PyData->LF->DF->Prop}{pl:Sem Bool}(cl:Cls X.K R.C)(D:OFn X.prog X.w X.K X.mg X.base k R.C m F)(hr:Room k X.A)(hi:(i,R.a)∈rs)(hv:PE X (.Name x pos2) (tVar i))(hF:F lf df [] d lf' df')(h1:m∉Bk:=by decide)
  (ht:eval (.Call (.Attribute (.Name x pos2) m apos) [] [] pos) X.env=(do
   let ov <-eval (.Name x pos2) X.env
   standAt apos.atName
   let(f,first) <-holding [ov] (getMethod ov m pl)
   callWith pos f first (backTo pos (starEach [] X.env)) (backToKw pos (keywordEach [] X.env))):=by rfl):
  ZE X R.L (Oz X.K R lf df) rs G (.Call (.Attribute (.Name x pos2) m apos) [] [] pos) d (Oz X.K R lf' df'):=by
 obtain⟨f,fd,ps,ok,hm,hb⟩:=D
 refine(FS (E:=E0) (dvs:=[]) (ds:=[]) hv cl hm ok hr hb .nil Cs ht).imp λσ H Q ⟨r,q⟩=>?_
 obtain⟨fs,t⟩:=id r.2.1
 refine⟨.ref R.a,r.1 _ hi,R.a,R.dx,fs,rfl,t.obj,t.nam m h1,?_⟩
 show spO X.K R.C F (V.ref R.a::([]++[])) H Q E0
 exact⟨R,lf,df,[],d,lf',df',[],rfl,rfl,r.2.1,.nil,hF,q⟩
end
structure OB(K:Frag)(C a dx:Addr)(H0:Hp)(ls:List (Str×Addr))(lf:LF)(df:DF)(G:Gam)(σ:St)(H:Hp)(fs:List (Str×V)):Prop where
 slot:σ[0]?=some (some (.ref a))
 oz:OzS K ⟨C,a,dx,ls⟩ lf df (lef (OR.L ⟨C,a,dx,ls⟩) H) H fs
 sd:SD K (lef (OR.L ⟨C,a,dx,ls⟩) H) σ G
 cnt:fs.length<=lf.length+df.length
 keep:∀b o,b≠a->H0 b=some o->H b=some o
 fre:∀q∈ls,H0 q.2=none
def tOB(K:Frag)(C a dx:Addr)(H0:Hp)(lf:LF)(df:DF)(G:Gam)(lf':LF)(df':DF):TS:=λD σ H=>(∃ls fs,OB K C a dx H0 ls lf df G σ H fs)/\∀ls' fs' H',OB K C a dx H0 ls' lf' df' G σ H' fs'->D.nx σ H'
variable{lf2:LF}{df2:DF}
section
variable{a dx:Addr}
theorem BZ{st:Stmt}(h1:PS X st (tOB X.K C a dx H0 lf df G lf' df'))(h2:PSs X sts (tOB X.K C a dx H0 lf' df' G lf2 df2)):PSs X (st::sts) (tOB X.K C a dx H0 lf df G lf2 df2):=
 (Az h1 h2).imp λD σ H ⟨r,q⟩=>⟨r,λls fs H' o=>⟨⟨ls,fs,o⟩,q⟩⟩
theorem RH:PSs X [] (tOB X.K C a dx H0 lf df G lf df):=pss_nil.imp λD σ H ⟨⟨ls,fs,o⟩,q⟩=>q ls fs H o
theorem OB.step{ls:List (Str×Addr)}{fs:List (Str×V)}(o:OB K C a dx H0 ls lf df G σ H fs)(s:Same H H'):OB K C a dx H0 ls lf df G σ H' fs:=
 ⟨o.slot,o.oz.mono s.lef s,o.sd.mono s.lef,o.cnt,λb u hb e=>s _ _ (o.keep b u hb e),o.fre⟩
theorem Sx(h:EV X G e d)(hs:swapsWith e none pos.line X.env=pure false:=by rfl):PS X (.Expr e pos) (tOB X.K C a dx H0 lf df G lf df):=
 (BG h hs).imp λD σ H ⟨⟨ls,fs,o⟩,q⟩=>⟨o.sd.mono lef_same,λv H' s' _=>q ls fs H' (o.step s')⟩
theorem OB.data{ls:List (Str×Addr)}{fs:List (Str×V)}{y:V}(o:OB K C a dx H0 ls lf df G σ H fs)(dv:DV K (lef (OR.L ⟨C,a,dx,ls⟩) H) y d)(hf:f∉lf.map (·.1))(hf2:f∉df.map (·.1))(hA:f∈Bk)(hz:lf.length+df.length<30):OB K C a dx H0 ls lf (df++[(f,d)]) G σ (upd H a (.ins C dx (putF f y fs))) (putF f y fs):=by
 have eL:lef (OR.L ⟨C,a,dx,ls⟩) (upd H a (.ins C dx (putF f y fs)))=lef (OR.L ⟨C,a,dx,ls⟩) H:=Bq List.mem_cons_self
 have nal:∀p∈ls.map (·.2),p≠a:=λp hp z=>(List.nodup_cons.mp o.oz.nda).1 (z▸List.mem_cons_of_mem _ hp)
 have nad:dx≠a:=λz=>(List.nodup_cons.mp o.oz.nda).1 (z▸List.mem_cons_self)
 have hlen:=Dc f y fs
 have hc:=o.cnt
 refine⟨o.slot,?_,by rw[eL];exact o.sd,by rw[List.length_append];show _<=lf.length+(df.length+1);omega,λb u hb e=>by rw[Aj hb];exact o.keep b u hb e,o.fre⟩
 rw[eL]
 refine⟨Al,by rw[Aj nad];exact o.oz.own1,by omega,λm hm=>?_,o.oz.nda,λz hz=>?_,λz hz=>?_,λz hz=>?_,λz hz=>?_⟩
 .rw[A4,if_neg (λw:m=f=>hm (w▸hA))]
  exact o.oz.nam m hm
 .rcases List.mem_append.mp hz with hz|hz
  .exact o.oz.apart z hz
  .rw[List.mem_singleton.mp hz];exact hf
 .obtain⟨us,hu⟩:=o.oz.own z hz
  exact⟨us,by rw[Aj (nal _ (List.mem_map_of_mem hz))];exact hu⟩
 .obtain⟨p,us,h1,h2,h3,h4,h5⟩:=o.oz.lst z hz
  refine⟨p,us,h1,?_,?_,h4,h5⟩
  .rw[A4,if_neg (λw:z.1=f=>hf (w▸List.mem_map_of_mem hz))]
   exact h2
  .rw[Aj (nal _ (List.mem_map_of_mem (f:=(·.2)) h1))]
   exact h3
 .rcases List.mem_append.mp hz with hz|hz
  .obtain⟨v,h1,h2⟩:=o.oz.dat z hz
   exact⟨v,by rw[A4,if_neg (λw:z.1=f=>hf2 (w▸List.mem_map_of_mem hz))];exact h1,h2⟩
  .rw[List.mem_singleton.mp hz]
   exact⟨y,by rw[A4,if_pos rfl],dv⟩
theorem OB.ok{ls:List (Str×Addr)}{fs:List (Str×V)}(o:OB K C a dx H0 ls lf df G σ H fs):Oz K ⟨C,a,dx,ls⟩ lf df H:=⟨fs,o.oz⟩
theorem LC(cl:Cls X.K C)(na:NoAttr X.K C f)(hv:PE X (.Name x pos2) (tVar 0))(h:EV X G e d)(hn:noL d=true)(hf:f∉lf.map (·.1))(hf2:f∉df.map (·.1))(hA:f∈Bk)(hz:lf.length+df.length<30)
  (hs:swapsWith e (some (.Attribute (.Name x pos2) f pos')) pos.line X.env=pure false:=by rfl):PS X (.Assign [.Attribute (.Name x pos2) f pos'] e pos) (tOB X.K C a dx H0 lf df G lf (df++[(f,d)])):=by
 refine(JP hv h hs).imp λD σ H ⟨⟨ls,fs,o⟩,q⟩=>⟨o.sd.mono lef_same,λy H1 s1 d1=>?_⟩
 have o1:=o.step s1
 exact⟨.ref a,o.slot,a,C,dx,fs,rfl,o1.oz.obj,cl,na,by have:=o.cnt;omega,q _ _ _ (o1.data (DV.lef (oz_ok.notup o1.ok) d1 hn) hf hf2 hA hz)⟩
theorem HI(cl:Cls X.K C)(na:NoAttr X.K C f)(hv:PE X (.Name x pos2) (tVar 0))(h:EVF X G e ws)(hn:noLs ws=true)(hf:f∉lf.map (·.1))(hf2:f∉df.map (·.1))(hA:f∈Bk)(hz:lf.length+df.length<30)
  (hs:swapsWith e (some (.Attribute (.Name x pos2) f pos')) pos.line X.env=pure false:=by rfl):PS X (.Assign [.Attribute (.Name x pos2) f pos'] e pos) (tOB X.K C a dx H0 lf df G (lf++[(f,ws)]) df):=by
 refine(JP hv h hs).imp λD σ H ⟨⟨ls,fs,o⟩,q⟩=>⟨o.sd.mono lef_same,λp us H1 hp s1 hl d1=>?_⟩
 have o1:=o.step s1
 have hpL:p∉OR.L ⟨C,a,dx,ls⟩:=oz_ok.free o.ok hp
 refine⟨.ref a,o.slot,a,C,dx,fs,rfl,o1.oz.obj,cl,na,by have:=o.cnt;omega,q (ls++[(f,p)]) (putF f (.ref p) fs) _ ?_⟩
 have hpa:p≠a:=λz=>hpL (by rw[z];exact mem_cons_self)
 have nal:∀p∈ls.map (·.2),p≠a:=λp hp z=>(nodup_cons.mp o.oz.nda).1 (z▸mem_cons_of_mem _ hp)
 have nad:dx≠a:=λz=>(nodup_cons.mp o.oz.nda).1 (z▸mem_cons_self)
 have hlen:=Dc f (.ref p) fs
 have hc:=o.cnt
 have e2:OR.L ⟨C,a,dx,ls++[(f,p)]⟩=OR.L ⟨C,a,dx,ls⟩++[p]:=by show a::dx::(ls++[(f,p)]).map (·.2)=_;rw[map_append];rfl
 have sub:∀{H':Hp},Same (lef (OR.L ⟨C,a,dx,ls⟩) H) H'->∀b o,lef (OR.L ⟨C,a,dx,ls⟩) H b=some o->b≠p:=λ_ b o e z=>by
  subst z
  have:=lef_same _ _ e
  rw[hp]at this
  cases this
 have sL:Same (lef (OR.L ⟨C,a,dx,ls⟩) H) (lef (OR.L ⟨C,a,dx,ls++[(f,p)]⟩) (upd H1 a (.ins C dx (putF f (.ref p) fs)))):=λb o e=>by
  have n1:b≠p:=sub (Same.refl _) b o e
  have n2:b∉OR.L ⟨C,a,dx,ls⟩:=λz=>by rw[A9 z]at e;cases e
  have n3:b∉OR.L ⟨C,a,dx,ls++[(f,p)]⟩:=by
   rw[e2]
   intro z
   rcases mem_append.mp z with z|z
   .exact n2 z
   .exact n1 (mem_singleton.mp z)
  rw[Ao n3,Aj λz=>n2 (by rw[z];exact mem_cons_self)]
  rw[Ao n2]at e
  exact s1 _ _ e
 have dws:DVs X.K (lef (OR.L ⟨C,a,dx,ls++[(f,p)]⟩) (upd H1 a (.ins C dx (putF f (.ref p) fs)))) us ws:=by
  have h1:DVs X.K (lef [p] (lef (OR.L ⟨C,a,dx,ls⟩) H1)) us ws:=by
   have nt:∀b∈[p],∀xs,¬Rd (lef (OR.L ⟨C,a,dx,ls⟩) H1) b (.tup xs):=λb hb xs r=>by
    have:=mem_singleton.mp hb
    subst this
    rcases r with r|⟨q,r⟩<;>(rw[Ao hpL,hl]at r;cases r)
   exact DVs.lef nt (DVs.lef (oz_ok.notup o1.ok) d1 hn) hn
  refine h1.mono λb o e=>?_
  have m1:b∉[p]:=λz=>by rw[A9 z]at e;cases e
  rw[Ao m1]at e
  have m2:b∉OR.L ⟨C,a,dx,ls⟩:=λz=>by rw[A9 z]at e;cases e
  rw[Ao m2]at e
  have m3:b∉OR.L ⟨C,a,dx,ls++[(f,p)]⟩:=by
   rw[e2]
   intro z
   rcases mem_append.mp z with z|z
   .exact m2 z
   .exact m1 z
  rw[Ao m3,Aj λz=>m2 (by rw[z];exact mem_cons_self)]
  exact e
 refine⟨o.slot,?_,o.sd.mono sL,by rw[length_append];show _<=lf.length+1+df.length;omega,λb u hb e=>by rw[Aj hb];exact o1.keep b u hb e,λz hz=>?_⟩
 .refine⟨Al,by show upd H1 a _ dx=_;rw[Aj nad];exact s1 _ _ o.oz.own1,by omega,λm hm=>?_,?_,λz hz=>?_,λz hz=>?_,λz hz=>?_,λz hz=>?_⟩
  .rw[A4,if_neg (λw:m=f=>hm (w▸hA))]
   exact o.oz.nam m hm
  .rw[e2,nodup_append]
   refine⟨o.oz.nda,nodup_cons.mpr ⟨by simp,nodup_nil⟩,λy hy z hz w=>?_⟩
   rw[mem_singleton.mp hz]at w
   exact hpL (w▸hy)
  .rw[map_append]
   intro w
   rcases mem_append.mp w with w|w
   .exact o.oz.apart z hz w
   .exact hf2 ((show z.1=f from mem_singleton.mp w)▸mem_map_of_mem hz)
  .rcases mem_append.mp hz with hz|hz
   .obtain⟨us',hu⟩:=o1.oz.own z hz
    exact⟨us',by rw[Aj (nal _ (mem_map_of_mem hz))];exact hu⟩
   .rw[mem_singleton.mp hz]
    exact⟨us,by rw[Aj hpa];exact hl⟩
  .rcases mem_append.mp hz with hz|hz
   .obtain⟨p',us',h1,h2,h3,h4,h5⟩:=o.oz.lst z hz
    refine⟨p',us',mem_append_left _ h1,?_,?_,h4.mono sL,h5⟩
    .rw[A4,if_neg (λw:z.1=f=>hf (w▸mem_map_of_mem hz))]
     exact h2
    .show upd H1 a _ p'=_
     rw[Aj (nal _ (mem_map_of_mem (f:=(·.2)) h1))]
     exact s1 _ _ h3
   .rw[mem_singleton.mp hz]
    exact⟨p,us,mem_append_right _ mem_cons_self,by rw[A4,if_pos rfl],by show upd H1 a _ p=_;rw[Aj hpa];exact hl,dws,hn⟩
  .obtain⟨v,h1,h2⟩:=o.oz.dat z hz
   exact⟨v,by rw[A4,if_neg (λw:z.1=f=>hf2 (w▸mem_map_of_mem hz))];exact h1,h2.mono sL⟩
 .rcases mem_append.mp hz with hz|hz
  .exact o.fre z hz
  .rw[mem_singleton.mp hz]
   show H0 p=none
   cases e:H0 p with
   |none=>rfl
   |some u=>have:=o.keep p u hpa e;rw[hp]at this;cases this
end
def spOI(K:Frag)(C:Addr)(F:List PyData->LF->DF->Prop):Sp:=λvs H Q _=>∃(a dx:Addr) (ds:List PyData) (lf:LF) (df:DF) (vr:List V),vs=.ref a::vr/\H a=some (.ins C dx [])/\H dx=some (.own a)/\dx≠a/\DVs K (lef [a,dx] H) vr ds/\F ds lf df/\
 ∀H' R,R.C=C->R.a=a->R.dx=dx->Oz K R lf df H'->(∀b o,b≠a->H b=some o->H' b=some o)->(∀q∈R.ls,H q.2=none)->Q .non H'
def OIFn(P:Program)(w:World)(K:Frag)(mg:Str->Option Value)(base:Heap)(k:Nat)(C:Addr)(F:List PyData->LF->DF->Prop):Prop:=
 ∃f fd ps,FnOk P w K mg base CX0 k f fd ps (spOI K C F)/\Mk K C f/\Binds K fd ps []
variable{qual n0:Str}{st:Stmt}{fd:FuncData}{ps:List Str}
theorem Fun.objI{f:Addr}{k:Nat}{F:List PyData->LF->DF->Prop}(F0:Fun K x qual st f fd)(hm:Mk K C f)(hb:Binds K fd ps [])(S:FnScope (n0::N) ps (Ae st))(len:∀ds lf df,F ds lf df->ds.length+1=ps.length)
  (hbody:∀(cdv:Value) (A:Around) (outer:List Env) (s:Shared) (H:Hp) (E:XK) (a dx:Addr) (H0:Hp) (ds:List PyData) (lf:LF) (df:DF),Room k (A.deeper (envOfC qual (Ae st) s.heap.objs.size f cdv))->F ds lf df->
   PSs (cxOf CX0 P w K mg base (n0::N) qual (Ae st) f cdv A outer s H E).nox (AN st) (tOB K C a dx H0 [] [] (none::Bh N ds) lf df)):OIFn P w K mg base (k+1) C F:=by
 refine⟨f,fd,ps,F0.ok S (λvs H Q E ⟨a,dx,ds,lf,df,vr,e,_,_,_,dv,hF,_⟩=>by rw[e,List.length_cons,dv.length];exact len ds lf df hF) (λcdv A outer s H vs Q E hr ⟨a,dx,ds,lf,df,vr,e,ha,hdx,hne,dv,hF,q⟩=>?_),hm,hb⟩
 subst e
 refine⟨_,hbody cdv A outer s H E a dx H ds lf df hr hF,⟨[],[],?_,?_,?_,Nat.zero_le _,λb o _ e=>e,(λz hz=>by cases hz)⟩,λls' fs' H' o=>q H' ⟨C,a,dx,ls'⟩ rfl rfl rfl o.ok (λb u hb e=>o.keep b u hb e) o.fre⟩
 .rw[Bp];rfl
 .exact⟨ha,hdx,Nat.zero_le _,λ_ _=>rfl,List.nodup_cons.mpr ⟨by simpa using Ne.symm hne,List.nodup_cons.mpr ⟨by simp,List.nodup_nil⟩⟩,(λz hz=>by cases hz),(λz hz=>by cases hz),(λz hz=>by cases hz),(λz hz=>by cases hz)⟩
 .rw[Bp];exact(SD.start dv).cons0 _
section
variable{k:Nat}
end
section
variable{L:List Addr}{l:Nat}
theorem NL(h:ZE X L I rs G e (.tuple [d1,d2]) I1)(hpg:PG X tg (gTup X.K 2 (Ds [i,j])))(hi:∀q∈rs,q.1≠i)(hj:∀q∈rs,q.1≠j)
  (hs:swapsWithSole [tg] e pos.line X.env=pure false:=by rfl)(hw:swappedStores [tg] e X.env=pure none:=by rfl)(h1:(assignEach [tg] X.env).map (·.2)=[assign tg X.env]:=by rfl):
  PS X (.Assign [tg] e pos) (zN X.K L I rs G ((G.set i (some d1)).set j (some d2)) I1):=
 (C8 h hpg hs hw h1).imp λD σ H ⟨r,q⟩=>⟨r,λv H1 t1 s1 dv=>by
  obtain⟨l,ys,rfl,hq,dys⟩:=dv.of_tup
  obtain⟨v1,v2,rfl,dv1,dv2⟩:=dys.two
  refine⟨l,[v1,v2],rfl,lef_same.seqT hq,rfl,v1,[v2],rfl,v2,[],rfl,rfl,?_⟩
  refine q _ H1 ⟨λz hz=>?_,t1,((r.2.2.mono s1).set dv1).set dv2⟩ s1
  rw[getElem?_set_ne (hj z hz).symm,getElem?_set_ne (hi z hz).symm]
  exact r.1 z hz⟩
theorem Sb(h:ZE X L I rs G e (.tuple [d1,d2,d3]) I1)(hpg:PG X tg (gTup X.K 3 (Ds [i,j,l])))(hi:∀q∈rs,q.1≠i)(hj:∀q∈rs,q.1≠j)(hl:∀q∈rs,q.1≠l)
  (hs:swapsWithSole [tg] e pos.line X.env=pure false:=by rfl)(hw:swappedStores [tg] e X.env=pure none:=by rfl)(h1:(assignEach [tg] X.env).map (·.2)=[assign tg X.env]:=by rfl):
  PS X (.Assign [tg] e pos) (zN X.K L I rs G (((G.set i (some d1)).set j (some d2)).set l (some d3)) I1):=
 (C8 h hpg hs hw h1).imp λD σ H ⟨r,q⟩=>⟨r,λv H1 t1 s1 dv=>by
  obtain⟨l,ys,rfl,hq,dys⟩:=dv.of_tup
  obtain⟨v1,v2,v3,rfl,dv1,dv2,dv3⟩:=three dys
  refine⟨l,[v1,v2,v3],rfl,lef_same.seqT hq,rfl,v1,[v2,v3],rfl,v2,[v3],rfl,v3,[],rfl,rfl,?_⟩
  refine q _ H1 ⟨λz hz=>?_,t1,(((r.2.2.mono s1).set dv1).set dv2).set dv3⟩ s1
  rw[getElem?_set_ne (hl z hz).symm,getElem?_set_ne (hj z hz).symm,getElem?_set_ne (hi z hz).symm]
  exact r.1 z hz⟩
end
def Fo(H:Hp)(L:List Addr)(b:Addr):Prop:=(∃xs,H b=some (.lst xs))\/(∃C dx fs,H b=some (.ins C dx fs)/\dx∈L)\/∃a C fs,H b=some (.own a)/\a∈L/\H a=some (.ins C b fs)
def Br(L:List Addr)(H H':Hp):Hp:=λb=>if b∈L then H b else H' b
theorem AO{L:List Addr}{b:Addr}(h:b∈L):Br L H H' b=H b:=by unfold Br;rw[if_pos h]
theorem CJ{L:List Addr}{b:Addr}(h:b∉L):Br L H H' b=H' b:=by unfold Br;rw[if_neg h]
theorem Ch{L:List Addr}(h:∀b∈L,H' b=none):lef L (Br L H H')=H':=by
 funext b
 by_cases hb:b∈L
 .rw[A9 hb,h b hb]
 .rw[Ao hb,CJ hb]
variable{s':Shared}
section
variable{L:List Addr}
theorem Inv.fsFree(I:Inv X pins σ H s):∀b∈X.fs,H b=none:=λb hb=>by
 obtain⟨_,o,ho,_⟩:=I.ok.funs.mem hb
 exact I.base.free b o ho (I.ok.frf b hb) λz=>I.ok.exfs b z hb
theorem Fo.obj(I:Inv X pins σ H s){b:Addr}(f:Fo H L b):∃o,s.heap.get? b=some o/\∀v,o.data≠.cell v:=by
 rcases f with⟨xs,e⟩|⟨C,dx,fs,e,_⟩|⟨a,C,fs,e,_,ea⟩
 .obtain⟨_,its,n,_,g⟩:=(show ObjOk X.prog X.w H s.heap b (.lst xs)from I.hok b _ e)
  exact⟨_,g,λv z=>by cases z⟩
 .obtain⟨_,_,_,g,_⟩:=(show ObjOk X.prog X.w H s.heap b (.ins C dx fs)from I.hok b _ e)
  exact⟨_,g,λv z=>by cases z⟩
 .obtain⟨_,_,_,_,mA,⟨od,es,ep,g,d,_⟩,_⟩:=(show ObjOk X.prog X.w H s.heap a (.ins C b fs)from I.hok a _ ea)
  exact⟨od,g,λv z=>by rw[d]at z;cases z⟩
theorem Fo.some{b:Addr}(f:Fo H L b):∃o,H b=some o/\(∀xs,o≠.tup xs)/\(∀q u,o≠.frz q u)/\∀ps,o≠.tbl ps:=by
 rcases f with⟨xs,e⟩|⟨C,dx,fs,e,_⟩|⟨a,C,fs,e,_,_⟩
 .exact⟨_,e,(λ_ z=>by cases z),(λ_ _ z=>by cases z),(λ_ z=>by cases z)⟩
 .exact⟨_,e,(λ_ z=>by cases z),(λ_ _ z=>by cases z),(λ_ z=>by cases z)⟩
 .exact⟨_,e,(λ_ z=>by cases z),(λ_ _ z=>by cases z),(λ_ z=>by cases z)⟩
end
def Fq(H:Hp)(L:List Addr)(b:Addr):Prop:=Fo H L b\/∃kvs,H b=some (.dK kvs)
section
variable{σ':St}{L:List Addr}
theorem Fq.obj(I:Inv X pins σ H s){b:Addr}(f:Fq H L b):∃o,s.heap.get? b=some o/\∀v,o.data≠.cell v:=by
 rcases f with f|⟨kvs,e⟩
 .exact f.obj I
 .obtain⟨_,_,vs,_,ob,es,ep,g,_,d,_⟩:=Lg I.hok (.inl e)
  exact⟨ob,g,λv z=>by rw[d]at z;cases z⟩
theorem Fq.some{b:Addr}(f:Fq H L b):∃o,H b=some o/\(∀xs,o≠.tup xs)/\(∀q u,o≠.frz q u)/\∀ps,o≠.tbl ps:=by
 rcases f with f|⟨kvs,e⟩
 .exact f.some
 .exact⟨_,e,(λ_ z=>by cases z),(λ_ _ z=>by cases z),(λ_ z=>by cases z)⟩
theorem Ka(I:Inv X pins σ H s):∀(l:List Addr),(∀b∈l,Fq H L b)->∃ps:List (Addr×Obj),ps.map (·.1)=l/\∀p∈ps,s.heap.get? p.1=some p.2/\∀v,p.2.data≠.cell v
 |[],_=>⟨[],rfl,(λp hp=>by cases hp)⟩
 |b::l,h=>by
  obtain⟨ps,e,g⟩:=Ka I l λz hz=>h z (mem_cons_of_mem _ hz)
  obtain⟨o,ho,hc⟩:=Fq.obj I (h b mem_cons_self)
  refine⟨(b,o)::ps,by rw[map_cons,e],λp hp=>?_⟩
  rcases mem_cons.mp hp with rfl|hp
  .exact⟨ho,hc⟩
  .exact g p hp
theorem Inv.forgetQ(I:Inv X pins σ H s)(hL:∀b∈L,Fq H L b):∃ps:List (Addr×Obj),ps.map (·.1)=L/\Inv X (ps++pins) σ (lef L H) s:=by
 obtain⟨ps,e,g⟩:=Ka I L hL
 have non:∀{b:Addr},H b=none->lef L H b=none:=λ{b} h=>by
  by_cases hb:b∈L
  .exact A9 hb
  .rw[Ao hb];exact h
 have not:∀{b:Addr}{o:HO},H b=some o->((∃xs,o=.tup xs)\/(∃q u,o=.frz q u)\/∃ps,o=.tbl ps)->b∉L:=λ{b o} h k hb=>by
  obtain⟨o',e',k1,k2,k3⟩:=Fq.some (hL b hb)
  rw[h]at e'
  cases e'
  rcases k with⟨xs,rfl⟩|⟨q,u,rfl⟩|⟨ps,rfl⟩
  .exact k1 _ rfl
  .exact k2 _ _ rfl
  .exact k3 _ rfl
 refine⟨ps,e,I.ok,I.os,I.bare,⟨I.base.keep,I.base.slot,λb o h1 h2 h3=>non (I.base.free b o h1 h2 h3),I.base.there,λb xs h=>?_,λb o u h=>?_,λb q h=>?_⟩,I.loc,I.cell,non I.free,λx c h=>non (I.freeC x c h),λp hp=>?_,λa o h=>?_,I.len⟩
 .have:=I.base.tups b xs h
  rw[Ao (not this (.inl ⟨_,rfl⟩))];exact this
 .have:=I.base.frzs b o u h
  rw[Ao (not this (.inr (.inl ⟨_,_,rfl⟩)))];exact this
 .obtain⟨more,this⟩:=I.base.tbls b q h
  exact⟨more,by rw[Ao (not this (.inr (.inr ⟨_,rfl⟩)))];exact this⟩
 .have old:p∈X.pn++pins->s.heap.get? p.1=some p.2/\lef L H p.1=none/\p.1≠X.env.locals/\p.1∉X.fs/\∀v,p.2.data≠.cell v:=λh=>by
   obtain⟨a,b,c⟩:=I.pin p h
   exact⟨a,non b,c⟩
  rcases List.mem_append.mp hp with h|h
  .exact old (List.mem_append_left _ h)
  .rcases List.mem_append.mp h with h|h
   .have hb:p.1∈L:=by rw[<-e];exact List.mem_map_of_mem h
    obtain⟨o',e',_⟩:=Fq.some (hL p.1 hb)
    exact⟨(g p h).1,A9 hb,(λz=>by rw[z,I.free]at e';cases e'),(λz=>by rw[I.fsFree _ z]at e';cases e'),(g p h).2⟩
   .exact old (List.mem_append_right _ h)
 .have ha:a∉L:=λz=>by rw[A9 z]at h;cases h
  rw[Ao ha]at h
  refine(I.hok a o h).stay (λb u _ q=>q) (λb hb=>?_) λb xs hb=>?_
  .have:b∉L:=λz=>by
    rcases hL b z with(⟨xs,e'⟩|⟨C,dx,fs,e',_⟩|⟨a',C,fs,e',ha',_⟩)|⟨kvs,e'⟩
    .rw[hb]at e';cases e'
    .rw[hb]at e';cases e'
    .rw[hb]at e';cases e';exact ha ha'
    .rw[hb]at e';cases e'
   rw[Ao this];exact hb
  .rw[Ao (not hb (.inl ⟨_,rfl⟩))];exact hb
theorem Inv.regainQ(I:Inv X pins σ H s)(hL:∀b∈L,Fq H L b){ps:List (Addr×Obj)}(e:ps.map (·.1)=L)(J0:Inv X (ps++pins) σ (lef L H) s)(J:Inv X (ps++pins) σ' H' s'):(∀b∈L,H' b=none)/\Inv X pins σ' (Br L H H') s':=by
 have fr:∀b∈L,H' b=none/\∀o,s.heap.get? b=some o->s'.heap.get? b=some o:=λb hb=>by
  rw[<-e]at hb
  obtain⟨p,hp,rfl⟩:=List.mem_map.mp hb
  have j:=J.pin p (List.mem_append_right _ (List.mem_append_left _ hp))
  have j0:=J0.pin p (List.mem_append_right _ (List.mem_append_left _ hp))
  exact⟨j.2.1,λo ho=>by rw[j0.1]at ho;cases ho;exact j.1⟩
 have non:∀{b:Addr},(b∈L->H b=none)->H' b=none->Br L H H' b=none:=λ{b} h h'=>by
  by_cases hb:b∈L
  .rw[AO hb];exact h hb
  .rw[CJ hb];exact h'
 have up:∀{b:Addr}{o:HO},H' b=some o->Br L H H' b=some o:=λ{b o} h=>by
  have hb:b∉L:=λz=>by rw[(fr b z).1]at h;cases h
  rw[CJ hb];exact h
 refine⟨λb hb=>(fr b hb).1,J.ok,J.os,J.bare,⟨J.base.keep,J.base.slot,λb o h1 h2 h3=>non (λ_=>I.base.free b o h1 h2 h3) (J.base.free b o h1 h2 h3),J.base.there,λb xs h=>up (J.base.tups b xs h),λb o u h=>up (J.base.frzs b o u h),λb q h=>let⟨more,z⟩:=J.base.tbls b q h;⟨more,up z⟩⟩,J.loc,J.cell,non (λ_=>I.free) J.free,λx c h=>non (λ_=>I.freeC x c h) (J.freeC x c h),λp hp=>?_,λa o h=>?_,J.len⟩
 .have hp':p∈X.pn++(ps++pins):=by
   rcases List.mem_append.mp hp with h|h
   .exact List.mem_append_left _ h
   .exact List.mem_append_right _ (List.mem_append_right _ h)
  obtain⟨a,b,c⟩:=J.pin p hp'
  exact⟨a,non (λ_=>(I.pin p hp).2.1) b,c⟩
 .by_cases ha:a∈L
  .rw[AO ha]at h
   rcases hL a ha with(⟨xs,e'⟩|⟨C,dx,fs,e',hdx⟩|⟨a',C,fs,e',ha',ea'⟩)|⟨kvs,e'⟩
   .rw[h]at e'
    cases e'
    obtain⟨z,its,n,r,g⟩:=(show ObjOk X.prog X.w H s.heap a (.lst xs)from I.hok a _ h)
    exact⟨z,its,n,r,(fr a ha).2 _ g⟩
   .rw[h]at e'
    cases e'
    obtain⟨d,z,ne,g,mA,⟨od,es,ep,g2,c⟩,r⟩:=(show ObjOk X.prog X.w H s.heap a (.ins C dx fs)from I.hok a _ h)
    exact⟨by rw[AO hdx];exact d,z,ne,(fr a ha).2 _ g,mA,⟨od,es,ep,(fr dx hdx).2 _ g2,c⟩,r⟩
   .rw[h]at e'
    cases e'
    obtain⟨ob,g⟩:=(show ObjOk X.prog X.w H s.heap a (.own a')from I.hok a _ h)
    exact⟨ob,(fr a ha).2 _ g⟩
   .rw[h]at e'
    cases e'
    obtain⟨z,hd,vs,rel,ob,es,ep,g,c⟩:=(show ObjOk X.prog X.w H s.heap a (.dK kvs)from I.hok a _ h)
    exact⟨z,hd,vs,rel,ob,es,ep,(fr a ha).2 _ g,c⟩
  .rw[CJ ha]at h
   exact(J.hok a o h).stay (λb u _ q=>q) (λb hb=>up hb) λb xs hb=>up hb
end
theorem OZ{t:TE}(L:List Addr)(h:PE X e t):PE X e (λσ H Q=>(∀b∈L,Fq H L b)/\t σ (lef L H) λv H'=>(∀b∈L,H' b=none)->Q v (Br L H H')):=by
 intro pins s σ H Q I ⟨hL,q⟩
 obtain⟨ps,e,J0⟩:=I.forgetQ hL
 refine thn (h (ps++pins) s σ (lef L H) _ J0 q) λu s1 ⟨v,H1,J,r,k⟩=>?_
 obtain⟨n,I1⟩:=I.regainQ hL e J0 J
 exact⟨v,_,I1,r,k n⟩
theorem Lf{t:TE}(L:List Addr)(h:PE X e t):PE X e (λσ H Q=>(∀b∈L,Fo H L b)/\t σ (lef L H) λv H'=>Same (lef L H) H'/\((∀b∈L,H' b=none)->Q v (Br L H H'))):=by
 intro pins s σ H Q I ⟨hL,q⟩
 have hQ:∀b∈L,Fq H L b:=λb hb=>.inl (hL b hb)
 obtain⟨ps,e,J0⟩:=I.forgetQ hQ
 refine thn (h (ps++pins) s σ (lef L H) _ J0 q) λu s1 ⟨v,H1,J,r,sm,k⟩=>?_
 obtain⟨n,I1⟩:=I.regainQ hQ e J0 J
 exact⟨v,_,I1,r,k n⟩
theorem Qu{L:List Addr}(hI:∀H,I H->∀b∈L,Fo H L b)(st:∀H H',I H->(∀b∈L,H' b=none)->Same (lef L H) H'->I (Br L H H'))(h:EV X G e d):ZE X L I rs G e d I:=
 (Lf L h).imp λσ H Q ⟨r,q⟩=>⟨hI H r.2.1,r.2.2,λv H' s' dv=>⟨s',λn=>q v _ (st H H' r.2.1 n s') (by rw[Ch n];exact s') (by rw[Ch n];exact dv)⟩⟩
theorem Oz.fo(i:Oz K R lf df H):∀b∈R.L,Fo H R.L b:=λb hb=>by
 obtain⟨fs,t⟩:=i
 rcases List.mem_cons.mp hb with e|e
 .exact .inr (.inl ⟨_,_,_,by rw[e];exact t.obj,List.mem_cons_of_mem _ List.mem_cons_self⟩)
 rcases List.mem_cons.mp e with e|e
 .exact .inr (.inr ⟨R.a,R.C,fs,by rw[e];exact t.own1,List.mem_cons_self,by rw[e];exact t.obj⟩)
 .obtain⟨q,hq,rfl⟩:=List.mem_map.mp e
  exact .inl (t.own q hq)
theorem Oz.join(i:Oz K R lf df H)(n:∀b∈R.L,H' b=none)(s:Same (lef R.L H) H'):Oz K R lf df (Br R.L H H'):=by
 obtain⟨fs,t⟩:=i
 refine⟨fs,?_⟩
 rw[Ch n]
 refine⟨by rw[AO List.mem_cons_self];exact t.obj,by rw[AO (List.mem_cons_of_mem _ List.mem_cons_self)];exact t.own1,t.few,t.nam,t.nda,t.apart,λq hq=>?_,λq hq=>?_,λq hq=>?_⟩
 .rw[AO (List.mem_cons_of_mem _ (List.mem_cons_of_mem _ (List.mem_map_of_mem hq)))]
  exact t.own q hq
 .obtain⟨p,us,h1,h2,h3,h4,h5⟩:=t.lst q hq
  exact⟨p,us,h1,h2,by rw[AO (List.mem_cons_of_mem _ (List.mem_cons_of_mem _ (List.mem_map_of_mem (f:=(·.2)) h1)))];exact h3,h4.mono s,h5⟩
 .obtain⟨v,h1,h2⟩:=t.dat q hq
  exact⟨v,h1,h2.mono s⟩
theorem Fx(h:EV X G e d):ZE X R.L (Oz X.K R lf df) rs G e d (Oz X.K R lf df):=Qu (λ_ i=>i.fo) (λ_ _ i n s=>i.join n s) h
section
variable{l:Nat}
theorem OSt.fo(o:OSt K H0 p i G ds σ H):∀b∈[p],Fo H [p] b:=λb hb=>by
 obtain⟨Hb,vs,rfl,_⟩:=o
 rw[List.mem_singleton.mp hb]
 exact .inl ⟨vs,Al⟩
theorem OSt.join(o:OSt K H0 p i G ds σ H)(n:∀b∈[p],H' b=none)(s:Same (lef [p] H) H'):∃vs,Br [p] H H'=upd H' p (.lst vs)/\H' p=none/\Same H0 H'/\SD K H' σ G/\σ[i]?=some (some (.ref p))/\DVs K H' vs ds:=by
 obtain⟨Hb,vs,rfl,hn,s0,hσ,hi,dv⟩:=o
 have e1:lef [p] (upd Hb p (.lst vs))=Hb:=by
  funext b
  by_cases hb:b=p
  .rw[hb,A9 List.mem_cons_self,hn]
  .rw[Ao (by simpa using hb),Aj hb]
 rw[e1]at s
 refine⟨vs,?_,n p List.mem_cons_self,s0.trans s,hσ.mono s,hi,dv.mono s⟩
 funext b
 by_cases hb:b=p
 .rw[hb,AO List.mem_cons_self,Al,Al]
 .rw[CJ (by simpa using hb),Aj hb]
theorem OSt.sdl(o:OSt K H0 p i G ds σ H):SD K (lef [p] H) σ G:=by
 obtain⟨Hb,vs,rfl,hn,s0,hσ,hi,dv⟩:=o
 have e1:lef [p] (upd Hb p (.lst vs))=Hb:=by
  funext b
  by_cases hb:b=p
  .rw[hb,A9 List.mem_cons_self,hn]
  .rw[Ao (by simpa using hb),Aj hb]
 rw[e1]
 exact hσ
theorem Pa(hpg:PG X tg (gTup X.K 2 (Ds [j,l])))(hij:j≠i)(hil:l≠i)(h:∀G ds,Pre G ds->∃d1 d2,EV X G e (.tuple [d1,d2])/\Post ((G.set j (some d1)).set l (some d2)) ds)
  (hs:swapsWithSole [tg] e pos.line X.env=pure false:=by rfl)(hw:swappedStores [tg] e X.env=pure none:=by rfl)(h1:(assignEach [tg] X.env).map (·.2)=[assign tg X.env]:=by rfl):HT1 X H0 p i Pre (.Assign [tg] e pos) Post:=by
 intro pins s σ H D I ⟨⟨G,ds,a,o⟩,q⟩
 obtain⟨d1,d2,ev,po⟩:=h G ds a
 refine C8 (Lf [p] ev) hpg hs hw h1 pins s σ H D I ⟨o.fo,o.sdl,λv H1 s1 dv=>⟨s1,λn=>?_⟩⟩
 obtain⟨vs,eH,hn,s0,sd,hi,dvs⟩:=o.join n s1
 rw[eH]
 obtain⟨t,ys,rfl,hq,dys⟩:=dv.of_tup
 obtain⟨v1,v2,rfl,dv1,dv2⟩:=dys.two
 refine⟨t,[v1,v2],rfl,(Same.new hn).seqT hq,rfl,v1,[v2],rfl,v2,[],rfl,rfl,?_⟩
 exact q _ _ _ ds po ⟨H1,vs,rfl,hn,s0,(sd.set dv1).set dv2,by rw[getElem?_set_ne hil,getElem?_set_ne hij];exact hi,dvs⟩
end
theorem Rn{m:Nat}{es:List PyData}(ha:PE X a (tVar m))(hG:G[m]?=some (some (.list xs))):IV2 X H0 p i q j G ds es tg a xs:=
 (G_ ha).imp λσ H R ⟨o,k⟩=>by
  obtain⟨v,e1,dl⟩:=o.sdb.2 m _ hG
  obtain⟨l,us,rfl,hl,dus⟩:=dl.of_lst
  exact⟨.ref l,e1,l,rfl,⟨us,base2_sub.seq hl⟩,k _ H (Same.refl H) (Po hl dus)⟩
variable{Iv:α->Hp->Prop}
section
variable{L:List Addr}{m:Nat}{T:α}
end
theorem Rj{is:List Nat}{R:PyData->Prop}{o:Out}(h:EVR X G e R)(hg:PG X tg (gTup X.K is.length (Ds is)))(hR:∀d,R d->∃ds,d=.tuple ds/\is.length=ds.length)(h2:∀ds,R (.tuple ds)->is.length=ds.length->SVs X (GB is ds G) sts o)
  (hs:swapsWithSole [tg] e pos.line X.env=pure false:=by rfl)(hw:swappedStores [tg] e X.env=pure none:=by rfl)(h1:(assignEach [tg] X.env).map (·.2)=[assign tg X.env]:=by rfl):SVs X G (.Assign [tg] e pos::sts) o:=by
 have hr:PSs X sts (λD σ H=>∃ds:List PyData,(R (.tuple ds)/\is.length=ds.length)/\tDS X.K (GB is ds G) o D σ H):=λpins s σ H D I ⟨ds,r,q⟩=>h2 ds r.1 r.2 pins s σ H D I q
 refine(Az (C8 h hg hs hw h1) hr).imp λD σ H ⟨h,q⟩=>⟨h,λd v H1 r s1 d1=>?_⟩
 obtain⟨ds,rfl,hl⟩:=hR d r
 refine(JW (k:=0) is ds hl).to v σ H1 G _ (h.mono s1) d1 λσ2 h2=>⟨ds,⟨r,hl⟩,h2,?_⟩
 cases o with
 |next G2=>exact λσ3 H3 s3 h3=>q σ3 H3 (s1.trans s3) h3
 |ret d=>exact λv H3 s3 h3=>q v H3 (s1.trans s3) h3
def IsR(C:Addr)(oa:Option Addr)(R:OR):Prop:=R.C=C/\∀a,oa=some a->R.a=a
def YZ(K:Frag)(C:Addr)(oa:Option Addr)(i:Nat)(G:Gam)(lf:LF)(df:DF)(R:OR)(σ:St)(H:Hp):Prop:=IsR C oa R/\RZ K R.L (Oz K R lf df) [(i,R.a)] G σ H
def yN(K:Frag)(C:Addr)(oa:Option Addr)(i:Nat)(G:Gam)(lf:LF)(df:DF)(G':Gam)(lf':LF)(df':DF):TS:=λD σ H=>∃R,YZ K C oa i G lf df R σ H/\∀R' σ' H',YZ K C oa i G' lf' df' R' σ' H'->Same (lef R.L H) (lef R'.L H')->D.nx σ' H'
def yM(K:Frag)(C:Addr)(oa:Option Addr)(i:Nat)(G:Gam)(lf:LF)(df:DF)(lf':LF)(df':DF):TS:=λD σ H=>∃R,YZ K C oa i G lf df R σ H/\∀R' H',IsR C oa R'->Oz K R' lf' df' H'->Same (lef R.L H) (lef R'.L H')->D.rt (.ref R'.a) H'
variable{oa:Option Addr}{G':Gam}
section
variable{k:Nat}
theorem T4(h:∀R:OR,R.C=C->PSs X sts (zN X.K R.L (Oz X.K R lf df) [(i,R.a)] G G' (Oz X.K R lf' df'))):PSs X sts (yN X.K C oa i G lf df G' lf' df'):=λpins s σ H D I ⟨R,⟨hC,r⟩,q⟩=>h R hC.1 pins s σ H D I ⟨r,λσ' H' r' s'=>q R σ' H' ⟨hC,r'⟩ s'⟩
theorem RI(h1:PS X st (yN X.K C oa i G lf df G1 lf1 df1))(h2:PSs X sts (yN X.K C oa i G1 lf1 df1 G2 lf2 df2)):PSs X (st::sts) (yN X.K C oa i G lf df G2 lf2 df2):=
 (Az h1 h2).imp λD σ H ⟨R,y,q⟩=>⟨R,y,λR1 σ1 H1 y1 s1=>⟨R1,y1,λR2 σ2 H2 y2 s2=>q R2 σ2 H2 y2 (s1.trans s2)⟩⟩
theorem Hi(h1:PS X st (yN X.K C oa i G lf df G1 lf1 df1))(h2:PSs X sts (yM X.K C oa i G1 lf1 df1 lf2 df2)):PSs X (st::sts) (yM X.K C oa i G lf df lf2 df2):=
 (Az h1 h2).imp λD σ H ⟨R,y,q⟩=>⟨R,y,λR1 σ1 H1 y1 s1=>⟨R1,y1,λR2 H2 hC t2 s2=>q R2 H2 hC t2 (s1.trans s2)⟩⟩
theorem J4{te:TE}(h:PE X e te):PSs X (.Return (some e) pos::sts) (tRet te):=by
 intro pins s σ H D I q
 exact Az (EW h) (AA (sts:=sts)) pins s σ H D I q
theorem Ua(hv:PE X (.Name x pos2) (tVar i)):PSs X (.Return (some (.Name x pos2)) pos::sts) (yM X.K C oa i G lf df lf df):=
 (J4 hv).imp λD σ H ⟨R,⟨hC,r⟩,q⟩=>⟨.ref R.a,r.1 _ mem_cons_self,q R H hC r.2.1 (Same.refl _)⟩
theorem GV(cl:Cls X.K C)(na:NoAttr X.K C f)(hv:PE X (.Name x pos2) (tVar i))(h:EVF X (viewO C lf df i G) e ws)(hn:noLs ws=true)(hf:f∈lf.map (·.1))(hA:f∈Bk)
  (hs:swapsWith e (some (.Attribute (.Name x pos2) f pos')) pos.line X.env=pure false:=by rfl):PS X (.Assign [.Attribute (.Name x pos2) f pos'] e pos) (yN X.K C oa i G lf df G (upL f ws lf) df):=by
 refine(JP hv h hs).imp λD σ H ⟨R,⟨⟨hC,hoa⟩,r⟩,q⟩=>?_
 subst hC
 refine⟨r.viewO mem_cons_self,λp us H1 hp s1 hl d1=>?_⟩
 have r1:=r.step oz_ok s1
 obtain⟨fs,t⟩:=id r1.2.1
 have hpL:p∉R.L:=oz_ok.free r.2.1 hp
 refine⟨.ref R.a,r.1 _ mem_cons_self,R.a,R.C,R.dx,fs,rfl,t.obj,cl,na,by have:=t.few;omega,q {R with ls:=R.ls++[(f,p)]} σ _ ⟨⟨rfl,hoa⟩,?_⟩ ?_⟩
 all_goals
  have hpa:p≠R.a:=λz=>hpL (by rw[z];exact mem_cons_self)
  have nal:∀p∈R.ls.map (·.2),p≠R.a:=λp hp z=>(nodup_cons.mp t.nda).1 (z▸mem_cons_of_mem _ hp)
  have nad:R.dx≠R.a:=λz=>(nodup_cons.mp t.nda).1 (z▸mem_cons_self)
  have e2:OR.L {R with ls:=R.ls++[(f,p)]}=R.L++[p]:=by show R.a::R.dx::(R.ls++[(f,p)]).map (·.2)=_;rw[map_append];rfl
  have sL0:∀H0:Hp,(∀b o,H0 b=some o->b≠p)->Same H0 H1->Same (lef R.L H0) (lef (OR.L {R with ls:=R.ls++[(f,p)]}) (upd H1 R.a (.ins R.C R.dx (putF f (.ref p) fs)))):=λH0 hH0 sm b o e=>by
   have n2:b∉R.L:=λz=>by rw[A9 z]at e;cases e
   rw[Ao n2]at e
   have n1:b≠p:=hH0 b o e
   have n3:b∉OR.L {R with ls:=R.ls++[(f,p)]}:=by
    rw[e2]
    intro z
    rcases mem_append.mp z with z|z
    .exact n2 z
    .exact n1 (mem_singleton.mp z)
   rw[Ao n3,Aj λz=>n2 (by rw[z];exact mem_cons_self)]
   exact sm _ _ e
  have sL:Same (lef R.L H) (lef (OR.L {R with ls:=R.ls++[(f,p)]}) (upd H1 R.a (.ins R.C R.dx (putF f (.ref p) fs)))):=sL0 H (λb o e z=>by rw[z,hp]at e;cases e) s1
 .have tO:Oz X.K {R with ls:=R.ls++[(f,p)]} (upL f ws lf) df (upd H1 R.a (.ins R.C R.dx (putF f (.ref p) fs))):=by
   obtain⟨fs0,t0⟩:=id r.2.1
   have hfs0:fs0=fs:=by
    have h1:=t.obj
    rw[s1 _ _ t0.obj]at h1
    cases h1
    rfl
   subst hfs0
   obtain⟨q0,hq0,e0⟩:=mem_map.mp hf
   obtain⟨p0,us0,_,l0,_,_,_⟩:=t0.lst q0 hq0
   rw[e0]at l0
   have dws:DVs X.K (lef (OR.L {R with ls:=R.ls++[(f,p)]}) (upd H1 R.a (.ins R.C R.dx (putF f (.ref p) fs0)))) us ws:=by
    have nt:∀b∈[p],∀xs,¬Rd (lef R.L H1) b (.tup xs):=λb hb xs r=>by
     have:=mem_singleton.mp hb
     subst this
     rcases r with r|⟨q,r⟩<;>(rw[Ao hpL,hl]at r;cases r)
    refine(DVs.lef nt (DVs.lef (oz_ok.notup r1.2.1) d1 hn) hn).mono λb o e=>?_
    have m1:b∉[p]:=λz=>by rw[A9 z]at e;cases e
    rw[Ao m1]at e
    have m2:b∉R.L:=λz=>by rw[A9 z]at e;cases e
    rw[Ao m2]at e
    have m3:b∉OR.L {R with ls:=R.ls++[(f,p)]}:=by
     rw[e2]
     intro z
     rcases mem_append.mp z with z|z
     .exact m2 z
     .exact m1 z
    rw[Ao m3,Aj λz=>m2 (by rw[z];exact mem_cons_self)]
    exact e
   refine⟨putF f (.ref p) fs0,Al,by rw[Aj nad];exact t.own1,by rw[FE l0];exact t.few,λm hm=>?_,?_,λz hz=>?_,λz hz=>?_,λz hz=>?_,λz hz=>?_⟩
   .rw[A4,if_neg (λw:m=f=>hm (w▸hA))]
    exact t.nam m hm
   .rw[e2]
    exact nodup_append.mpr ⟨t.nda,nodup_cons.mpr ⟨by simp,nodup_nil⟩,λa ha b hb z=>hpL (by rw[<-mem_singleton.mp hb,<-z];exact ha)⟩
   .rw[Kl]
    exact t.apart z hz
   .rcases mem_append.mp hz with hz|hz
    .obtain⟨us',hu⟩:=t.own z hz
     exact⟨us',by rw[Aj (nal _ (mem_map_of_mem hz))];exact hu⟩
    .rw[mem_singleton.mp hz]
     exact⟨us,by rw[Aj hpa];exact hl⟩
   .rcases MT hz with⟨e1,e3,_⟩|⟨e1,e3⟩
    .refine⟨p,us,by rw[e1];exact mem_append_right _ (List.mem_singleton_self _),by rw[e1,A4,if_pos rfl],by rw[Aj hpa];exact hl,by rw[e3];exact dws,by rw[e3];exact hn⟩
    .obtain⟨p',us',h1,h2,h3,h4,h5⟩:=t0.lst z e3
     exact⟨p',us',mem_append_left _ h1,by rw[A4,if_neg e1];exact h2,by rw[Aj (nal _ (mem_map_of_mem (f:=(·.2)) h1))];exact s1 _ _ h3,h4.mono sL,h5⟩
   .obtain⟨v,h1,h2⟩:=t0.dat z hz
    exact⟨v,by rw[A4,if_neg (λw:z.1=f=>t.apart z hz (by rw[w];exact hf))];exact h1,h2.mono sL⟩
  exact⟨r.1,tO,r.2.2.mono sL⟩
 .exact sL
end
def tM(K:Frag)(C:Addr)(G:Gam)(lf:LF)(df:DF):TS:=λD σ H=>SD K H σ G/\∀R' H',R'.C=C->Oz K R' lf df H'->Same H (lef R'.L H')->D.rt (.ref R'.a) H'
def spM(K:Frag)(C:Addr)(F:List PyData->LF->DF->Prop):Sp:=λvs H Q _=>∃(ds:List PyData) (lf:LF) (df:DF),DVs K H vs ds/\F ds lf df/\∀R' H',R'.C=C->Oz K R' lf df H'->Same H (lef R'.L H')->Q (.ref R'.a) H'
def NMFn(P:Program)(w:World)(K:Frag)(mg:Str->Option Value)(base:Heap)(k:Nat)(C:Addr)(m:Str)(F:List PyData->LF->DF->Prop):Prop:=
 ∃f fd ps,FnOk P w K mg base CX0 k f fd ps (spM K C F)/\Meth K C m f/\Binds K fd ps []
theorem Fun.newM{f:Addr}{k:Nat}{F:List PyData->LF->DF->Prop}(F0:Fun K x qual st f fd)(hm:Meth K C m f)(hb:Binds K fd ps [])(S:FnScope N ps (Ae st))(len:∀ds lf df,F ds lf df->ds.length=ps.length)
  (hbody:∀(cdv:Value) (A:Around) (outer:List Env) (s:Shared) (H:Hp) (E:XK) (ds:List PyData) (lf:LF) (df:DF),Room k (A.deeper (envOfC qual (Ae st) s.heap.objs.size f cdv))->F ds lf df->
   PSs (cxOf CX0 P w K mg base N qual (Ae st) f cdv A outer s H E).nox (AN st) (tM K C (Bh N ds) lf df)):NMFn P w K mg base (k+1) C m F:=
 ⟨f,fd,ps,F0.ok S (λvs H Q E ⟨ds,lf,df,h1,h2,_⟩=>h1.length.trans (len ds lf df h2)) (λcdv A outer s H vs Q E hr ⟨ds,lf,df,h1,h2,q⟩=>⟨_,hbody cdv A outer s H E ds lf df hr h2,SD.start h1,q⟩),hm,hb⟩
section
variable{k:Nat}
theorem YZ.mk(hσ:SD K H σ G)(hl:i<G.length)(hG:G[i]?=some none)(hC:R.C=C)(t:Oz K R lf df H')(s:Same H (lef R.L H')):YZ K C none i G lf df R (σ.set i (some (.ref R.a))) H':=by
 refine⟨⟨hC,λ_ z=>by cases z⟩,λz hz=>?_,t,⟨by rw[List.length_set];exact hσ.1,λj d ej=>?_⟩⟩
 .have:=List.mem_singleton.mp hz
  subst this
  exact List.getElem?_set_self (by rw[hσ.1];exact hl)
 .by_cases hj:i=j
  .subst hj;rw[hG]at ej;cases ej
  .rw[List.getElem?_set_ne hj]
   exact(hσ.mono s).2 j d ej
theorem PZ{F:List PyData->LF->DF->Prop}(hN:X.N.Nodup)(h1:X.N[i]?=some xt)(x1:Loc X.env.scope xt)(hl:i<G.length)(hG:G[i]?=some none)(D0:OIFn X.prog X.w X.K X.mg X.base k C F)(hr:Room (k+1) X.A)(hg:Gl X x)(hm:X.mg x=some (.ref C))(ha:AV X G (e::es) ds)(hF:F ds lf df)
  (hdb:(x==("__debug__":Str))=false:=by decide)(he:Zst X e es:=by rfl)(hpl:(backTo p3 (starEach es X.env)).any (·.1)=false:=by rfl)
  (s1:swapsWith (.Call (.Name x p2) (e::es) [] p3) (some (.Name xt p1)) p4.line X.env=pure false:=by rfl)(f1:Zlo X xt:=by first|exact .inl rfl|exact .inr rfl|assumption):
  PS X (.Assign [.Name xt p1] (.Call (.Name x p2) (e::es) [] p3) p4) (λD σ H=>SD X.K H σ G/\∀R σ' H',YZ X.K C none i G lf df R σ' H'->Same H (lef R.L H')->D.nx σ' H'):=by
 obtain⟨f0,fd0,ps0,ok0,M,hb0⟩:=D0
 refine(BL hN h1 x1 (NJ (E:=E0) (dvs:=[]) (ds:=[]) M ok0 hr hg hm hb0 .nil Cs ha hdb he hpl) s1 f1).imp λD σ H ⟨hσ,q⟩=>⟨hσ,λvs H1 s1 dv=>?_⟩
 intro a dx ha hdx hne
 have sA:Same H1 (lef [a,dx] (upd (upd H1 dx (.own a)) a (.ins C dx []))):=λb o e=>by
  have n1:b≠a:=Av e ha
  have n2:b≠dx:=Av e hdx
  rw[Ao (by simp only[mem_cons,not_mem_nil,or_false,not_or];exact⟨n1,n2⟩),Aj n1,Aj n2]
  exact e
 show spOI X.K C F (V.ref a::(vs++[])) _ _ E0
 rw[append_nil]
 refine⟨a,dx,ds,lf,df,vs,rfl,Al,by rw[Aj hne];exact Al,hne,dv.mono sA,hF,λH2 R hC hRa hRd tb old fre=>⟨rfl,?_⟩⟩
 subst hC hRa hRd
 have keep:∀b o,H1 b=some o->b∉R.L/\H2 b=some o:=λb o e=>by
  have n1:b≠R.a:=Av e ha
  have n2:b≠R.dx:=Av e hdx
  have e1:upd (upd H1 R.dx (.own R.a)) R.a (.ins R.C R.dx []) b=some o:=by rw[Aj n1,Aj n2];exact e
  refine⟨λz=>?_,old b o n1 e1⟩
  rcases mem_cons.mp z with z|z
  .exact n1 z
  rcases mem_cons.mp z with z|z
  .exact n2 z
  .obtain⟨y,hy,ey⟩:=mem_map.mp z
   have:=fre y hy
   rw[ey,e1]at this
   cases this
 have sL:Same H1 (lef R.L H2):=λb o e=>by
  obtain⟨k1,k2⟩:=keep b o e
  rw[Ao k1]
  exact k2
 exact q R _ H2 (YZ.mk hσ hl hG rfl tb (s1.trans sL)) (s1.trans sL)
theorem R_(h1:PS X st (λD σ H=>SD X.K H σ G/\∀R σ' H',YZ X.K C none i G lf df R σ' H'->Same H (lef R.L H')->D.nx σ' H'))(h2:PSs X sts (yM X.K C none i G lf df lf' df')):PSs X (st::sts) (tM X.K C G lf' df'):=
 (Az h1 h2).imp λD σ H ⟨h,q⟩=>⟨h,λR σ' H' y s'=>⟨R,y,λR2 H2 hC t s2=>q R2 H2 hC.1 t (s'.trans s2)⟩⟩
end
section
variable{L:List Addr}{m:Nat}{T:α}
end
variable{db:PyData}
section
variable{L:List Addr}{k:Nat}{apos2:Pos}{m2:Str}
theorem Uo{op:CmpOp}(ok2:ZOk L I2)(ha:ZE X L I rs G a da I1)(hb:ZE X L I1 rs G b db I2)(ho:OD X (compareOp op) da db d)(hm:behindInMarks op b=false)(hn:noL d=true):ZE X L I rs G (.Compare a [op] [b] pos) d I2:=
 (Ni ho ha hb hm).imp λσ H Q ⟨r,q⟩=>⟨r,λx H1 i1 s1 d1=>⟨r.next i1 s1,λy H2 i2 s2 d2=>⟨(d1.mono s2).mono lef_same,d2.mono lef_same,λv H3 s3 dv=>q v H3 (ok2.step i2 s3) ((s1.trans s2).trans s3.lef) (DV.lef (ok2.notup (ok2.step i2 s3)) dv hn)⟩⟩⟩
end
def spY(K:Frag)(C:Addr)(F:LF->DF->List PyData->LF->DF->Prop):Sp:=λvs H Q _=>∃(R:OR) (lf:LF) (df:DF) (ds:List PyData) (lf':LF) (df':DF) (vr:List V),R.C=C/\vs=.ref R.a::vr/\Oz K R lf df H/\DVs K (lef R.L H) vr ds/\F lf df ds lf' df'/\
 ∀R' H',IsR C (some R.a) R'->Oz K R' lf' df' H'->Same (lef R.L H) (lef R'.L H')->Q .non H'
def YFn(P:Program)(w:World)(K:Frag)(mg:Str->Option Value)(base:Heap)(k:Nat)(C:Addr)(m:Str)(F:LF->DF->List PyData->LF->DF->Prop):Prop:=
 ∃f fd ps,FnOk P w K mg base CX0 k f fd ps (spY K C F)/\Meth K C m f/\Binds K fd ps []
theorem Fun.objY{f:Addr}{k:Nat}{F:LF->DF->List PyData->LF->DF->Prop}(F0:Fun K x qual st f fd)(hm:Meth K C m f)(hb:Binds K fd ps [])(S:FnScope (n0::N) ps (Ae st))(len:∀lf df ds lf' df',F lf df ds lf' df'->ds.length+1=ps.length)
  (hbody:∀(cdv:Value) (A:Around) (outer:List Env) (s:Shared) (H:Hp) (E:XK) (a:Addr) (lf:LF) (df:DF) (ds:List PyData) (lf':LF) (df':DF),Room k (A.deeper (envOfC qual (Ae st) s.heap.objs.size f cdv))->F lf df ds lf' df'->
   ∃G',PSs (cxOf CX0 P w K mg base (n0::N) qual (Ae st) f cdv A outer s H E).nox (AN st) (yN K C (some a) 0 (none::Bh N ds) lf df G' lf' df')):YFn P w K mg base (k+1) C m F:=by
 refine⟨f,fd,ps,F0.ok S (λvs H Q E ⟨R,lf,df,ds,lf',df',vr,_,e,_,dv,hF,_⟩=>by rw[e,List.length_cons,dv.length];exact len lf df ds lf' df' hF) (λcdv A outer s H vs Q E hr ⟨R,lf,df,ds,lf',df',vr,hC,e,tb,dv,hF,q⟩=>?_),hm,hb⟩
 subst e
 obtain⟨G',hps⟩:=hbody cdv A outer s H E R.a lf df ds lf' df' hr hF
 refine⟨_,hps,R,⟨⟨hC,λ_ z=>by cases z;rfl⟩,λz hz=>?_,tb,?_⟩,λR' σ' H' y s'=>q R' H' y.1 y.2.2.1 s'⟩
 .have:=List.mem_singleton.mp hz
  subst this
  rw[Bp]
  rfl
 .rw[Bp];exact(SD.start dv).cons0 _
section
variable{k:Nat}
theorem RX{F:LF->DF->List PyData->LF->DF->Prop}{pl:Sem Bool}(cl:Cls X.K C)(D0:YFn X.prog X.w X.K X.mg X.base k C m F)(hr:Room k X.A)(hv:PE X (.Name x pos2) (tVar i))(ha:∀R:OR,R.C=C->ZA X R.L (Oz X.K R lf df) [(i,R.a)] G (e::es) ds (Oz X.K R lf df))(hF:F lf df ds lf' df')(h1:m∉Bk:=by decide)
  (hst:Zst X e es:=by rfl)(hpl:(backTo pos (starEach es X.env)).any (·.1)=false:=by rfl)
  (ht:eval (.Call (.Attribute (.Name x pos2) m apos) (e::es) [] pos) X.env=(do
   let ov <-eval (.Name x pos2) X.env
   standAt apos.atName
   let(f,first) <-holding [ov] (getMethod ov m pl)
   callWith pos f first (backTo pos (starEach (e::es) X.env)) (backToKw pos (keywordEach [] X.env))):=by rfl)
  (hs:swapsWith (.Call (.Attribute (.Name x pos2) m apos) (e::es) [] pos) none pos3.line X.env=pure false:=by rfl):
  PS X (.Expr (.Call (.Attribute (.Name x pos2) m apos) (e::es) [] pos) pos3) (yN X.K C oa i G lf df G lf' df'):=by
 obtain⟨f,fd,ps,ok,hm,hb⟩:=D0
 have hA:PA X (e::es) (λσ H Q=>∃R:OR,R.C=C/\zA X.K R.L (Oz X.K R lf df) [(i,R.a)] G ds (Oz X.K R lf df) σ H Q):=λpos pins s σ H Q I ⟨R,hC,q⟩=>ha R hC pos pins s σ H Q I q
 refine(BG (Hh (E:=E0) (dvs:=[]) (ds:=[]) hv cl hm ok hr hb .nil Cs hA hst hpl ht) hs).imp λD σ H ⟨R,⟨⟨hC,hoa⟩,r⟩,q⟩=>?_
 obtain⟨fs,t⟩:=id r.2.1
 refine⟨.ref R.a,r.1 _ mem_cons_self,R.a,R.dx,fs,rfl,by rw[<-hC];exact t.obj,t.nam m h1,R,hC,r,λvs H1 t1 s1 dvs=>?_⟩
 show spY X.K C F (V.ref R.a::(vs++[])) H1 _ E0
 rw[append_nil]
 refine⟨R,lf,df,ds,lf',df',vs,hC,rfl,t1,dvs,hF,λR' H2 hI t2 s2=>q R' σ H2 ⟨⟨hI.1,λa ea=>(hI.2 _ rfl).trans (hoa a ea)⟩,λz hz=>?_,t2,r.2.2.mono (s1.trans s2)⟩ (s1.trans s2)⟩
 rw[mem_singleton.mp hz]
 show σ[i]?=some (some (.ref R'.a))
 rw[hI.2 _ rfl]
 exact r.1 _ mem_cons_self
end
theorem Og:CD X (.type "tuple") [.tuple ds] (.tuple ds):=call_tuple_of.imp λxs H Q ⟨h,q⟩=>by
 obtain⟨v,rfl,dv⟩:=h.one
 obtain⟨l,us,rfl,hl,d1⟩:=id dv.of_tup
 exact⟨l,us,rfl,.inr ⟨hl,q _ H (Same.refl H) (.tup hl d1)⟩⟩
section
variable{L:List Addr}{m:Nat}{T T1:α}
end
section
variable{L:List Addr}{kb:Bool}
abbrev Sees(K:Frag)(L:List Addr)(I:Hp->Prop)(rs:List (Nat×Addr))(G G':Gam):Prop:=∀σ H,RZ K L I rs G σ H->SD K H σ G'
theorem Mf(ok:ZOk L I)(v:Sees X.K L I rs G G')(h:TV X G' c kb):ZT X L I rs G c kb:=h.imp λσ H Q ⟨r,q⟩=>⟨v σ H r,λH' s'=>q H' (r.step ok s') s'.lef⟩
theorem HL(ok:ZOk L I)(v:Sees X.K L I rs G G')(h:EV X G' e d)(hn:noL d=true):ZE X L I rs G e d I:=h.imp λσ H Q ⟨r,q⟩=>⟨v σ H r,λu H' s' dv=>q u H' (ok.step r.2.1 s') s'.lef (DV.lef (ok.notup (ok.step r.2.1 s')) dv hn)⟩
theorem QV(ok:ZOk L I)(v:Sees X.K L I rs G G')(h:EVF X G' e ws)(hn:noLs ws=true):ZE X L I rs G e (.list ws) I:=h.imp λσ H Q ⟨r,q⟩=>⟨v σ H r,λp us H' hp s' hl dv=>by
 have i':=ok.step r.2.1 s'
 have hpL:p∉L:=ok.free r.2.1 hp
 exact q _ H' i' s'.lef (.lst (SqL.of (by rw[Ao hpL];exact hl)) (DVs.lef (ok.notup i') dv hn))⟩
end
structure NR where
 a:Addr
 ls:List (Str×Addr)
abbrev NR.L(R:NR):List Addr:=R.a::R.ls.map (·.2)
inductive NK(K:Frag)(ls:List (Str×Addr))(Hb H:Hp):List (Key×V)->DF->Prop where
 |nil:NK K ls Hb H [] []
 |lst {f:Str}{p:Addr}{us:List V}{ds:List PyData}{r:List (Key×V)}{df:DF}:(f,p)∈ls->H p=some (.lst us)->DVs K Hb us ds->noLs ds=true->NK K ls Hb H r df->NK K ls Hb H ((.inr f,.ref p)::r) ((f,.list ds)::df)
 |dat {f:Str}{v:V}{d:PyData}{r:List (Key×V)}{df:DF}:DV K Hb v d->noL d=true->NK K ls Hb H r df->NK K ls Hb H ((.inr f,v)::r) ((f,d)::df)
structure NzS(K:Frag)(R:NR)(df:DF)(Hb H:Hp)(kvs:List (Key×V)):Prop where
 obj:H R.a=some (.dK kvs)
 few:df.length<=40
 nda:R.L.Nodup
 ndl:(R.ls.map (·.1)).Nodup
 ndk:(df.map (·.1)).Nodup
 sub:∀q∈R.ls,q.1∈df.map (·.1)
 own:∀q∈R.ls,∃us,H q.2=some (.lst us)
 nk:NK K R.ls Hb H kvs df
def Nz(K:Frag)(R:NR)(df:DF)(H:Hp):Prop:=∃kvs,NzS K R df (lef R.L H) H kvs
def dfD(df:DF):List (PyData×PyData):=df.map λq=>(.str q.1,q.2)
variable{ls:List (Str×Addr)}
theorem NK.mono(s:Same Hb Hb')(s2:Same H H'):∀{kvs:List (Key×V)}{df:DF},NK K ls Hb H kvs df->NK K ls Hb' H' kvs df
 |_,_,.nil=>.nil
 |_,_,.lst h1 h2 h3 h4 t=>.lst h1 (s2 _ _ h2) (h3.mono s) h4 (t.mono s s2)
 |_,_,.dat h1 h2 t=>.dat (h1.mono s) h2 (t.mono s s2)
theorem NK.more{ls':List (Str×Addr)}(h:∀q∈ls,q∈ls'):∀{kvs:List (Key×V)}{df:DF},NK K ls Hb H kvs df->NK K ls' Hb H kvs df
 |_,_,.nil=>.nil
 |_,_,.lst h1 h2 h3 h4 t=>.lst (h _ h1) h2 h3 h4 (t.more h)
 |_,_,.dat h1 h2 t=>.dat h1 h2 (t.more h)
theorem NK.app:∀{kvs kvs2:List (Key×V)}{df df2:DF},NK K ls Hb H kvs df->NK K ls Hb H kvs2 df2->NK K ls Hb H (kvs++kvs2) (df++df2)
 |_,_,_,_,.nil,t=>t
 |_,_,_,_,.lst h1 h2 h3 h4 r,t=>.lst h1 h2 h3 h4 (r.app t)
 |_,_,_,_,.dat h1 h2 r,t=>.dat h1 h2 (r.app t)
theorem NK.keys:∀{kvs:List (Key×V)}{df:DF},NK K ls Hb H kvs df->kvs.map (·.1)=df.map λq=>(.inr q.1:Key)
 |_,_,.nil=>rfl
 |_,_,.lst _ _ _ _ t=>by rw[List.map_cons,List.map_cons,t.keys]
 |_,_,.dat _ _ t=>by rw[List.map_cons,List.map_cons,t.keys]
theorem NK.length(h:NK K ls Hb H kvs df):kvs.length=df.length:=by
 have:=congrArg List.length h.keys
 rwa[List.length_map,List.length_map]at this
theorem NK.dvk(s:Same Hb H):∀{kvs:List (Key×V)}{df:DF},NK K ls Hb H kvs df->DVk K H kvs (dfD df)
 |_,_,.nil=>.nil
 |_,_,.lst h1 h2 h3 h4 t=>.cons (k:=.inr _) (.lst (SqL.of h2) (h3.mono s)) (t.dvk s)
 |_,_,.dat h1 h2 t=>.cons (k:=.inr _) (h1.mono s) (t.dvk s)
theorem NK.get:∀{kvs:List (Key×V)}{df:DF},NK K ls Hb H kvs df->(df.map (·.1)).Nodup->(f,PyData.list ds)∈df->∃p us,(f,p)∈ls/\valV kvs (.inr f)=some (.ref p)/\H p=some (.lst us)/\DVs K Hb us ds/\noLs ds=true
 |_,_,.nil,_,h=>by cases h
 |_,_,.lst h1 h2 h3 h4 t,nd,h=>by
  rw[List.map_cons,List.nodup_cons]at nd
  rcases List.mem_cons.mp h with e|h
  .cases e
   exact⟨_,_,h1,DM rfl,h2,h3,h4⟩
  .obtain⟨p,us,k1,k2,k3⟩:=t.get nd.2 h
   refine⟨p,us,k1,?_,k3⟩
   rw[CT (λz=>?_)]
   .exact k2
   .exact nd.1 (by rw[show _=f from Sum.inr.inj z];exact List.mem_map_of_mem (f:=(·.1)) h)
 |_,_,.dat h1 h2 t,nd,h=>by
  rw[List.map_cons,List.nodup_cons]at nd
  rcases List.mem_cons.mp h with e|h
  .cases e
   cases h2
  .obtain⟨p,us,k1,k2,k3⟩:=t.get nd.2 h
   refine⟨p,us,k1,?_,k3⟩
   rw[CT (λz=>?_)]
   .exact k2
   .exact nd.1 (by rw[show _=f from Sum.inr.inj z];exact List.mem_map_of_mem (f:=(·.1)) h)
theorem NK.put{v:V}(hv:DV K Hb v d)(hn:noL d=true):∀{kvs:List (Key×V)}{df:DF},NK K ls Hb H kvs df->NK K ls Hb H (kvs.map λkv=>if kv.1=.inr f then(kv.1,v)else kv) (upD f d df)
 |_,_,.nil=>.nil
 |_,_,.lst (f:=g) h1 h2 h3 h4 t=>by
  have ih:=t.put hv hn
  unfold upD at ih ⊢
  rw[List.map_cons,List.map_cons]
  by_cases e:g=f
  .rw[if_pos (show((Sum.inr g:Key)=.inr f)from congrArg _ e),if_pos (show g=f from e)]
   exact .dat hv hn ih
  .rw[if_neg (show ¬((Sum.inr g:Key)=.inr f)from λz=>e (Sum.inr.inj z)),if_neg (show ¬g=f from e)]
   exact .lst h1 h2 h3 h4 ih
 |_,_,.dat (f:=g) h1 h2 t=>by
  have ih:=t.put hv hn
  unfold upD at ih ⊢
  rw[List.map_cons,List.map_cons]
  by_cases e:g=f
  .rw[if_pos (show((Sum.inr g:Key)=.inr f)from congrArg _ e),if_pos (show g=f from e)]
   exact .dat hv hn ih
  .rw[if_neg (show ¬((Sum.inr g:Key)=.inr f)from λz=>e (Sum.inr.inj z)),if_neg (show ¬g=f from e)]
   exact .dat h1 h2 ih
theorem JI{l:List (Str×Addr)}(h:(l.map (·.1)).Nodup){p':Addr}(h1:(f,p)∈l)(h2:(f,p')∈l):p=p':=by
 induction l with
 |nil=>cases h1
 |cons y r ih=>
  rw[map_cons,nodup_cons]at h
  rcases mem_cons.mp h1 with e|h1<;>rcases mem_cons.mp h2 with e'|h2
  .rw[<-e']at e;cases e;rfl
  .exact absurd (by rw[<-e];exact mem_map_of_mem (f:=(·.1)) h2) h.1
  .exact absurd (by rw[<-e'];exact mem_map_of_mem (f:=(·.1)) h1) h.1
  .exact ih h.2 h1 h2
theorem Tg{l:List (Str×Addr)}(h:(l.map (·.2)).Nodup){g:Str}(h1:(f,p)∈l)(h2:(g,p)∈l):f=g:=by
 induction l with
 |nil=>cases h1
 |cons y r ih=>
  rw[map_cons,nodup_cons]at h
  rcases mem_cons.mp h1 with e|h1<;>rcases mem_cons.mp h2 with e'|h2
  .rw[<-e']at e;cases e;rfl
  .exact absurd (by rw[<-e];exact mem_map_of_mem (f:=(·.2)) h2) h.1
  .exact absurd (by rw[<-e'];exact mem_map_of_mem (f:=(·.2)) h1) h.1
  .exact ih h.2 h1 h2
theorem NK.wr{ds0:List PyData}(nl:(ls.map (·.1)).Nodup)(na:(ls.map (·.2)).Nodup)(hp:(f,p)∈ls)(dv:DVs K Hb us ds)(hn:noLs ds=true):∀{kvs:List (Key×V)}{df:DF},NK K ls Hb H kvs df->(∀q∈df,q.1=f->q.2=.list ds0)->NK K ls Hb (upd H p (.lst us)) kvs (upD f (.list ds) df)
 |_,_,.nil,_=>.nil
 |_,_,.lst (f:=g) (p:=p') h1 h2 h3 h4 t,hd=>by
  have ih:=t.wr nl na hp dv hn (λq hq=>hd q (List.mem_cons_of_mem _ hq))
  unfold upD at ih ⊢
  rw[List.map_cons]
  by_cases e:g=f
  .rw[if_pos (show g=f from e)]
   subst e
   have:=JI nl h1 hp
   subst this
   exact .lst h1 Al dv hn ih
  .rw[if_neg (show ¬g=f from e)]
   refine .lst h1 ?_ h3 h4 ih
   rw[Aj (λz=>e (Tg na h1 (by rw[z];exact hp)))]
   exact h2
 |_,_,.dat (f:=g) (d:=d) h1 h2 t,hd=>by
  have ih:=t.wr nl na hp dv hn (λq hq=>hd q (List.mem_cons_of_mem _ hq))
  unfold upD at ih ⊢
  rw[List.map_cons]
  by_cases e:g=f
  .have:=hd (g,d) List.mem_cons_self e
   rw[show d=.list ds0 from this]at h2
   cases h2
  .rw[if_neg (show ¬g=f from e)]
   exact .dat h1 h2 ih
theorem NK.updN{a:Addr}{o:HO}(h:∀q∈ls,q.2≠a):∀{kvs:List (Key×V)}{df:DF},NK K ls Hb H kvs df->NK K ls Hb (upd H a o) kvs df
 |_,_,.nil=>.nil
 |_,_,.lst h1 h2 h3 h4 t=>.lst h1 (by rw[Aj (h _ h1)];exact h2) h3 h4 (t.updN h)
 |_,_,.dat h1 h2 t=>.dat h1 h2 (t.updN h)
theorem NK.lef{L:List Addr}(hp:∀b∈L,∀xs,¬Rd Hb b (.tup xs)):∀{kvs:List (Key×V)}{df:DF},NK K ls Hb H kvs df->NK K ls (L2.lef L Hb) H kvs df
 |_,_,.nil=>.nil
 |_,_,.lst h1 h2 h3 h4 t=>.lst h1 h2 (DVs.lef hp h3 h4) h4 (t.lef hp)
 |_,_,.dat h1 h2 t=>.dat (DV.lef hp h1 h2) h2 (t.lef hp)
section
variable{R:NR}
theorem NzS.mono(t:NzS K R df Hb H kvs)(s:Same Hb Hb')(s2:Same H H'):NzS K R df Hb' H' kvs:=
 ⟨s2 _ _ t.obj,t.few,t.nda,t.ndl,t.ndk,t.sub,λq hq=>let⟨us,h⟩:=t.own q hq;⟨us,s2 _ _ h⟩,t.nk.mono s s2⟩
theorem nz_ok:ZOk R.L (Nz K R df)where
 step:=λ⟨kvs,t⟩ s=>⟨kvs,t.mono s.lef s⟩
 notup:=@λH ⟨kvs,t⟩ b hb xs r=>by
  have key:∀o:HO,H b=some o->(∀ys,o≠.tup ys)->(∀q u,o≠.frz q u)->False:=λo e h1 h2=>by
   rcases r with r|⟨q,r⟩
   .rw[e]at r;exact h1 _ (Option.some.inj r)
   .rw[e]at r;exact h2 _ _ (Option.some.inj r)
  rcases mem_cons.mp hb with e|e
  .exact key _ (by rw[e];exact t.obj) (λ_ z=>by cases z) (λ_ _ z=>by cases z)
  .obtain⟨q,hq,e⟩:=mem_map.mp e
   obtain⟨us,h⟩:=t.own q hq
   exact key _ (by rw[<-e];exact h) (λ_ z=>by cases z) (λ_ _ z=>by cases z)
 free:=λ⟨kvs,t⟩ hp hm=>by
  rcases mem_cons.mp hm with e|e
  .have:=t.obj;rw[<-e,hp]at this;cases this
  .obtain⟨q,hq,rfl⟩:=mem_map.mp e
   obtain⟨us,h⟩:=t.own q hq
   rw[hp]at h;cases h
theorem Nz.fo(i:Nz K R df H):∀b∈R.L,Fq H R.L b:=λb hb=>by
 obtain⟨kvs,t⟩:=i
 rcases List.mem_cons.mp hb with e|e
 .exact .inr ⟨kvs,by rw[e];exact t.obj⟩
 .obtain⟨q,hq,rfl⟩:=List.mem_map.mp e
  exact .inl (.inl (t.own q hq))
theorem NK.joinL{L:List Addr}(hl:∀q∈ls,q.2∈L)(s:Same Hb Hb'):∀{kvs:List (Key×V)}{df:DF},NK K ls Hb H kvs df->NK K ls Hb' (Br L H H') kvs df
 |_,_,.nil=>.nil
 |_,_,.lst h1 h2 h3 h4 t=>.lst h1 (by rw[AO (hl _ h1)];exact h2) (h3.mono s) h4 (t.joinL hl s)
 |_,_,.dat h1 h2 t=>.dat (h1.mono s) h2 (t.joinL hl s)
theorem Nz.join(i:Nz K R df H)(n:∀b∈R.L,H' b=none)(s:Same (lef R.L H) H'):Nz K R df (Br R.L H H'):=by
 obtain⟨kvs,t⟩:=i
 refine⟨kvs,?_⟩
 rw[Ch n]
 exact⟨by rw[AO List.mem_cons_self];exact t.obj,t.few,t.nda,t.ndl,t.ndk,t.sub,λq hq=>by rw[AO (List.mem_cons_of_mem _ (List.mem_map_of_mem hq))];exact t.own q hq,t.nk.joinL (λq hq=>List.mem_cons_of_mem _ (List.mem_map_of_mem hq)) s⟩
theorem NzS.dv{L:List Addr}(t:NzS K R df (lef L H) H kvs):DV K H (.ref R.a) (.dict (dfD df)):=.dct t.obj (t.nk.dvk lef_same)
theorem NzS.put(t:NzS K R df (lef R.L H) H kvs)(hp:(f,p)∈R.ls){ds0:List PyData}(hf:(f,PyData.list ds0)∈df)(dv:DVs K (lef R.L H) us ds)(hn:noLs ds=true):Nz K R (upD f (.list ds) df) (upd H p (.lst us)):=by
 have hpL:p∈R.L:=List.mem_cons_of_mem _ (List.mem_map_of_mem (f:=(·.2)) hp)
 have eL:lef R.L (upd H p (.lst us))=lef R.L H:=Bq hpL
 have npa:R.a≠p:=λz=>(List.nodup_cons.mp t.nda).1 (by rw[z];exact List.mem_map_of_mem (f:=(·.2)) hp)
 refine⟨kvs,?_⟩
 rw[eL]
 refine⟨by rw[Aj npa];exact t.obj,by rw[show(upD f (.list ds) df).length=df.length from List.length_map _];exact t.few,t.nda,t.ndl,by rw[Be];exact t.ndk,by rw[Be];exact t.sub,λz hz=>?_,t.nk.wr t.ndl (List.nodup_cons.mp t.nda).2 hp dv hn (ds0:=ds0) λq hq e=>?_⟩
 .by_cases e:z.2=p
  .rw[e];exact⟨us,Al⟩
  .rw[Aj e];exact t.own z hz
 .have:∀{l:DF},(l.map (·.1)).Nodup->(f,PyData.list ds0)∈l->q∈l->q.2=.list ds0:=by
   intro l
   induction l with
   |nil=>intro _ h;cases h
   |cons y r ih=>
    intro hn h1 h2
    rw[List.map_cons,List.nodup_cons]at hn
    rcases List.mem_cons.mp h1 with e1|h1<;>rcases List.mem_cons.mp h2 with e2|h2
    .rw[e2,<-e1]
    .exact absurd (by rw[<-e1];show f∈_;rw[<-e];exact List.mem_map_of_mem (f:=(·.1)) h2) hn.1
    .exact absurd (by rw[<-e2,e];exact List.mem_map_of_mem (f:=(·.1)) h1) hn.1
    .exact ih hn.2 h1 h2
  exact this t.ndk hf hq
end
abbrev SY(df:DF)(i:Nat)(G:Gam):Gam:=G.set i (some (.dict (dfD df)))
section
variable{R:NR}{k:Nat}
theorem Cz(hi:(i,R.a)∈rs):Sees K R.L (Nz K R df) rs G (SY df i G):=λσ H r=>by
 obtain⟨kvs,t⟩:=id r.2.1
 have h1:=r.sd.set (i:=i) t.dv
 rw[BN (r.1 _ hi)]at h1
 exact h1
theorem Db(hi:(i,R.a)∈rs)(hj:(j,p)∈rs)(hp:(f,p)∈R.ls)(hf:(f,list ds)∈df):Sees K R.L (Nz K R df) rs G ((SY df i G).set j (some (.list ds))):=λσ H r=>by
 obtain⟨kvs,t⟩:=id r.2.1
 have h1:=r.sd.set (i:=i) t.dv
 rw[BN (r.1 _ hi)]at h1
 obtain⟨p',us,k1,_,k3,k4,_⟩:=t.nk.get t.ndk hf
 have:=JI t.ndl k1 hp
 subst this
 have h2:=h1.set (i:=j) (v:=.ref p') (d:=.list ds) (.lst (SqL.of k3) (k4.mono lef_same))
 rw[BN (r.1 _ hj)]at h2
 exact h2
theorem Hg(hu:X.A.units+1<cLine)(hi:(i,R.a)∈rs)(v:Sees X.K R.L (Nz X.K R df) rs G G')(hv:PE X (.Name x pos2) (tVar i))(h:EV X G' e d)(hn:noL d=true)(hb:EV X G' b (.str f))(hf:f∈df.map (·.1))
  (hs:swapsWith e (some (.Subscript (.Name x pos2) b pos')) pos.line X.env=pure false:=by rfl):PS X (.Assign [.Subscript (.Name x pos2) b pos'] e pos) (zN X.K R.L (Nz X.K R df) rs G G (Nz X.K R (upD f d df))):=by
 refine(ML hu hv hb h hs).imp λD σ H ⟨r,q⟩=>⟨v σ H r,λy H1 s1 d1=>⟨.ref R.a,r.1 _ hi,v σ H1 (r.step nz_ok s1),λz H2 s2 d2=>?_⟩⟩
 have d2:=d2.of_str
 subst d2
 have r2:=(r.step nz_ok s1).step nz_ok s2
 obtain⟨kvs,t⟩:=id r2.2.1
 have hlen:kvs.length<sizeLine:=by rw[t.nk.length,sizeLine_eq];have:=t.few;omega
 refine⟨R.a,_,rfl,DPut.k (k:=.inr f) t.obj hlen,?_⟩
 have hany:(valV kvs (.inr f:Key)).isSome=true:=by
  rw[<-Cr,any_eq_true]
  have:(.inr f:Key)∈kvs.map (·.1):=by
   rw[t.nk.keys]
   obtain⟨q0,h0,e0⟩:=mem_map.mp hf
   exact mem_map.mpr ⟨q0,h0,by rw[e0]⟩
  obtain⟨q0,h0,e0⟩:=mem_map.mp this
  exact⟨q0,h0,decide_eq_true e0⟩
 have ep:putK kvs (.inr f) y=kvs.map λkv=>if kv.1=(.inr f:Key)then(kv.1,y)else kv:=by
  unfold putK
  rw[Cr,if_pos hany]
 have eL:lef R.L (upd H2 R.a (.dK (putK kvs (.inr f) y)))=lef R.L H2:=Bq mem_cons_self
 have nal:∀q∈R.ls,q.2≠R.a:=λq hq z=>(nodup_cons.mp t.nda).1 (z▸mem_map_of_mem hq)
 have dv:=DV.lef (nz_ok.notup r2.2.1) (d1.mono s2) hn
 refine q σ _ ⟨r.1,⟨putK kvs (.inr f) y,?_⟩,?_⟩ ?_
 .rw[eL]
  refine⟨Al,by rw[show(upD f d df).length=df.length from length_map _];exact t.few,t.nda,t.ndl,by rw[Be];exact t.ndk,by rw[Be];exact t.sub,λz hz=>?_,?_⟩
  .rw[Aj (nal z hz)];exact t.own z hz
  .rw[ep]
   have hk:NK X.K R.ls (lef R.L H2) (upd H2 R.a (.dK (kvs.map λkv=>if kv.1=(.inr f:Key)then(kv.1,y)else kv))) kvs df:=t.nk.updN nal
   exact hk.put dv hn
 .rw[eL];exact r2.2.2
 .rw[eL];exact s1.lef.trans s2.lef
theorem Jd(hn:noL d=true):∀(l:List PyData) (n:Nat),noLs l=true->noLs (l.set n d)=true:=by
 intro l
 induction l with
 |nil=>intro n h;exact h
 |cons y r ih=>
  intro n h
  unfold noLs at h
  rw[and_eq_true]at h
  cases n with
  |zero=>rw[List.set_cons_zero];unfold noLs;rw[hn,h.2];rfl
  |succ n=>rw[List.set_cons_succ];unfold noLs;rw[h.1,ih n h.2];rfl
theorem L_(hn:noL d=true):∀xs:List PyData,noLs xs=true->noLs (xs++[d])=true:=by
 intro xs
 induction xs with
 |nil=>intro _;show(noL d&&true)=true;rw[hn];rfl
 |cons y r ih=>
  intro h
  rw[cons_append]
  unfold noLs at h ⊢
  rw[and_eq_true]at h
  rw[h.1,ih h.2]
  rfl
theorem Jq{to:TE}{z:Int}(ho:PE X o to)(hto:∀σ H (Q:V->Hp->Prop),RZ X.K R.L (Nz X.K R df) rs G σ H->(∀p us H',(f,p)∈R.ls->H' p=some (.lst us)->Same H H'->Q (.ref p) H')->to σ H Q)(v:Sees X.K R.L (Nz X.K R df) rs G G')(h:EV X G' e d)(hn:noL d=true)(hb:EV X G' b (.int z))(hf:(f,list ds)∈df)(z0:0<=z)(z1:z<ds.length)
  (ha:∀v,assign (.Subscript o b pos3) X.env v=(do
   let ov <-holding [v] (eval o X.env)
   let iv <-holding [v,ov] (eval b X.env)
   standAt pos3
   holding [v,ov,iv] (setItem ov iv v)
   release [v,ov,iv] []):=by intro _;rfl)
  (hs:swapsWithSole [.Subscript o b pos3] e pos.line X.env=pure false:=by rfl)(hw:swappedStores [.Subscript o b pos3] e X.env=pure none:=by rfl)
  (h1:(assignEach [.Subscript o b pos3] X.env).map (·.2)=[assign (.Subscript o b pos3) X.env]:=by rfl):PS X (.Assign [.Subscript o b pos3] e pos) (zN X.K R.L (Nz X.K R df) rs G G (Nz X.K R (upD f (.list (ds.set z.toNat d)) df))):=by
 refine(C8 h (HJ ho hb set_list ha) hs hw h1).imp λD σ H ⟨r,q⟩=>⟨v σ H r,λy H1 s1 d1=>?_⟩
 have r1:=r.step nz_ok s1
 refine hto σ H1 _ r1 λp us0 H1' hp hl s1'=>⟨v σ H1' (r1.step nz_ok s1'),λw H2 s2' d2=>?_⟩
 have d2:=d2.of_int
 subst d2
 have s2:Same H1 H2:=s1'.trans s2'
 have r2:=r1.step nz_ok s2
 obtain⟨kvs,t⟩:=id r2.2.1
 obtain⟨p',us,k1,_,hu,du,nd⟩:=t.nk.get t.ndk hf
 have:=JI t.ndl k1 hp
 subst this
 have dv2:=DV.lef (nz_ok.notup r2.2.1) (d1.mono s2) hn
 have eL:lef R.L (upd H2 p' (.lst (us.set z.toNat y)))=lef R.L H2:=Bq (mem_cons_of_mem _ (mem_map_of_mem (f:=(·.2)) hp))
 have hlen:us.length=ds.length:=du.length
 refine⟨p',us,z,z.toNat,rfl,rfl,hu,?_,?_⟩
 .unfold ixN
  rw[if_pos z0,if_pos (by rw[hlen];exact z1)]
 .refine q σ _ ⟨r.1,t.put hp hf (du.setAt dv2 _) (Jd hn ds _ nd),?_⟩ ?_
  .rw[eL];exact r2.2.2
  .rw[eL];exact s1.lef.trans s2.lef
theorem Ml{Q:V->Hp->Prop}(hi:(i,R.a)∈rs)(v:Sees X.K R.L (Nz X.K R df) rs G G')(hf:(f,list ds)∈df)(r:RZ X.K R.L (Nz X.K R df) rs G σ H)(q:∀p us H',(f,p)∈R.ls->H' p=some (.lst us)->Same H H'->Q (.ref p) H'):SJ (tVar i) (tD X.K G' (.str f)) σ H Q:=by
 refine⟨.ref R.a,r.1 _ hi,v σ H r,λy H2 s2 d2=>?_⟩
 have d2:=d2.of_str
 subst d2
 obtain⟨kvs,t⟩:=(r.step nz_ok s2).2.1
 obtain⟨p,us,k1,k2,k3,_⟩:=t.nk.get t.ndk hf
 exact⟨R.a,.ref p,rfl,k2▸DGet.k (k:=.inr f) t.obj,q p us H2 k1 k3 s2⟩
end
section
variable{R:NR}{k:Nat}
theorem IM{z:Int}(hj:(j,p)∈rs)(hp:(f,p)∈R.ls)(hv:PE X (.Name y pos2) (tVar j))(v:Sees X.K R.L (Nz X.K R df) rs G G')(h:EV X G' e d)(hn:noL d=true)(hb:EV X G' b (.int z))(hf:(f,list ds)∈df)(z0:0<=z)(z1:z<ds.length)
  (ha:∀v,assign (.Subscript (.Name y pos2) b pos3) X.env v=(do
   let ov <-holding [v] (eval (.Name y pos2) X.env)
   let iv <-holding [v,ov] (eval b X.env)
   standAt pos3
   holding [v,ov,iv] (setItem ov iv v)
   release [v,ov,iv] []):=by intro _;rfl)
  (hs:swapsWithSole [.Subscript (.Name y pos2) b pos3] e pos.line X.env=pure false:=by rfl)(hw:swappedStores [.Subscript (.Name y pos2) b pos3] e X.env=pure none:=by rfl)
  (h1:(assignEach [.Subscript (.Name y pos2) b pos3] X.env).map (·.2)=[assign (.Subscript (.Name y pos2) b pos3) X.env]:=by rfl):PS X (.Assign [.Subscript (.Name y pos2) b pos3] e pos) (zN X.K R.L (Nz X.K R df) rs G G (Nz X.K R (upD f (.list (ds.set z.toNat d)) df))):=
 Jq hv (λσ H Q r q=>by
  obtain⟨kvs,t⟩:=id r.2.1
  obtain⟨us,hu⟩:=t.own _ hp
  exact⟨.ref p,r.1 _ hj,q p us H hp hu (Same.refl _)⟩) v h hn hb hf z0 z1 ha hs hw h1
theorem IT{z:Int}{kb:Expr}(hu:X.A.units+1<cLine)(hi:(i,R.a)∈rs)(hv:PE X (.Name x pos2) (tVar i))(v:Sees X.K R.L (Nz X.K R df) rs G G')(hkb:EV X G' kb (.str f))(h:EV X G' e d)(hn:noL d=true)(hb:EV X G' b (.int z))(hf:(f,list ds)∈df)(z0:0<=z)(z1:z<ds.length)
  (hns:NoSl kb:=by intro _ _;rfl)
  (ha:∀v,assign (.Subscript (.Subscript (.Name x pos2) kb pos4) b pos3) X.env v=(do
   let ov <-holding [v] (eval (.Subscript (.Name x pos2) kb pos4) X.env)
   let iv <-holding [v,ov] (eval b X.env)
   standAt pos3
   holding [v,ov,iv] (setItem ov iv v)
   release [v,ov,iv] []):=by intro _;rfl)
  (hs:swapsWithSole [.Subscript (.Subscript (.Name x pos2) kb pos4) b pos3] e pos.line X.env=pure false:=by rfl)(hw:swappedStores [.Subscript (.Subscript (.Name x pos2) kb pos4) b pos3] e X.env=pure none:=by rfl)
  (h1:(assignEach [.Subscript (.Subscript (.Name x pos2) kb pos4) b pos3] X.env).map (·.2)=[assign (.Subscript (.Subscript (.Name x pos2) kb pos4) b pos3) X.env]:=by rfl):PS X (.Assign [.Subscript (.Subscript (.Name x pos2) kb pos4) b pos3] e pos) (zN X.K R.L (Nz X.K R df) rs G G (Nz X.K R (upD f (.list (ds.set z.toNat d)) df))):=
 Jq (FT hu hv hkb hns) (λσ H Q r q=>Ml hi v hf r q) v h hn hb hf z0 z1 ha hs hw h1
theorem D_{kb:Expr}(hu:X.A.units+1<cLine)(hi:(i,R.a)∈rs)(hv:PE X (.Name x pos2) (tVar i))(v:Sees X.K R.L (Nz X.K R df) rs G G')(hkb:EV X G' kb (.str f))(h:EV X G' e d)(hn:noL d=true)(hf:(f,list ds)∈df)(hz:ds.length<sizeLine)
  (hns:NoSl kb:=by intro _ _;rfl)
  (hb2:attributeBase (.Subscript (.Name x pos2) kb pos3) "append" X.env (eval (.Subscript (.Name x pos2) kb pos3) X.env)=eval (.Subscript (.Name x pos2) kb pos3) X.env:=by rfl)
  (hs0:starEach [e] X.env=(false,eval e X.env)::starEach [] X.env:=by rfl)
  (hfew:((backTo pos' (starEach [e] X.env)).all (λx=>!x.1)&&(backToKw pos' (keywordEach [] X.env)).all (λx=>x.1.isSome)
   &&decide ([e].length+([]:List Keyword).length+(if([]:List Keyword).isEmpty then 0 else 1)<30))=true:=by rfl)
  (hline:(pos4.endLine==pos'.line)=true:=by rfl)(hpl:(backTo pos' (starEach [] X.env)).any (·.1)=false:=by rfl)
  (hsw:swapsWith (.Call (.Attribute (.Subscript (.Name x pos2) kb pos3) "append" pos4) [e] [] pos') none pos.line X.env=pure false:=by rfl):
  PS X (.Expr (.Call (.Attribute (.Subscript (.Name x pos2) kb pos3) "append" pos4) [e] [] pos') pos) (zN X.K R.L (Nz X.K R df) rs G G (Nz X.K R (upD f (.list (ds++[d])) df))):=by
 refine(BG (HC plainAttrs_list PySem.F.slot_list_append PySem.F.type_list_append DA (FT hu hv hkb hns) (Aa h Ad hs0) hb2 hfew hline hs0 hpl) hsw).imp λD σ H ⟨r,q⟩=>?_
 refine Ml hi v hf r λp us0 H0 hp hl0 s0=>?_
 have r0:=r.step nz_ok s0
 refine⟨.inl ⟨rfl,us0,SqL.of hl0⟩,v σ H0 r0,λvs H1 s1 dvs=>?_⟩
 obtain⟨u,rfl,dv⟩:=dvs.one
 have r1:=r0.step nz_ok s1
 obtain⟨kvs,t⟩:=id r1.2.1
 obtain⟨p',us,k1,_,hu1,du,nd⟩:=t.nk.get t.ndk hf
 have:=JI t.ndl k1 hp
 subst this
 have dv1:=DV.lef (nz_ok.notup r1.2.1) dv hn
 have eL:lef R.L (upd H1 p' (.lst (us++[u])))=lef R.L H1:=Bq (mem_cons_of_mem _ (mem_map_of_mem (f:=(·.2)) hp))
 refine⟨p',us,u,rfl,rfl,hu1,by rw[du.length];exact hz,q σ _ ⟨r.1,t.put hp hf (du.append (.cons dv1 .nil)) (L_ hn ds nd),?_⟩ ?_⟩
 .rw[eL];exact r1.2.2
 .rw[eL];exact s0.lef.trans s1.lef
theorem Qa{kb:Expr}(hu:X.A.units+1<cLine)(hN:X.N.Nodup)(hj:X.N[j]?=some y)(hj0:j∉rs.map (·.1))(hy:Loc X.env.scope y)(hG:G[j]?=some none)(hi:(i,R.a)∈rs)(hv:PE X (.Name x pos2) (tVar i))(v:Sees X.K R.L (Nz X.K R df) rs G G')(hkb:EV X G' kb (.str f))(hf:(f,list ds)∈df)
  (h2:∀p,(f,p)∈R.ls->PSs X sts (zR X.K R.L (Nz X.K R df) ((j,p)::rs) G d I1))(hns:NoSl kb:=by intro _ _;rfl)
  (hs:swapsWith (.Subscript (.Name x pos2) kb pos3) (some (.Name y pos')) pos.line X.env=pure false:=by rfl)
  (hfn:Zlo X y:=by first|exact .inl rfl|exact .inr rfl|assumption):PSs X (.Assign [.Name y pos'] (.Subscript (.Name x pos2) kb pos3) pos::sts) (zR X.K R.L (Nz X.K R df) rs G d I1):=by
 have h2':PSs X sts (λD σ H=>∃p,(f,p)∈R.ls/\zR X.K R.L (Nz X.K R df) ((j,p)::rs) G d I1 D σ H):=λpins s σ H D I ⟨p,hp,q⟩=>h2 p hp pins s σ H D I q
 refine(Az (BL hN hj hy (FT hu hv hkb hns) hs hfn) h2').imp λD σ H ⟨r,q⟩=>?_
 refine Ml hi v hf r λp us0 H0 hp hl0 s0=>?_
 have r0:=r.step nz_ok s0
 refine⟨p,hp,⟨λz hz=>?_,r0.2.1,?_⟩,λu H' i' s' dv=>q u H' i' (s0.lef.trans s') dv⟩
 .rcases mem_cons.mp hz with e|hz
  .subst e
   exact getElem?_set_self (by rw[r.2.2.1];exact(List.getElem?_eq_some_iff.mp hG).1)
  .rw[getElem?_set_ne λw=>hj0 (mem_map.mpr ⟨z,hz,w.symm⟩)]
   exact r.1 z hz
 .refine⟨by rw[length_set];exact r0.2.2.1,λl d' el=>?_⟩
  by_cases hjl:j=l
  .subst hjl;rw[hG]at el;cases el
  .rw[getElem?_set_ne hjl]
   exact r0.2.2.2 l d' el
theorem Rh{K:Frag}{H:Hp}:∀{kvs:List (Key×V)}{df:DF},DVk K H kvs (dfD df)->(df.map (·.1)).Nodup->(f,d)∈df->∃v,valV kvs (.inr f)=some v/\DV K H v d
 |_,[],_,_,h=>by cases h
 |_,(g,d0)::df,hk,nd,h=>by
  rw[show dfD ((g,d0)::df)=(.str g,d0)::dfD df from rfl]at hk
  generalize ek:(str g)=ks at hk
  cases hk with
  |cons h1 t=>
   rename_i k0 x0 xs0
   have:k0=.inr g:=by cases k0 with
    |inl i=>cases ek
    |inr s=>cases ek;rfl
   subst this
   rw[map_cons,nodup_cons]at nd
   rcases mem_cons.mp h with e|h
   .cases e
    exact⟨_,DM rfl,h1⟩
   .rw[CT (λz=>nd.1 (by rw[show g=f from inr.inj z];exact mem_map_of_mem (f:=(·.1)) h))]
    exact Rh t nd.2 h
theorem Rb(hu:X.A.units+1<cLine)(ha:EV X G a (.dict (dfD df)))(hb:EV X G b (.str f))(nd:(df.map (·.1)).Nodup)(hf:(f,d)∈df)(hx:excC (dfD df)=none)(hs:NoSl b:=by intro _ _;rfl):EV X G (.Subscript a b pos) d:=
 (FT hu ha hb hs).imp λσ H Q ⟨h,q⟩=>⟨h,λy H1 s1 d1=>⟨h.mono s1,λz H2 s2 d2=>by
  have d2:=d2.of_str
  subst d2
  obtain⟨ad,kvs,rfl,hk,dk⟩:=(d1.mono s2).of_dct hx
  obtain⟨v,e1,dv⟩:=Rh dk nd hf
  exact⟨ad,v,rfl,e1▸DGet.k (k:=.inr f) hk,q v H2 (s1.trans s2) dv⟩⟩⟩
end
def spN(K:Frag)(F:DF->List PyData->PyData->DF->Prop):Sp:=λvs H Q _=>∃(R:NR) (df:DF) (ds:List PyData) (d:PyData) (df':DF) (vr:List V),vs=.ref R.a::vr/\Nz K R df H/\DVs K (lef R.L H) vr ds/\F df ds d df'/\
 ∀v H',Nz K R df' H'->Same (lef R.L H) (lef R.L H')->DV K (lef R.L H') v d->Q v H'
def NzFn(P:Program)(w:World)(K:Frag)(mg:Str->Option Value)(base:Heap)(k:Nat)(x:Str)(F:DF->List PyData->PyData->DF->Prop):Prop:=
 ∃f fd ps,FnOk P w K mg base CX0 k f fd ps (spN K F)/\mg x=some (.ref f)/\keepIn K (.ref f)=true/\Binds K fd ps []
def spNn(K:Frag)(F:List PyData->DF->Prop):Sp:=λvs H Q _=>∃(ds:List PyData) (df:DF),DVs K H vs ds/\F ds df/\∀R H',Nz K R df H'->Same H (lef R.L H')->Q (.ref R.a) H'
def NnFn(P:Program)(w:World)(K:Frag)(mg:Str->Option Value)(base:Heap)(k:Nat)(x:Str)(F:List PyData->DF->Prop):Prop:=
 ∃f fd ps,FnOk P w K mg base CX0 k f fd ps (spNn K F)/\mg x=some (.ref f)/\keepIn K (.ref f)=true/\Binds K fd ps []
def tNn(K:Frag)(G:Gam)(df:DF):TS:=λD σ H=>SD K H σ G/\∀R H',Nz K R df H'->Same H (lef R.L H')->D.rt (.ref R.a) H'
theorem Fun.dictW{f:Addr}{k:Nat}{F:DF->List PyData->PyData->DF->Prop}(F0:Fun K x qual st f fd)(hm:mg x=some (.ref f))(hb:Binds K fd ps [])(S0:FnScope (n0::N) ps (Ae st))(len:∀df ds d df',F df ds d df'->ds.length+1=ps.length)
  (hbody:∀(cdv:Value) (A:Around) (outer:List Env) (s:Shared) (H:Hp) (E:XK) (R:NR) (df:DF) (ds:List PyData) (d:PyData) (df':DF),Room k (A.deeper (envOfC qual (Ae st) s.heap.objs.size f cdv))->F df ds d df'->
   PSs (cxOf CX0 P w K mg base (n0::N) qual (Ae st) f cdv A outer s H E).nox (AN st) (zR K R.L (Nz K R df) [(0,R.a)] (none::Bh N ds) d (Nz K R df'))):NzFn P w K mg base (k+1) x F:=by
 refine⟨f,fd,ps,F0.ok S0 (λvs H Q E ⟨R,df,ds,d,df',vr,e,_,dv,hF,_⟩=>by rw[e,List.length_cons,dv.length];exact len df ds d df' hF) (λcdv A outer s H vs Q E hr ⟨R,df,ds,d,df',vr,e,kz,dv,hF,q⟩=>?_),hm,F0.kp,hb⟩
 subst e
 refine⟨_,hbody cdv A outer s H E R df ds d df' hr hF,⟨λz hz=>?_,kz,?_⟩,q⟩
 .have:=List.mem_singleton.mp hz
  subst this
  rw[Bp]
  rfl
 .rw[Bp];exact(SD.start dv).cons0 _
theorem Fun.dictN{f:Addr}{k:Nat}{F:List PyData->DF->Prop}(F0:Fun K x qual st f fd)(hm:mg x=some (.ref f))(hb:Binds K fd ps [])(S:FnScope N ps (Ae st))(len:∀ds df,F ds df->ds.length=ps.length)
  (hbody:∀(cdv:Value) (A:Around) (outer:List Env) (s:Shared) (H:Hp) (E:XK) (ds:List PyData) (df:DF),Room k (A.deeper (envOfC qual (Ae st) s.heap.objs.size f cdv))->F ds df->
   PSs (cxOf CX0 P w K mg base N qual (Ae st) f cdv A outer s H E).nox (AN st) (tNn K (Bh N ds) df)):NnFn P w K mg base (k+1) x F:=
 ⟨f,fd,ps,F0.ok S (λvs H Q E ⟨ds,df,h1,h2,_⟩=>h1.length.trans (len ds df h2)) (λcdv A outer s H vs Q E hr ⟨ds,df,h1,h2,q⟩=>⟨_,hbody cdv A outer s H E ds df hr h2,SD.start h1,q⟩),hm,F0.kp,hb⟩
section
variable{R:NR}{k:Nat}
theorem QI{F:DF->List PyData->PyData->DF->Prop}(D:NzFn X.prog X.w X.K X.mg X.base k f F)(hr:Room k X.A)(hg:Gl X f)(hi:(i,R.a)∈rs)(hv:PE X (.Name x pos2) (tVar i))(hF:F df [] d df')(hdb:(f==("__debug__":Str))=false:=by decide)
  (he:starEach [.Name x pos2] X.env=(false,eval (.Name x pos2) X.env)::starEach [] X.env:=by rfl)(hpl:(backTo pos (starEach [] X.env)).any (·.1)=false:=by rfl):ZE X R.L (Nz X.K R df) rs G (.Call (.Name f p1) [.Name x pos2] [] pos) d (Nz X.K R df'):=by
 obtain⟨fa,fd,ps,ok,hm,hk,hb⟩:=D
 refine(Ed (E:=E0) (dvs:=[]) (ds:=[]) ok hr hg hm hk hb .nil Cs (BS hv pa_nil he) hdb he hpl).imp λσ H Q ⟨r,q⟩=>⟨.ref R.a,r.1 _ hi,?_⟩
 show spN X.K F ([.ref R.a]++[]) H Q E0
 exact⟨R,df,[],d,df',[],rfl,r.2.1,.nil,hF,q⟩
theorem QY{F:List PyData->DF->Prop}(D:NnFn X.prog X.w X.K X.mg X.base k f F)(hr:Room k X.A)(hg:Gl X f)(ha:AV X G (e::es) ds)(hF:F ds df)(hdb:(f==("__debug__":Str))=false:=by decide)
  (he:Zst X e es:=by rfl)(hpl:(backTo pos (starEach es X.env)).any (·.1)=false:=by rfl):PE X (.Call (.Name f p1) (e::es) [] pos) (λσ H Q=>SD X.K H σ G/\∀R H',Nz X.K R df H'->Same H (lef R.L H')->Q (.ref R.a) H'):=by
 obtain⟨fa,fd,ps,ok,hm,hk,hb⟩:=D
 refine(Ed (E:=E0) (dvs:=[]) (ds:=[]) ok hr hg hm hk hb .nil Cs ha hdb he hpl).imp λσ H Q ⟨h,q⟩=>⟨h,λvs H1 s1 dvs=>?_⟩
 show spNn X.K F (vs++[]) H1 Q E0
 rw[append_nil]
 exact⟨ds,df,dvs,hF,λR H' n s'=>q R H' n (s1.trans s')⟩
end
section
variable{a b:Addr}{more:List (Key×V)}
theorem UM{Q:Value->Shared->Prop}(I:Inv X pins σ H s)(ea:H a=some (.dK kvs))(eb:H b=some (.dK more))(hab:a≠b)(hz:kvs.length+more.length<=sizeLine)(h:∀s',Inv X pins σ (upd H a (.dK (BK kvs more))) s'->Q .none s'):wpAny (model X.prog X.w) A (call (.builtin "dict.update") [.ref a,.ref b]) Q E s:=by
 obtain⟨z,hd,vs,rel,dd⟩:=KU I.hok ea
 obtain⟨z2,hd2,vs2,rel2,dd2⟩:=KU I.hok eb
 refine call_meetsIn PySem.F.slot_dict_update dd.typeIs PySem.F.entry_dict_update (PySem.F.args_dict_update_2 _ _) (meets_dict_update (Bc X.prog X.w) a b hab hd2) ⟨vs,vs2,dd,dd2,by rw[<-rel.length,<-rel2.length];exact hz,λh' dd' _ hs=>h _ ?_⟩
 have he:∃q,h'.get? a=some q:=let⟨q,_,_,hq,_⟩:=dd';⟨q,hq⟩
 exact Hn I (by rw[ea];exact True.intro) hs he (Lp (le_trans (Do more kvs) hz) hd (rel2.merge rel) dd')
end
def UY(td te:TE):TE:=λσ H Q=>td σ H λx H1=>∃a,x=.ref a/\IsD H1 a/\te σ H1 λy H2=>∃b kvs more,y=.ref b/\a≠b/\H2 a=some (.dK kvs)/\H2 b=some (.dK more)/\kvs.length+more.length<=sizeLine/\Q .non (upd H2 a (.dK (BK kvs more)))
theorem M0{td te:TE}(ho:PE X o td)(he:PE X e te)(m:M1 X o "update" apos e cpos):PE X (.Call (.Attribute o "update" apos) [e] [] cpos) (UY td te):=by
 intro pins s σ H Q I h
 refine wpAny_Call_method m.base m.few m.line PySem.F.plainAttrs_dict PySem.F.slot_dict_update PySem.F.type_dict_update (thn (ho pins s σ H _ I h) λu s1 ⟨x,H1,I1,rx,a,ex,d,q1⟩=>?_)
 subst ex
 obtain rfl:u=Value.ref a:=rx
 obtain⟨t1,t2,_⟩:=Pg I1 d
 refine⟨t1,t2,?_⟩
 rw[m.trees]
 refine Calls.callWith_builtin rfl (Calls.evalArgs_plain (Calls.spliced_cons (thn (he pins s1 σ H1 _ I1 q1) λiv s2 ⟨y,H2,I2,ry,b,kvs,more,ey,hab,ea,eb,hz,q2⟩=>Calls.spliced_nil ?_)))
 subst ey
 obtain rfl:iv=Value.ref b:=ry
 exact UM I2 ea eb hab hz λs3 I3=>⟨.non,_,I3,rfl,q2⟩
structure DBn(K:Frag)(H:Hp)(ls:List (Str×Addr))(df:DF)(kvs:List (Key×V))(H':Hp):Prop where
 same:Same H H'
 fre:∀q∈ls,H q.2=none
 nda:(ls.map (·.2)).Nodup
 ndl:(ls.map (·.1)).Nodup
 sub:∀q∈ls,q.1∈df.map (·.1)
 own:∀q∈ls,∃us,H' q.2=some (.lst us)
 nk:NK K ls H' H' kvs df
def PD(X:Cx)(pos:Pos)(G:Gam)(keys:List (Option Expr))(vals:List Expr)(df:DF):Prop:=
 ∃trs,PPs X pos keys vals trs/\∀σ H (Q:List (V×V)->Hp->Prop),SD X.K H σ G->(∀ls kvs H',DBn X.K H ls df kvs H'->Q (kvs.map λkv=>(kV kv.1,kv.2)) H')->Ik trs σ H Q
variable{vals:List Expr}
section
variable{keys:List (Option Expr)}{k v:Expr}
theorem QZ:PD X pos G [] [] []:=⟨[],Jw,λσ H Q h q=>q [] [] H ⟨Same.refl _,(λ_ h=>by cases h),nodup_nil,nodup_nil,(λ_ h=>by cases h),(λ_ h=>by cases h),.nil⟩⟩
theorem IA(hk:EV X G k (.str f))(hv:EVF X G v ws)(hn:noLs ws=true)(hf:f∉df.map (·.1))(hr:PD X pos G keys vals df):PD X pos G (some k::keys) (v::vals) ((f,.list ws)::df):=by
 obtain⟨trs,hp,hq⟩:=hr
 refine⟨_,DL hk hv hp,λσ H Q h q=>⟨h,λx H1 s1 d1=>?_⟩⟩
 have d1:=d1.of_str
 subst d1
 refine⟨h.mono s1,λp us H2 hpn s2 hl dv=>hq σ H2 _ (h.mono (s1.trans s2)) λls kvs H3 b=>?_⟩
 refine q ((f,p)::ls) ((.inr f,.ref p)::kvs) H3 ⟨(s1.trans s2).trans b.same,λz hz=>?_,?_,?_,λz hz=>?_,λz hz=>?_,?_⟩
 .rcases mem_cons.mp hz with rfl|hz
  .cases e:H p with
   |none=>rfl
   |some o=>rw[s1 _ _ e]at hpn;cases hpn
  .cases e:H z.2 with
   |none=>rfl
   |some o=>
    have:=b.fre z hz
    rw[(s1.trans s2) _ _ e]at this
    cases this
 .rw[map_cons,nodup_cons]
  refine⟨λz=>?_,b.nda⟩
  obtain⟨y,hy,ey⟩:=mem_map.mp z
  have:=b.fre y hy
  rw[ey,hl]at this
  cases this
 .rw[map_cons,nodup_cons]
  refine⟨λz=>?_,b.ndl⟩
  obtain⟨y,hy,ey⟩:=mem_map.mp z
  exact hf (by have e2:y.1=f:=ey;rw[<-e2];exact b.sub y hy)
 .rcases mem_cons.mp hz with rfl|hz
  .exact mem_cons_self
  .exact mem_cons_of_mem _ (b.sub z hz)
 .rcases mem_cons.mp hz with rfl|hz
  .exact⟨us,b.same _ _ hl⟩
  .exact b.own z hz
 .exact .lst mem_cons_self (b.same _ _ hl) (dv.mono b.same) hn (b.nk.more λz hz=>mem_cons_of_mem _ hz)
theorem Mn(hk:EV X G k (.str f))(hv:EV X G v d)(hn:noL d=true)(hr:PD X pos G keys vals df):PD X pos G (some k::keys) (v::vals) ((f,d)::df):=by
 obtain⟨trs,hp,hq⟩:=hr
 refine⟨_,DL hk hv hp,λσ H Q h q=>⟨h,λx H1 s1 d1=>?_⟩⟩
 have d1:=d1.of_str
 subst d1
 refine⟨h.mono s1,λy H2 s2 dv=>hq σ H2 _ (h.mono (s1.trans s2)) λls kvs H3 b=>?_⟩
 refine q ls ((.inr f,y)::kvs) H3 ⟨(s1.trans s2).trans b.same,λz hz=>?_,b.nda,b.ndl,λz hz=>mem_cons_of_mem _ (b.sub z hz),b.own,.dat (dv.mono b.same) hn b.nk⟩
 cases e:H z.2 with
 |none=>rfl
 |some o=>
  have:=b.fre z hz
  rw[(s1.trans s2) _ _ e]at this
  cases this
end
theorem Qp{k:Key}{x:V}(h:k∉kvs.map (·.1)):putK kvs k x=kvs++[(k,x)]:=by
 unfold putK
 rw[if_neg]
 intro z
 obtain⟨q,hq,e⟩:=any_eq_true.mp z
 exact h (by rw[<-of_decide_eq_true e];exact mem_map_of_mem hq)
theorem Cl:∀{more kvs:List (Key×V)},((kvs++more).map (·.1)).Nodup->BK kvs more=kvs++more
 |[],kvs,_=>(append_nil _).symm
 |q::r,kvs,h=>by
  have e:kvs++q::r=(kvs++[q])++r:=by rw[append_assoc];rfl
  show BK (putK kvs q.1 q.2) r=_
  rw[Qp,e]
  .rw[e]at h
   exact Cl h
  .intro z
   rw[map_append,map_cons,nodup_append]at h
   exact h.2.2 _ z _ mem_cons_self rfl
theorem DBn.nodupK{K:PySem.W.Frag}{H H':Hp}{ls:List (Str×Addr)}{df:DF}{kvs:List (Key×V)}(h:NK K ls H' H' kvs df)(nd:(df.map (·.1)).Nodup):(kvs.map (·.1)).Nodup:=by
 rw[h.keys]
 have:(df.map λq=>(.inr q.1:Key))=(df.map (·.1)).map .inr:=by rw[List.map_map];rfl
 rw[this]
 exact List.Pairwise.map _ (λa b h e=>h (Sum.inr.inj e)) nd
theorem DC{b:Addr}{o:HO}(e:H b=some o)(h1:∀ys,o≠.tup ys)(h2:∀q u,o≠.frz q u)(xs:List V):¬Rd H b (.tup xs):=λr=>by
 rcases r with r|⟨q,r⟩
 .rw[e]at r;exact h1 _ (Option.some.inj r)
 .rw[e]at r;exact h2 _ _ (Option.some.inj r)
theorem none_of{b:Addr}(s:Same H H')(h:H' b=none):H b=none:=by
 cases e:H b with
 |none=>rfl
 |some o=>rw[s _ _ e]at h;cases h
section
variable{keys keys2:List (Option Expr)}{vals2:List Expr}
theorem P8(h:PD X pos G keys vals df)(hN:X.N.Nodup)(h1:X.N[i]?=some xt)(x1:Loc X.env.scope xt)(hl:i<G.length)(hG:G[i]?=some none)(few:df.length<=15)(nd:(df.map (·.1)).Nodup)(hall:keys.all (·.isSome)=true:=by rfl)(h0:keys≠[]:=by intro h;cases h)(h15:keys.length<=15:=by decide)
  (hlen2:keys.length=vals.length:=by rfl)
  (s1:swapsWith (.Dict keys vals pos) (some (.Name xt p1)) p4.line X.env=pure false:=by rfl)(f1:Zlo X xt:=by first|exact .inl rfl|exact .inr rfl|assumption):
  PS X (.Assign [.Name xt p1] (.Dict keys vals pos) p4) (λD σ H=>SD X.K H σ G/\∀R σ' H',RZ X.K R.L (Nz X.K R df) [(i,R.a)] G σ' H'->Same H (lef R.L H')->D.nx σ' H'):=by
 obtain⟨trs,hp,hq⟩:=h
 refine(BL hN h1 x1 (Hj hp hall hlen2 h0 h15) s1 f1).imp λD σ H ⟨hσ,q⟩=>λp hpn=>?_
 refine hq σ _ _ (hσ.mono (Same.new hpn)) λls kvs H2 b=>⟨b.same _ _ Al,kvs,rfl,by rw[b.nk.length];exact few,?_⟩
 have nk:=DBn.nodupK (H:=H) b.nk nd
 rw[Cl (kvs:=[]) (by rw[nil_append];exact nk),nil_append]
 have nal:∀z∈ls,z.2≠p:=λz hz e=>by
  have:=b.fre z hz
  rw[e,Al]at this
  cases this
 have npL:p∈(NR.L ⟨p,ls⟩):=mem_cons_self
 have nt:∀c∈(NR.L ⟨p,ls⟩),∀xs,¬Rd H2 c (.tup xs):=λc hc xs=>by
  rcases mem_cons.mp hc with e|e
  .exact DC (by rw[e];exact b.same _ _ Al) (λ_ z=>by cases z) (λ_ _ z=>by cases z) xs
  .obtain⟨y,hy,ey⟩:=mem_map.mp e
   obtain⟨us,hu⟩:=b.own y hy
   exact DC (by rw[<-ey];exact hu) (λ_ z=>by cases z) (λ_ _ z=>by cases z) xs
 have eL:lef (NR.L ⟨p,ls⟩) (upd H2 p (.dK kvs))=lef (NR.L ⟨p,ls⟩) H2:=Bq npL
 have sL:Same H (lef (NR.L ⟨p,ls⟩) (upd H2 p (.dK kvs))):=λc o e=>by
  have n1:c≠p:=Av e hpn
  have e1:upd H p (.dK []) c=some o:=by rw[Aj n1];exact e
  rw[Ao,Aj n1]
  .exact b.same _ _ e1
  .intro z
   rcases mem_cons.mp z with z|z
   .exact n1 z
   .obtain⟨y,hy,ey⟩:=mem_map.mp z
    have:=b.fre y hy
    rw[ey,e1]at this
    cases this
 refine q ⟨p,ls⟩ _ _ ⟨λz hz=>?_,⟨kvs,Al,by omega,?_,b.ndl,nd,b.sub,λz hz=>?_,?_⟩,?_⟩ sL
 .have:=mem_singleton.mp hz
  subst this
  exact getElem?_set_self (by rw[hσ.1];exact hl)
 .rw[nodup_cons]
  refine⟨λz=>?_,b.nda⟩
  obtain⟨y,hy,ey⟩:=mem_map.mp z
  exact nal y hy ey
 .rw[Aj (nal z hz)];exact b.own z hz
 .rw[eL]
  exact(b.nk.lef nt).updN nal
 .refine⟨by rw[length_set];exact hσ.1,λj d ej=>?_⟩
  by_cases hj:i=j
  .subst hj;rw[hG]at ej;cases ej
  .rw[getElem?_set_ne hj]
   exact(hσ.mono sL).2 j d ej
theorem RD(h:PD X pos G keys vals df2)(hv:PE X (.Name xt pos2) (tVar i))(few2:df2.length<=15)(few:(df++df2).length<=40)(nd:((df++df2).map (·.1)).Nodup)(m1:M1 X (.Name xt pos2) "update" apos (.Dict keys vals pos) cpos)(hall:keys.all (·.isSome)=true:=by rfl)(h0:keys≠[]:=by intro h;cases h)(h15:keys.length<=15:=by decide)
  (hlen2:keys.length=vals.length:=by rfl)(hsw:swapsWith (.Call (.Attribute (.Name xt pos2) "update" apos) [.Dict keys vals pos] [] cpos) none pos'.line X.env=pure false:=by rfl):
  PS X (.Expr (.Call (.Attribute (.Name xt pos2) "update" apos) [.Dict keys vals pos] [] cpos) pos') (λD σ H=>∃R,RZ X.K R.L (Nz X.K R df) [(i,R.a)] G σ H/\∀R' H',RZ X.K R'.L (Nz X.K R' (df++df2)) [(i,R'.a)] G σ H'->Same (lef R.L H) (lef R'.L H')->D.nx σ H'):=by
 obtain⟨trs,hp,hq⟩:=h
 refine(BG (M0 hv (Hj hp hall hlen2 h0 h15) m1) hsw).imp λD σ H ⟨R,r,q⟩=>?_
 obtain⟨kvs0,t⟩:=id r.2.1
 refine⟨.ref R.a,r.1 _ mem_cons_self,R.a,rfl,.inl ⟨kvs0,.inl t.obj⟩,λp hpn=>?_⟩
 refine hq σ _ _ (r.sd.mono (Same.new hpn)) λls kvs H2 b=>⟨b.same _ _ Al,kvs,rfl,by rw[b.nk.length];exact few2,?_⟩
 have nd2:(df2.map (·.1)).Nodup:=by
  rw[map_append,nodup_append]at nd
  exact nd.2.1
 have nk:=DBn.nodupK (H:=H) b.nk nd2
 rw[Cl (kvs:=[]) (by rw[nil_append];exact nk),nil_append]
 have npa:R.a≠p:=λz=>by have:=t.obj;rw[z,hpn]at this;cases this
 have sH:Same H H2:=(Same.new hpn).trans b.same
 have nal:∀z∈ls,z.2≠p:=λz hz e=>by
  have:=b.fre z hz
  rw[e,Al]at this
  cases this
 have nal0:∀z∈R.ls,z.2≠p:=λz hz e=>by
  obtain⟨us,hu⟩:=t.own z hz
  rw[e,hpn]at hu
  cases hu
 have nar:∀z∈ls,z.2∉R.L:=λz hz e=>by
  have h1:H z.2=none:=none_of (Same.new hpn) (b.fre z hz)
  rcases mem_cons.mp e with e|e
  .have:=t.obj;rw[<-e,h1]at this;cases this
  .obtain⟨y,hy,ey⟩:=mem_map.mp e
   obtain⟨us,hu⟩:=t.own y hy
   rw[ey,h1]at hu;cases hu
 have t0:NK X.K R.ls H2 H2 kvs0 df:=(t.nk.mono (lef_same.trans sH) sH)
 have keyN:((kvs0++kvs).map (·.1)).Nodup:=DBn.nodupK (H:=H) (ls:=R.ls++ls) ((t0.more λz hz=>mem_append_left _ hz).app (b.nk.more λz hz=>mem_append_right _ hz)) nd
 refine⟨p,kvs0,kvs,rfl,npa,by rw[Aj npa];exact sH _ _ t.obj,Al,?_,?_⟩
 .rw[t.nk.length,b.nk.length,<-length_append,sizeLine_eq];omega
 rw[Cl keyN]
 have nk0:=(t0.more (ls':=R.ls++ls) λz hz=>mem_append_left _ hz).app (b.nk.more (ls':=R.ls++ls) λz hz=>mem_append_right _ hz)
 have own2:∀z∈R.ls++ls,∃us,H2 z.2=some (.lst us):=λz hz=>by
  rcases mem_append.mp hz with hz|hz
  .obtain⟨us,hu⟩:=t.own z hz
   exact⟨us,sH _ _ hu⟩
  .exact b.own z hz
 have np2:∀z∈R.ls++ls,z.2≠p:=λz hz=>by
  rcases mem_append.mp hz with hz|hz
  .exact nal0 z hz
  .exact nal z hz
 have naa:∀z∈R.ls++ls,z.2≠R.a:=λz hz=>by
  rcases mem_append.mp hz with hz|hz
  .exact λe=>(nodup_cons.mp t.nda).1 (e▸mem_map_of_mem (f:=(·.2)) hz)
  .exact λe=>nar z hz (by rw[e];exact mem_cons_self)
 have nt:∀c∈p::(NR.L ⟨R.a,R.ls++ls⟩),∀xs,¬Rd H2 c (.tup xs):=λc hc xs=>by
  rcases mem_cons.mp hc with e|e
  .exact DC (by rw[e];exact b.same _ _ Al) (λ_ z=>by cases z) (λ_ _ z=>by cases z) xs
  rcases mem_cons.mp e with e|e
  .exact DC (by rw[e];exact sH _ _ t.obj) (λ_ z=>by cases z) (λ_ _ z=>by cases z) xs
  .obtain⟨y,hy,ey⟩:=mem_map.mp e
   obtain⟨us,hu⟩:=own2 y hy
   exact DC (by rw[<-ey];exact hu) (λ_ z=>by cases z) (λ_ _ z=>by cases z) xs
 have eL:lef (NR.L ⟨R.a,R.ls++ls⟩) (upd (upd H2 p (.dK kvs)) R.a (.dK (kvs0++kvs)))=lef (NR.L ⟨R.a,R.ls++ls⟩) (upd H2 p (.dK kvs)):=Bq mem_cons_self
 have eP:lef (p::NR.L ⟨R.a,R.ls++ls⟩) H2=lef (p::NR.L ⟨R.a,R.ls++ls⟩) (upd H2 p (.dK kvs)):=(Bq mem_cons_self).symm
 have sP:Same (lef (p::NR.L ⟨R.a,R.ls++ls⟩) (upd H2 p (.dK kvs))) (lef (NR.L ⟨R.a,R.ls++ls⟩) (upd H2 p (.dK kvs))):=FY λc hc=>mem_cons_of_mem _ hc
 have sL:Same (lef R.L H) (lef (NR.L ⟨R.a,R.ls++ls⟩) (upd (upd H2 p (.dK kvs)) R.a (.dK (kvs0++kvs)))):=λc o e=>by
  have hcR:c∉R.L:=λz=>by rw[A9 z]at e;cases e
  rw[Ao hcR]at e
  have n1:c≠p:=Av e hpn
  have n2:c≠R.a:=λz=>hcR (z▸mem_cons_self)
  rw[Ao,Aj n2,Aj n1]
  .exact sH _ _ e
  .intro z
   rcases mem_cons.mp z with z|z
   .exact n2 z
   .obtain⟨y,hy,ey⟩:=mem_map.mp z
    rcases mem_append.mp hy with hy|hy
    .exact hcR (mem_cons_of_mem _ (ey▸mem_map_of_mem (f:=(·.2)) hy))
    .have:=none_of (Same.new hpn) (b.fre y hy)
     rw[ey,e]at this
     cases this
 refine q ⟨R.a,R.ls++ls⟩ _ ⟨r.1,⟨kvs0++kvs,Al,few,?_,?_,nd,λz hz=>?_,λz hz=>?_,?_⟩,r.2.2.mono sL⟩ sL
 .show(R.a::(R.ls++ls).map (·.2)).Nodup
  rw[nodup_cons]
  refine⟨λz=>?_,?_⟩
  .obtain⟨y,hy,ey⟩:=mem_map.mp z
   exact naa y hy ey
  .rw[map_append,nodup_append]
   refine⟨(nodup_cons.mp t.nda).2,b.nda,λc hc c' hc' e=>?_⟩
   obtain⟨y,hy,ey⟩:=mem_map.mp hc'
   exact nar y hy (by rw[ey,<-e];exact mem_cons_of_mem _ hc)
 .rw[map_append,nodup_append]
  refine⟨t.ndl,b.ndl,λc hc c' hc' e=>?_⟩
  obtain⟨y,hy,ey⟩:=mem_map.mp hc'
  obtain⟨y0,hy0,ey0⟩:=mem_map.mp hc
  rw[map_append,nodup_append]at nd
  exact nd.2.2 _ (t.sub y0 hy0) _ (b.sub y hy) (by rw[ey0,ey,e])
 .rw[map_append]
  rcases mem_append.mp hz with hz|hz
  .exact mem_append_left _ (t.sub z hz)
  .exact mem_append_right _ (b.sub z hz)
 .rw[Aj (naa z hz),Aj (np2 z hz)];exact own2 z hz
 .rw[eL]
  have n1:=nk0.lef nt
  rw[eP]at n1
  exact((n1.mono sP (Same.refl _)).updN np2).updN naa
theorem Qo{st1 st2:Stmt}(h1:PS X st1 (λD σ H=>SD X.K H σ G/\∀R σ' H',RZ X.K R.L (Nz X.K R df) [(i,R.a)] G σ' H'->Same H (lef R.L H')->D.nx σ' H'))
  (h2:PS X st2 (λD σ H=>∃R,RZ X.K R.L (Nz X.K R df) [(i,R.a)] G σ H/\∀R' H',RZ X.K R'.L (Nz X.K R' df2) [(i,R'.a)] G σ H'->Same (lef R.L H) (lef R'.L H')->D.nx σ H'))(hv:PE X (.Name xt pos2) (tVar i)):PSs X (st1::st2::.Return (some (.Name xt pos2)) pos::sts) (tNn X.K G df2):=
 (Az h1 (Az h2 (J4 (sts:=sts) hv))).imp λD σ H ⟨h,q⟩=>⟨h,λR σ' H' r s=>⟨R,r,λR' H2 r' s'=>⟨.ref R'.a,r'.1 _ mem_cons_self,q R' H2 r'.2.1 (s.trans s')⟩⟩⟩
end
variable{L1 L2':List Addr}
theorem Sw:lef (L1++L2') H=lef L1 (lef L2' H):=by
 funext b
 by_cases h1:b∈L1
 .rw[A9 h1,A9 (mem_append_left _ h1)]
 .rw[Ao h1]
  by_cases h2:b∈L2'
  .rw[A9 h2,A9 (mem_append_right _ h2)]
  .rw[Ao h2,Ao (λz=>(mem_append.mp z).elim h1 h2)]
theorem Fp:lef L1 (lef L2' H)=lef L2' (lef L1 H):=by
 funext b
 by_cases h1:b∈L1
 .rw[A9 h1]
  by_cases h2:b∈L2'
  .rw[A9 h2]
  .rw[Ao h2,A9 h1]
 .rw[Ao h1]
  by_cases h2:b∈L2'
  .rw[A9 h2,A9 h2]
  .rw[Ao h2,Ao h2,Ao h1]
structure ZF(L:List Addr)(I:Hp->Prop):Prop where
 fo:∀H,I H->∀b∈L,Fq H L b
 join:∀H H',I H->(∀b∈L,H' b=none)->Same (lef L H) H'->I (Br L H H')
theorem U9:ZF R.L (Oz K R lf df):=⟨λ_ i b hb=>.inl (i.fo b hb),λ_ _ i n s=>i.join n s⟩
theorem U6{R:NR}:ZF R.L (Nz K R df):=⟨λ_ i=>i.fo,λ_ _ i n s=>i.join n s⟩
theorem Fq.wide{L L':List Addr}{b:Addr}(f:Fq H L b)(h:∀c∈L,c∈L'):Fq H L' b:=by
 rcases f with(⟨xs,e⟩|⟨C,dx,fs,e,h1⟩|⟨a,C,fs,e,h1,ea⟩)|⟨kvs,e⟩
 .exact .inl (.inl ⟨xs,e⟩)
 .exact .inl (.inr (.inl ⟨C,dx,fs,e,h _ h1⟩))
 .exact .inl (.inr (.inr ⟨a,C,fs,e,h _ h1,ea⟩))
 .exact .inr ⟨kvs,e⟩
variable{I1' I2':Hp->Prop}{rs1:List (Nat×Addr)}
theorem NK.lefH{L:List Addr}(h:∀q∈ls,q.2∉L):∀{kvs:List (Key×V)}{df:DF},NK K ls Hb H kvs df->NK K ls Hb (L2.lef L H) kvs df
 |_,_,.nil=>.nil
 |_,_,.lst h1 h2 h3 h4 t=>.lst h1 (by rw[Ao (h _ h1)];exact h2) h3 h4 (t.lefH h)
 |_,_,.dat h1 h2 t=>.dat h1 h2 (t.lefH h)
theorem Nz.apart{R:NR}{L:List Addr}(i:Nz K R df H)(dj:∀b∈L,b∉R.L)(nt:∀b∈L,∀xs,¬Rd H b (.tup xs)):Nz K R df (lef L H):=by
 obtain⟨kvs,t⟩:=i
 have na:∀q∈R.ls,q.2∉L:=λq hq z=>dj _ z (List.mem_cons_of_mem _ (List.mem_map_of_mem hq))
 refine⟨kvs,by rw[Ao (λz=>dj _ z List.mem_cons_self)];exact t.obj,t.few,t.nda,t.ndl,t.ndk,t.sub,λq hq=>by rw[Ao (na q hq)];exact t.own q hq,?_⟩
 rw[Fp]
 refine(t.nk.lef λb hb xs r=>nt b hb xs ?_).lefH na
 rcases r with r|⟨q,r⟩
 .exact .inl (lef_same _ _ r)
 .exact .inr ⟨q,lef_same _ _ r⟩
section
variable{L:List Addr}{m:Nat}{T T1:α}
end
theorem Iz{K:Frag}{H:Hp}{L:List Addr}{rs:List (Nat×Addr)}:∀(is:List Nat) (ds:List PyData) (vs:List V) (σ:St) (G:Gam) (Q:St->Hp->Prop),is.length=ds.length->(∀q∈rs,q.1∉is)->(∀q∈rs,σ[q.1]?=some (some (.ref q.2)))->SD K (lef L H) σ G->DVs K (lef L H) vs ds->(∀σ2,(∀q∈rs,σ2[q.1]?=some (some (.ref q.2)))->SD K (lef L H) σ2 (GB is ds G)->Q σ2 H)->Ds is vs σ H Q
 |[],[],_,σ,G,Q,_,_,hr,h,.nil,q=>⟨rfl,q σ hr h⟩
 |i::is,d::ds,_,σ,G,Q,hl,hi,hr,h,.cons (x:=v) (xs:=vs) dv t,q=>⟨v,vs,rfl,Iz is ds vs _ _ Q (Nat.succ.inj hl) (λz hz w=>hi z hz (mem_cons_of_mem _ w)) (λz hz=>by rw[getElem?_set_ne λw=>hi z hz (by rw[<-w];exact mem_cons_self)];exact hr z hz) (h.set dv) t q⟩
variable{is:List Nat}
section
variable{L:List Addr}{k v:Expr}
theorem Si(h:ZE X L I rs G e (.list ds) I1)(hg:PG X tg (gLst X.K is.length (Ds is)))(hl:is.length=ds.length)(hi:∀q∈rs,q.1∉is)
  (hs:swapsWithSole [tg] e pos.line X.env=pure false:=by rfl)(hw:swappedStores [tg] e X.env=pure none:=by rfl)(h1:(assignEach [tg] X.env).map (·.2)=[assign tg X.env]:=by rfl):
  PS X (.Assign [tg] e pos) (zN X.K L I rs G (GB is ds G) I1):=
 (C8 h hg hs hw h1).imp λD σ H ⟨r,q⟩=>⟨r,λv H1 t1 s1 dv=>by
  obtain⟨l,us,rfl,hq,dys⟩:=dv.of_lst
  exact⟨l,us,rfl,lef_same.seq hq,by rw[dys.length,hl],Iz is ds us σ G _ hl hi r.1 (r.2.2.mono s1) dys λσ2 h2 h3=>q σ2 H1 ⟨h2,t1,h3⟩ s1⟩⟩
def kvI(m:List (Int×Int)):List (Key×V):=m.map λq=>(.inl q.1,.int q.2)
def PDI(X:Cx)(pos:Pos)(G:Gam)(keys:List (Option Expr))(vals:List Expr)(m:List (Int×Int)):Prop:=
 ∃trs,PPs X pos keys vals trs/\∀σ H (Q:List (V×V)->Hp->Prop),SD X.K H σ G->(∀H',Same H H'->Q ((kvI m).map λkv=>(kV kv.1,kv.2)) H')->Ik trs σ H Q
theorem S7:PDI X pos G [] [] []:=⟨[],Jw,λσ H Q h q=>q H (Same.refl _)⟩
theorem Fv{z n:Int}{keys:List (Option Expr)}{m:List (Int×Int)}(hk:EV X G k (.int z))(hv:EV X G v (.int n))(hr:PDI X pos G keys vals m):PDI X pos G (some k::keys) (v::vals) ((z,n)::m):=by
 obtain⟨trs,hp,hq⟩:=hr
 refine⟨_,DL hk hv hp,λσ H Q h q=>⟨h,λx H1 s1 d1=>?_⟩⟩
 have d1:=d1.of_int
 subst d1
 refine⟨h.mono s1,λy H2 s2 dv=>?_⟩
 have dv:=dv.of_int
 subst dv
 exact hq σ H2 _ (h.mono (s1.trans s2)) λH3 s3=>q H3 ((s1.trans s2).trans s3)
theorem Nk{z n:Int}:∀{m:List (Int×Int)},(m.map (·.1)).Nodup->(z,n)∈m->valV (kvI m) (.inl z)=some (.int n)
 |q::m,nd,h=>by
  rw[map_cons,nodup_cons]at nd
  show valV ((.inl q.1,.int q.2)::kvI m) (.inl z)=_
  rcases mem_cons.mp h with e|h
  .rw[<-e]
   exact DM rfl
  .rw[CT (λw=>nd.1 (by rw[show q.1=z from Sum.inl.inj w];exact mem_map_of_mem (f:=(·.1)) h))]
   exact Nk nd.2 h
theorem QO{z n:Int}{keys:List (Option Expr)}{m:List (Int×Int)}(hu:X.A.units+1<cLine)(h:PDI X p1 G keys vals m)(nd:(m.map (·.1)).Nodup)(few:m.length<=15)(hb:EV X G b (.int z))(hm:(z,n)∈m)(hs:NoSl b:=by intro _ _;rfl)(hall:keys.all (·.isSome)=true:=by rfl)(h0:keys≠[]:=by intro h;cases h)(h15:keys.length<=15:=by decide)(hlen:keys.length=vals.length:=by rfl):EV X G (.Subscript (.Dict keys vals p1) b pos) (.int n):=by
 obtain⟨trs,hp,hq⟩:=h
 refine(FT hu (Hj hp hall hlen h0 h15) hb hs).imp λσ H Q ⟨hσ,q⟩=>λp hpn=>?_
 refine hq σ _ _ (hσ.mono (Same.new hpn)) λH2 s2=>⟨s2 _ _ Al,kvI m,rfl,by unfold kvI;rw[length_map];exact few,?_⟩
 have sH:Same H (upd H2 p (.dK (BK [] (kvI m)))):=λc o e=>by
  rw[Aj (Av e hpn)]
  exact s2 _ _ (by rw[Aj (Av e hpn)];exact e)
 refine⟨hσ.mono sH,λy H3 s3 d3=>?_⟩
 have d3:=d3.of_int
 subst d3
 have ek:BK [] (kvI m)=kvI m:=by
  rw[Cl (kvs:=[]),nil_append]
  rw[nil_append]
  unfold kvI
  rw[map_map]
  have:(λq:Int×Int=>(.inl q.1:Key))=Sum.inl ∘ (·.1):=rfl
  show(m.map λq=>(.inl q.1:Key)).Nodup
  rw[this,<-map_map]
  exact List.Pairwise.map _ (λa b h e=>h (Sum.inl.inj e)) nd
 have hd:H3 p=some (.dK (kvI m)):=by rw[<-ek];exact s3 _ _ Al
 exact⟨p,.int n,rfl,Nk nd hm▸DGet.k (k:=.inl z) hd,q _ H3 (sH.trans s3) (.int n)⟩
end
def Ends.fr(D:Ends)(L:List Addr)(H:Hp):Ends:=⟨λσ' H'=>(∀b∈L,H' b=none)->D.nx σ' (Br L H H'),λv H'=>(∀b∈L,H' b=none)->D.rt v (Br L H H'),λσ' H'=>(∀b∈L,H' b=none)->D.bk σ' (Br L H H'),λσ' H'=>(∀b∈L,H' b=none)->D.ct σ' (Br L H H')⟩
section
variable{L:List Addr}{k:Nat}
theorem Kz.fo(i:Kz K p S H):∀b∈[p],Fq H [p] b:=λb hb=>by
 obtain⟨us,h,_⟩:=i
 exact .inl (.inl ⟨us,by rw[List.mem_singleton.mp hb];exact h⟩)
theorem UO:ZF [p] (Kz K p S):=⟨λ_ i=>i.fo,λH H' ⟨us,h1,h2,h3⟩ n s=>⟨us,by rw[AO mem_cons_self];exact h1,by rw[Ch n];exact h2.mono s,h3⟩⟩
theorem Tn(hi:(i,p)∈rs):Sees K [p] (Kz K p S) rs G (G.set i (some (.list S))):=λσ H r=>by
 obtain⟨us,hl,du,hs⟩:=id r.2.1
 have h1:=r.sd.set (i:=i) (v:=.ref p) (d:=.list S) (.lst (SqL.of hl) (du.mono lef_same))
 rw[BN (r.1 _ hi)]at h1
 exact h1
theorem Ta{z:Int}(hi:(i,p)∈rs)(hv:PE X (.Name x pos2) (tVar i))(v:Sees X.K [p] (Kz X.K p S) rs G G')(h:EV X G' e d)(hn:noL d=true)(hb:EV X G' b (.int z))(z0:0<=z)(z1:z<S.length)
  (ha:∀v,assign (.Subscript (.Name x pos2) b pos3) X.env v=(do
   let ov <-holding [v] (eval (.Name x pos2) X.env)
   let iv <-holding [v,ov] (eval b X.env)
   standAt pos3
   holding [v,ov,iv] (setItem ov iv v)
   release [v,ov,iv] []):=by intro _;rfl)
  (hs:swapsWithSole [.Subscript (.Name x pos2) b pos3] e pos.line X.env=pure false:=by rfl)(hw:swappedStores [.Subscript (.Name x pos2) b pos3] e X.env=pure none:=by rfl)
  (h1:(assignEach [.Subscript (.Name x pos2) b pos3] X.env).map (·.2)=[assign (.Subscript (.Name x pos2) b pos3) X.env]:=by rfl):PS X (.Assign [.Subscript (.Name x pos2) b pos3] e pos) (zN X.K [p] (Kz X.K p S) rs G G (Kz X.K p (S.set z.toNat d))):=by
 refine(C8 h (HJ hv hb set_list ha) hs hw h1).imp λD σ H ⟨r,q⟩=>⟨v σ H r,λy H1 s1 d1=>?_⟩
 have r1:=r.step kz_ok s1
 refine⟨.ref p,r.1 _ hi,v σ H1 r1,λw H2 s2 d2=>?_⟩
 have d2:=d2.of_int
 subst d2
 have r2:=r1.step kz_ok s2
 obtain⟨us,hu,du,nd⟩:=id r2.2.1
 have dv2:=DV.lef (kz_ok.notup r2.2.1) (d1.mono s2) hn
 have eL:lef [p] (upd H2 p (.lst (us.set z.toNat y)))=lef [p] H2:=Bq mem_cons_self
 have hlen:us.length=S.length:=du.length
 refine⟨p,us,z,z.toNat,rfl,rfl,hu,?_,?_⟩
 .unfold ixN
  rw[if_pos z0,if_pos (by rw[hlen];exact z1)]
 .refine q σ _ ⟨r.1,⟨us.set z.toNat y,Al,by rw[eL];exact du.setAt dv2 _,Jd hn S _ nd⟩,?_⟩ ?_
  .rw[eL];exact r2.2.2
  .rw[eL];exact s1.lef.trans s2.lef
end
def zTI(K:Frag)(L:List Addr)(I:Hp->Prop)(rs:List (Nat×Addr))(G:Gam)(k:Bool)(I1:Hp->Prop):TT:=λσ H Q=>RZ K L I rs G σ H/\∀H',I1 H'->Same (lef L H) (lef L H')->Q k H'
abbrev ZTI(X:Cx)(L:List Addr)(I:Hp->Prop)(rs:List (Nat×Addr))(G:Gam)(e:Expr)(k:Bool)(I1:Hp->Prop):Prop:=PT X e (zTI X.K L I rs G k I1)
variable{k':Bool}
section
variable{L:List Addr}{rest:List Expr}{k:Bool}
theorem QW(h:ZT X L I rs G e k):ZTI X L I rs G e k I:=h.imp λσ H Q ⟨r,q⟩=>⟨r,λH' r' s'=>q H' r'.2.1 s'⟩
theorem Ur(h:ZE X L I rs G a (.bool true) I1)(h2:ZE X L I1 rs G (.BoolOp .And (b::rest) pos) d I2):ZE X L I rs G (.BoolOp .And (a::b::rest) pos) d I2:=
 (Pz h h2).imp λσ H Q ⟨r,q⟩=>⟨r,λv H' i' s' dv=>⟨true,dv.of_bl,by simp only[if_true];exact⟨r.next i' s',λv2 H2 i2 s2 d2=>q v2 H2 i2 (s'.trans s2) d2⟩⟩⟩
theorem Qq{A B:List Stmt}(h:ZTI X L I rs G c k I1)(h1:k=true->PSs X A (zN X.K L I1 rs G G1 I2))(h2:k=false->PSs X B (zN X.K L I1 rs G G1 I2)):PS X (.If c A B pos) (zN X.K L I rs G G1 I2):=by
 cases k with
 |true=>exact(Cu h (h1 rfl) (AA (sts:=B))).imp λD σ H ⟨r,q⟩=>⟨r,λH' i' s'=>iteT ⟨r.next i' s',λσ2 H2 r2 s2=>q σ2 H2 r2 (s'.trans s2)⟩⟩
 |false=>exact(Cu h (AA (sts:=A)) (h2 rfl)).imp λD σ H ⟨r,q⟩=>⟨r,λH' i' s'=>iteF ⟨r.next i' s',λσ2 H2 r2 s2=>q σ2 H2 r2 (s'.trans s2)⟩⟩
end
section
variable{CX:CXT}{f:Addr}{sp:Sp}{k:Nat}{dvs:List V}{ds:List Value}{E:XK}{ta:TE}{t:TA}
end
section
variable{it:Expr}{k:Nat}{L:List Addr}{dn:DF}
end
section
variable{L:List Addr}{T:α}{k:Bool}
end
section
variable{a:Addr}{I2b:Hp->Prop}{k:Nat}
end
section
variable{k:Nat}
end
section
variable{L:List Addr}{T T1:α}
theorem Ss(W:Nat->Gam->α->Prop)(ok:∀T,ZOk L (Iv T))(hp:PassesOwn (model X.prog X.w) X.A X.env X.xe)(hcalm:X.calm=true)(hj:∀q∈rs,q.1≠j)(hg:PG X tg (BO j)){Gv:Gam}(v:Sees X.K L (Iv T) rs G Gv)(hc:EV X Gv c (.int n))(hn:n<1000)(hgr:Gl X "range")(hmr:X.mg "range"=none)(h0:W 0 G T)
  (hs:∀k G T,k<n->W k G T->∃G' T',W (k+1) G' T'/\PSs X body (zN X.K L (Iv T) rs (G.set j (some (.int (0+(k:Int))))) G' (Iv T')))
  (hd:∀G T σ H,W n G T->RZ X.K L (Iv T) rs G σ H->RZ X.K L (Iv T1) rs G1 σ H)
  (hsr:starEach [c] X.env=[(false,eval c X.env)]:=by rfl)(hfs:∀y,foldedSetIterable (.Call (.Name "range" p2) [c] [] p3) X.env y=pure y:=by intro _;rfl):
  PS X (.For tg (.Call (.Name "range" p2) [c] [] p3) body [] pos) (zN X.K L (Iv T) rs G G1 (Iv T1)):=by
 have hbody:PSs X body (λD σ H=>∃(k:Nat) (G:Gam) (T:α),k<n/\W k G T/\RZ X.K L (Iv T) rs (G.set j (some (.int (0+(k:Int))))) σ H/\∀σ' H' G' T',W (k+1) G' T'->RZ X.K L (Iv T') rs G' σ' H'->Same (lef L H) (lef L H')->D.nx σ' H'):=by
  intro pins s σ H D I ⟨k,G,T,hk,hW,r,q⟩
  obtain⟨G',T',hW',hps⟩:=hs k G T hk hW
  exact hps pins s σ H D I ⟨r,λσ' H' r' s'=>q σ' H' G' T' hW' r' s'⟩
 refine(Gy hp hcalm (Jm hgr hmr (Aa hc Ad hsr) hsr) hg hbody hfs).imp λD σ H ⟨r,q⟩=>⟨v σ H r,λvs H1 s1 d1=>?_⟩
 obtain⟨v1,rfl,dv1⟩:=d1.one
 refine⟨n,by rw[dv1.of_int],by omega,by omega,?_⟩
 rw[toNat_natCast]
 have r1:=r.step (ok _) s1
 refine Jl (lo:=0) (n:=n) (g:=BO j) (tb:=λD σ H=>∃(k:Nat) (G:Gam) (T:α),k<n/\W k G T/\RZ X.K L (Iv T) rs (G.set j (some (.int (0+(k:Int))))) σ H/\∀σ' H' G' T',W (k+1) G' T'->RZ X.K L (Iv T') rs G' σ' H'->Same (lef L H) (lef L H')->D.nx σ' H')
  (λk σ2 H2=>∃G T,W k G T/\RZ X.K L (Iv T) rs G σ2 H2/\Same (lef L H1) (lef L H2)) ⟨G,T,h0,r1,Same.refl _⟩ (λk σ2 H2 hk ⟨G2,T2,hW,r2,sm⟩=>?_) (λσ2 H2 ⟨G2,T2,hW,r2,sm⟩=>?_)
 .refine⟨k,G2,T2,hk,hW,⟨λz hz=>?_,r2.2.1,r2.2.2.set (.int _)⟩,λσ3 H3 G3 T3 hW3 r3 s3=>⟨G3,T3,hW3,r3,sm.trans s3⟩⟩
  rw[getElem?_set_ne (hj z hz).symm]
  exact r2.1 z hz
 .exact q σ2 H2 (hd G2 T2 σ2 H2 hW r2) (s1.lef.trans sm)
end
inductive LsK(K:Frag)(Hb H:Hp):List Addr->List (List PyData)->Prop where
 |nil:LsK K Hb H [] []
 |cons {p:Addr}{us:List V}{ds:List PyData}{ps:List Addr}{dss:List (List PyData)}:H p=some (.lst us)->DVs K Hb us ds->noLs ds=true->LsK K Hb H ps dss->LsK K Hb H (p::ps) (ds::dss)
variable{wss:List (List PyData)}
section
variable{L:List Addr}{k:Nat}
end
def Hz(K:Frag)(h:Addr)(ps:List Addr)(dss:List (List PyData))(H:Hp):Prop:=H h=some (.lst (ps.map V.ref))/\(h::ps).Nodup/\LsK K (lef (h::ps) H) H ps dss
section
variable{h:Addr}{ps:List Addr}{dss:List (List PyData)}
end
section
variable{L:List Addr}{k:Nat}
theorem Oz.apart(i:Oz K R lf df H)(dj:∀b∈L,b∉R.L)(nt:∀b∈L,∀xs,¬Rd H b (.tup xs))(hn:∀q∈df,noL q.2=true):Oz K R lf df (lef L H):=by
 obtain⟨fs,t⟩:=i
 have na:∀b∈R.L,b∉L:=λb hb z=>dj b z hb
 have nt2:∀b∈L,∀xs,¬Rd (lef R.L H) b (.tup xs):=λb hb xs r=>by
  refine nt b hb xs ?_
  rcases r with r|⟨q,r⟩
  .exact .inl (lef_same _ _ r)
  .exact .inr ⟨q,lef_same _ _ r⟩
 refine⟨fs,by rw[Ao (na _ List.mem_cons_self)];exact t.obj,by rw[Ao (na _ (List.mem_cons_of_mem _ List.mem_cons_self))];exact t.own1,t.few,t.nam,t.nda,t.apart,λq hq=>?_,λq hq=>?_,λq hq=>?_⟩
 .rw[Ao (na _ (List.mem_cons_of_mem _ (List.mem_cons_of_mem _ (List.mem_map_of_mem hq))))]
  exact t.own q hq
 .obtain⟨p,us,h1,h2,h3,h4,h5⟩:=t.lst q hq
  refine⟨p,us,h1,h2,by rw[Ao (na _ (List.mem_cons_of_mem _ (List.mem_cons_of_mem _ (List.mem_map_of_mem (f:=(·.2)) h1))))];exact h3,?_,h5⟩
  rw[Fp]
  exact DVs.lef nt2 h4 h5
 .obtain⟨v,h1,h2⟩:=t.dat q hq
  refine⟨v,h1,?_⟩
  rw[Fp]
  exact DV.lef nt2 h2 (hn q hq)
end
section
variable{L0:List Addr}{I0:Hp->Prop}{dm:DF}{N:NR}{l:Nat}
end
abbrev Zt:=List Addr×(Hp->Prop)
abbrev Dj(A B:List Addr):Prop:=∀b∈A,b∉B
structure Gd(it:Zt):Prop where
 ok:ZOk it.1 it.2
 ap:∀{H:Hp}{M:List Addr},it.2 H->Dj M it.1->(∀b∈M,∀xs,¬Rd H b (.tup xs))->it.2 (lef M H)
 fr:ZF it.1 it.2
abbrev Gds(its:List Zt):Prop:=∀it∈its,Gd it
def LZ(its:List Zt):List Addr:=(its.map (·.1)).flatten
def TZ(its:List Zt)(H:Hp):Prop:=(its.map (·.1)).Pairwise Dj/\∀it∈its,it.2 H
variable{its:List Zt}
theorem mem_LZ{b:Addr}:b∈LZ its↔∃it∈its,b∈it.1:=by
 unfold LZ
 rw[List.mem_flatten]
 constructor
 .rintro⟨l,hl,hb⟩
  obtain⟨it,h,rfl⟩:=mem_map.mp hl
  exact⟨it,h,hb⟩
 .rintro⟨it,h,hb⟩
  exact⟨it.1,mem_map_of_mem h,hb⟩
theorem KA(g:∀it∈its,ZOk it.1 it.2):ZOk (LZ its) (TZ its)where
 step:=λ⟨p,i⟩ s=>⟨p,λit h=>(g it h).step (i it h) s⟩
 notup:=λ⟨p,i⟩ b hb xs=>by
  obtain⟨it,h,hb⟩:=mem_LZ.mp hb
  exact(g it h).notup (i it h) b hb xs
 free:=λ⟨p,i⟩ hp hm=>by
  obtain⟨it,h,hb⟩:=mem_LZ.mp hm
  exact(g it h).free (i it h) hp hb
theorem Gds.ok(g:Gds its):ZOk (LZ its) (TZ its):=KA λit h=>(g it h).ok
theorem Gds.fr(g:Gds its):ZF (LZ its) (TZ its)where
 fo:=λH ⟨p,i⟩ b hb=>by
  obtain⟨it,h,hb⟩:=mem_LZ.mp hb
  exact((g it h).fr.fo H (i it h) b hb).wide λc hc=>mem_LZ.mpr ⟨it,h,hc⟩
 join:=λH H' t n s=>⟨t.1,λit h=>by
  have i:=t.2 it h
  have hO:∀b,b∈(LZ its).filter (λb=>decide (b∉it.1))↔b∈LZ its/\b∉it.1:=λb=>by rw[List.mem_filter,decide_eq_true_iff]
  have a1:=(g it h).ap (M:=(LZ its).filter λb=>decide (b∉it.1)) i (λb hb=>((hO b).mp hb).2) λb hb xs=>g.ok.notup t b ((hO b).mp hb).1 xs
  have a2:=(g it h).fr.join _ H' a1 (λb hb=>n b (mem_LZ.mpr ⟨it,h,hb⟩)) (by
   rw[<-Sw]
   refine(FY λb hb=>?_).trans s
   by_cases hi:b∈it.1
   .exact List.mem_append_left _ hi
   .exact List.mem_append_right _ ((hO b).mpr ⟨hb,hi⟩))
  refine(g it h).ok.step a2 λb o e=>?_
  by_cases hi:b∈it.1
  .rw[AO hi]at e
   rw[AO (mem_LZ.mpr ⟨it,h,hi⟩)]
   exact lef_same _ _ e
  .rw[CJ hi]at e
   have nl:b∉LZ its:=λz=>by rw[n b z]at e;cases e
   rw[CJ nl]
   exact e⟩
variable{B:List Zt}{it:Zt}
theorem JQ{A:List Zt}:(A++it::B).map (·.1)=A.map (·.1)++it.1::B.map (·.1):=by rw[map_append,map_cons]
theorem Ly{A B:List Addr}(h:Dj A B):Dj B A:=λb hb ha=>h b ha hb
theorem mem_mid{A:List Zt}{z:Zt}:z∈A++it::B↔z=it\/z∈A++B:=by
 simp only[mem_append,mem_cons]
 constructor
 .rintro(h|rfl|h)
  .exact .inr (.inl h)
  .exact .inl rfl
  .exact .inr (.inr h)
 .rintro(rfl|h|h)
  .exact .inr (.inl rfl)
  .exact .inl h
  .exact .inr (.inr h)
theorem TZ.mid{A:List Zt}:TZ (A++it::B) H↔(∀z∈A++B,Dj it.1 z.1)/\it.2 H/\TZ (A++B) H:=by
 unfold TZ
 rw[JQ,List.pairwise_middle (λ{x y} h=>Ly h),List.pairwise_cons,<-List.map_append]
 constructor
 .rintro⟨⟨h1,h2⟩,h3⟩
  exact⟨λz hz=>h1 _ (List.mem_map_of_mem hz),h3 _ (mem_mid.mpr (.inl rfl)),h2,λz hz=>h3 z (mem_mid.mpr (.inr hz))⟩
 .rintro⟨h1,h2,h3,h4⟩
  refine⟨⟨λl hl=>?_,h3⟩,λz hz=>?_⟩
  .obtain⟨z,hz,rfl⟩:=List.mem_map.mp hl
   exact h1 z hz
  .rcases mem_mid.mp hz with rfl|hz
   .exact h2
   .exact h4 z hz
theorem Ii{A:List Zt}{it':Zt}(g:Gds (A++it::B))(t:TZ (A++it::B) H)(s:Same (lef it.1 H) (lef it'.1 H'))(i':it'.2 H'):TZ (A++it'::B) H'/\Same (lef (LZ (A++it::B)) H) (lef (LZ (A++it'::B)) H'):=by
 obtain⟨dj,i,p,al⟩:=TZ.mid.mp t
 have gi:=g it (mem_mid.mpr (.inl rfl))
 have key:∀z∈A++B,z.2 (lef it'.1 H'):=λz hz=>by
  have gz:=g z (mem_mid.mpr (.inr hz))
  exact gz.ok.step (gz.ap (al z hz) (dj z hz) λb hb xs=>gi.ok.notup i b hb xs) s
 refine⟨TZ.mid.mpr ⟨λz hz b hb hbz=>(g z (mem_mid.mpr (.inr hz))).ok.free (key z hz) (A9 hb) hbz,i',p,λz hz=>(g z (mem_mid.mpr (.inr hz))).ok.step (key z hz) lef_same⟩,λb o e=>?_⟩
 have nb:b∉LZ (A++it::B):=λz=>by rw[A9 z]at e;cases e
 rw[Ao nb]at e
 have e2:=s b o (by rw[Ao λz=>nb (mem_LZ.mpr ⟨it,mem_mid.mpr (.inl rfl),z⟩)];exact e)
 have n2:b∉it'.1:=λz=>by rw[A9 z]at e2;cases e2
 rw[Ao n2]at e2
 rw[Ao]
 .exact e2
 .intro z
  obtain⟨y,hy,hb⟩:=mem_LZ.mp z
  rcases mem_mid.mp hy with rfl|hy
  .exact n2 hb
  .exact nb (mem_LZ.mpr ⟨y,mem_mid.mpr (.inr hy),hb⟩)
theorem Ic{A:List Zt}{it':Zt}(g:Gds (A++B))(t:TZ (A++B) H)(s:Same H (lef it'.1 H'))(i':it'.2 H'):TZ (A++it'::B) H'/\Same (lef (LZ (A++B)) H) (lef (LZ (A++it'::B)) H'):=by
 have key:∀z∈A++B,z.2 (lef it'.1 H'):=λz hz=>(g z hz).ok.step (t.2 z hz) s
 refine⟨TZ.mid.mpr ⟨λz hz b hb hbz=>(g z hz).ok.free (key z hz) (A9 hb) hbz,i',t.1,λz hz=>(g z hz).ok.step (key z hz) lef_same⟩,λb o e=>?_⟩
 have nb:b∉LZ (A++B):=λz=>by rw[A9 z]at e;cases e
 rw[Ao nb]at e
 have e2:=s b o e
 have n2:b∉it'.1:=λz=>by rw[A9 z]at e2;cases e2
 rw[Ao n2]at e2
 rw[Ao]
 .exact e2
 .intro z
  obtain⟨y,hy,hb⟩:=mem_LZ.mp z
  rcases mem_mid.mp hy with rfl|hy
  .exact n2 hb
  .exact nb (mem_LZ.mpr ⟨y,hy,hb⟩)
theorem MR{A:List Zt}(t:TZ (A++it::B) H):TZ (A++B) H/\Same (lef (LZ (A++it::B)) H) (lef (LZ (A++B)) H):=
 ⟨(TZ.mid.mp t).2.2,FY λb hb=>by obtain⟨z,hz,h⟩:=mem_LZ.mp hb;exact mem_LZ.mpr ⟨z,mem_mid.mpr (.inr hz),h⟩⟩
theorem Jt{A:List Zt}{it':Zt}(e:it.1=it'.1):LZ (A++it::B)=LZ (A++it'::B):=by
 unfold LZ
 rw[JQ,JQ,e]
section
variable{A:List Zt}{L:List Addr}{I':Hp->Prop}
theorem Ng(g:Gds (A++(L,I)::B))(ok':ZOk L I')(hrs:∀q∈rs1,q∈rs)(hn:noL d=true)(h:ZE X L I rs1 G e d I'):ZE X (LZ (A++(L,I)::B)) (TZ (A++(L,I)::B)) rs G e d (TZ (A++(L,I')::B)):=h.imp λσ H Q ⟨r,q⟩=>by
 have hm:∀b∈L,b∈LZ (A++(L,I)::B):=λb hb=>mem_LZ.mpr ⟨(L,I),mem_mid.mpr (.inl rfl),hb⟩
 refine⟨⟨λz hz=>r.1 z (hrs z hz),r.2.1.2 (L,I) (mem_mid.mpr (.inl rfl)),r.2.2.mono (FY hm)⟩,λv H' i' s dv=>?_⟩
 obtain⟨t',s'⟩:=Ii (it:=(L,I)) (it':=(L,I')) g r.2.1 s i'
 have eL:LZ (A++(L,I')::B)=LZ (A++(L,I)::B):=Jt rfl
 have nt:=(KA λz hz=>(mem_mid.mp hz).elim (λe=>by rw[e];exact ok') λh=>(g z (mem_mid.mpr (.inr h))).ok).notup t'
 rw[eL]at s' nt
 exact q v H' t' s' (DV.lef nt (dv.mono lef_same) hn)
theorem DS(g:Gds (A++(L,I)::B))(ok':ZOk L I')(hG:∀d,some d∈G'->noL d=true)(h:PS X st (zN X.K L I rs G G' I')):PS X st (zN X.K (LZ (A++(L,I)::B)) (TZ (A++(L,I)::B)) rs G G' (TZ (A++(L,I')::B))):=h.imp λD σ H ⟨r,q⟩=>by
 have hm:∀b∈L,b∈LZ (A++(L,I)::B):=λb hb=>mem_LZ.mpr ⟨(L,I),mem_mid.mpr (.inl rfl),hb⟩
 refine⟨⟨r.1,r.2.1.2 (L,I) (mem_mid.mpr (.inl rfl)),r.2.2.mono (FY hm)⟩,λσ' H' r' s=>?_⟩
 obtain⟨t',s'⟩:=Ii (it:=(L,I)) (it':=(L,I')) g r.2.1 s r'.2.1
 have eL:LZ (A++(L,I')::B)=LZ (A++(L,I)::B):=Jt rfl
 have nt:=(KA λz hz=>(mem_mid.mp hz).elim (λe=>by rw[e];exact ok') λh=>(g z (mem_mid.mpr (.inr h))).ok).notup t'
 rw[eL]at s' nt
 refine q σ' H' ⟨r'.1,t',r'.2.2.1,λi d e=>?_⟩ s'
 obtain⟨v,e1,dv⟩:=r'.2.2.2 i d e
 exact⟨v,e1,DV.lef nt (dv.mono lef_same) (hG d (mem_of_getElem? e))⟩
end
theorem V2(hn:∀q∈df,noL q.2=true):Gd (R.L,Oz K R lf df):=⟨oz_ok,λi dj nt=>i.apart dj nt hn,U9⟩
theorem FQ{N:NR}:Gd (N.L,Nz K N df):=⟨nz_ok,λi dj nt=>i.apart dj nt,U6⟩
theorem Oa:Gd ([p],Kz K p S):=⟨kz_ok,λ⟨us,h1,h2,h3⟩ dj nt=>⟨us,by rw[Ao λz=>dj p z mem_cons_self];exact h1,by
 rw[Fp]
 refine DVs.lef (λb hb xs r=>nt b hb xs ?_) h2 h3
 rcases r with r|⟨q,r⟩
 .exact .inl (lef_same _ _ r)
 .exact .inr ⟨q,lef_same _ _ r⟩,h3⟩,UO⟩
def Rf(p:Addr)(us:List V)(H:Hp):Prop:=H p=some (.lst us)
theorem Me:Gd ([p],Rf p us)where
 ok:=⟨λh s=>s _ _ h,λh b hb xs=>by rw[mem_singleton.mp hb];exact DC h (λ_ z=>by cases z) (λ_ _ z=>by cases z) xs,λh hp hm=>by rw[mem_singleton.mp hm,show _=_ from h]at hp;cases hp⟩
 ap:=λh dj nt=>by
  show lef _ _ p=_
  rw[Ao λz=>dj p z mem_cons_self]
  exact h
 fr:=⟨λH h b hb=>.inl (.inl ⟨us,by rw[mem_singleton.mp hb];exact h⟩),λH H' h n s=>by
  show Br _ _ _ p=_
  rw[AO mem_cons_self]
  exact h⟩
def zV(K:Frag)(L:List Addr)(I:Hp->Prop)(rs:List (Nat×Addr))(G:Gam)(Nx:List Addr->St->Hp->Prop)(Rt:List Addr->V->Hp->Prop):TS:=λD σ H=>RZ K L I rs G σ H/\(∀L' σ' H',Nx L' σ' H'->Same (lef L H) (lef L' H')->D.nx σ' H')/\∀L' v H',Rt L' v H'->Same (lef L H) (lef L' H')->D.rt v H'
abbrev noRt:List Addr->V->Hp->Prop:=λ_ _ _=>False
variable{Nx:List Addr->St->Hp->Prop}{Rt:List Addr->V->Hp->Prop}{β:Type}
section
variable{L:List Addr}{Nx1:List Addr->St->Hp->Prop}{k:Bool}{A B:List Stmt}
theorem Ba{Lo:β->List Addr}{Io:β->Hp->Prop}{ro:β->List (Nat×Addr)}{Go:β->Gam}(P:β->Prop)(h1:PS X st (zV X.K L I rs G (λL' σ' H'=>∃y,P y/\L'=Lo y/\RZ X.K (Lo y) (Io y) (ro y) (Go y) σ' H') noRt))(h2:∀y,P y->PSs X sts (zV X.K (Lo y) (Io y) (ro y) (Go y) Nx Rt)):PSs X (st::sts) (zV X.K L I rs G Nx Rt):=by
 have h2':PSs X sts (λD σ H=>∃y,P y/\zV X.K (Lo y) (Io y) (ro y) (Go y) Nx Rt D σ H):=λpins s σ H D I ⟨y,hy,q⟩=>h2 y hy pins s σ H D I q
 exact(Az h1 h2').imp λD σ H ⟨r,q1,q2⟩=>⟨r,λL' σ' H' ⟨y,hy,el,r'⟩ s=>⟨y,hy,r',λL2 σ2 H2 n s2=>q1 L2 σ2 H2 n ((el▸s).trans s2),λL2 v H2 n s2=>q2 L2 v H2 n ((el▸s).trans s2)⟩,λ_ _ _ f=>f.elim⟩
theorem B0(h1:PS X st (zN X.K L I rs G G1 I1))(h2:PSs X sts (zV X.K L I1 rs G1 Nx Rt)):PSs X (st::sts) (zV X.K L I rs G Nx Rt):=
 (Az h1 h2).imp λD σ H ⟨r,q1,q2⟩=>⟨r,λσ' H' r' s'=>⟨r',λL2 σ2 H2 n s2=>q1 L2 σ2 H2 n (s'.trans s2),λL2 v H2 n s2=>q2 L2 v H2 n (s'.trans s2)⟩⟩
theorem Gc(h:∀σ H,RZ X.K L I rs G σ H->Nx L σ H):PSs X [] (zV X.K L I rs G Nx Rt):=pss_nil.imp λD σ H ⟨r,q,_⟩=>q L σ H (h σ H r) (Same.refl _)
theorem Lz(h:ZE X L I rs G e d I1)(hB:∀v H',I1 H'->DV X.K (lef L H') v d->Rt L v H'):PSs X (.Return (some e) pos::sts) (zV X.K L I rs G Nx Rt):=
 (Az (EW h) (AA (sts:=sts))).imp λD σ H ⟨r,_,q⟩=>⟨r,λv H' i' s' dv=>q L v H' (hB v H' i' dv) s'⟩
theorem ST(h:ZTI X L I rs G c k I1)(h1:k=true->PSs X A (zV X.K L I1 rs G Nx Rt))(h2:k=false->PSs X B (zV X.K L I1 rs G Nx Rt)):PS X (.If c A B pos) (zV X.K L I rs G Nx Rt):=by
 cases k with
 |true=>exact(Cu h (h1 rfl) (AA (sts:=B))).imp λD σ H ⟨r,q1,q2⟩=>⟨r,λH' i' s'=>iteT ⟨r.next i' s',λL2 σ2 H2 n s2=>q1 L2 σ2 H2 n (s'.trans s2),λL2 v H2 n s2=>q2 L2 v H2 n (s'.trans s2)⟩⟩
 |false=>exact(Cu h (AA (sts:=A)) (h2 rfl)).imp λD σ H ⟨r,q1,q2⟩=>⟨r,λH' i' s'=>iteF ⟨r.next i' s',λL2 σ2 H2 n s2=>q1 L2 σ2 H2 n (s'.trans s2),λL2 v H2 n s2=>q2 L2 v H2 n (s'.trans s2)⟩⟩
theorem Gj(h:ZTI X L I rs G c k I1)(h1:k=true->PSs X A (zV X.K L I1 rs G Nx Rt))(h2:k=false->PSs X sts (zV X.K L I1 rs G Nx Rt))(hA:k=true->∀L' σ' H',¬Nx L' σ' H'):PSs X (.If c A [] pos::sts) (zV X.K L I rs G Nx Rt):=by
 cases k with
 |true=>exact(Az (Cu h (h1 rfl) (AA (sts:=[]))) (AA (sts:=sts))).imp λD σ H ⟨r,q1,q2⟩=>⟨r,λH' i' s'=>iteT ⟨r.next i' s',λL2 σ2 H2 n s2=>(hA rfl L2 σ2 H2 n).elim,λL2 v H2 n s2=>q2 L2 v H2 n (s'.trans s2)⟩⟩
 |false=>exact(Az (Cu h (AA (sts:=A)) pss_nil) (h2 rfl)).imp λD σ H ⟨r,q1,q2⟩=>⟨r,λH' i' s'=>iteF ⟨r.next i' s',λL2 σ2 H2 n s2=>q1 L2 σ2 H2 n (s'.trans s2),λL2 v H2 n s2=>q2 L2 v H2 n (s'.trans s2)⟩⟩
theorem Nr{Nx':List Addr->St->Hp->Prop}(hn:∀L' σ' H',Nx L' σ' H'->Nx' L' σ' H')(h:PS X st (zV X.K L I rs G Nx noRt)):PS X st (zV X.K L I rs G Nx' noRt):=h.imp λD σ H ⟨r,q1,q2⟩=>⟨r,λL2 σ2 H2 n s2=>q1 L2 σ2 H2 (hn _ _ _ n) s2,q2⟩
theorem Ug(v:Sees X.K L I rs G G')(h:SVs X G' sts (.ret d)):PSs X sts (zV X.K L I rs G Nx λ_ v H'=>DV X.K H' v d):=h.imp λD σ H ⟨r,_,q⟩=>⟨v σ H r,λu H' s' dv=>q [] u H' dv (by rw[show lef [] H'=H' from funext λb=>Ao (not_mem_nil)];exact lef_same.trans s')⟩
theorem Nt{it:Expr}{Rx:PyData->Prop}{Lo:β->List Addr}{Io:β->Hp->Prop}{Go:β->Gam}(W:List PyData->Nat->β->Prop)(y0:β)(fz:ZF (Lo y0) (Io y0))(hp:PassesOwn (model X.prog X.w) X.A X.env X.xe)(hcalm:X.calm=true)(hj:∀q∈rs,q.1≠j)(hg:PG X tg (BO j))(h:EVR X (Go y0) it Rx)(hR:∀d,Rx d->∃xs,d=.list xs)(h0:∀xs,Rx (.list xs)->W xs 0 y0)
  (hs:∀xs k x y,Rx (.list xs)->xs[k]?=some x->W xs k y->PSs X body (zV X.K (Lo y) (Io y) rs ((Go y).set j (some x)) (λL' σ' H'=>∃y',W xs (k+1) y'/\L'=Lo y'/\RZ X.K (Lo y') (Io y') rs (Go y') σ' H') noRt))
  (hd:∀xs y,Rx (.list xs)->W xs xs.length y->PSs X sts (zV X.K (Lo y) (Io y) rs (Go y) Nx Rt))
  (hfs:∀y,foldedSetIterable it X.env y=pure y:=by intro _;rfl):
  PSs X (.For tg it body [] pos::sts) (zV X.K (Lo y0) (Io y0) rs (Go y0) Nx Rt):=by
 have hbody:PSs X body (λD σ H=>∃(xs:List PyData) (k:Nat) (x:PyData) (y:β),Rx (.list xs)/\xs[k]?=some x/\W xs k y/\zV X.K (Lo y) (Io y) rs ((Go y).set j (some x)) (λL' σ' H'=>∃y',W xs (k+1) y'/\L'=Lo y'/\RZ X.K (Lo y') (Io y') rs (Go y') σ' H') noRt D σ H):=λpins s σ H D I ⟨xs,k,x,y,hx,hk,hW,q⟩=>hs xs k x y hx hk hW pins s σ H D I q
 have h2:PSs X sts (λD σ H=>∃(xs:List PyData) (y:β),Rx (.list xs)/\W xs xs.length y/\zV X.K (Lo y) (Io y) rs (Go y) Nx Rt D σ H):=λpins s σ H D I ⟨xs,y,hx,hW,q⟩=>hd xs y hx hW pins s σ H D I q
 refine(Az (Gy hp hcalm (G_ (OZ (Lo y0) h)) hg hbody hfs) h2).imp λD σ H ⟨r,q1,q2⟩=>⟨fz.fo _ r.2.1,r.2.2,λdd v H' rx s' dv n=>?_⟩
 obtain⟨xs,rfl⟩:=hR dd rx
 obtain⟨l,us,rfl,hl,dus⟩:=dv.of_lst
 have hul:us.length=xs.length:=dus.length
 have i1:=fz.join _ _ r.2.1 n s'
 have e1:lef (Lo y0) (Br (Lo y0) H H')=H':=Ch n
 have hl1:SqL X.K (lef (Lo y0) (Br (Lo y0) H H')) l us:=by rw[e1];exact hl
 have r1:RZ X.K (Lo y0) (Io y0) rs (Go y0) σ (Br (Lo y0) H H'):=⟨r.1,i1,by rw[e1];exact r.2.2.mono s'⟩
 have s1:Same (lef (Lo y0) H) (lef (Lo y0) (Br (Lo y0) H H')):=by rw[e1];exact s'
 refine⟨l,rfl,⟨us,lef_same.seq hl1⟩,?_⟩
 refine KP (K:=X.K) (a:=l) (xs:=us) (g:=BO j) (tb:=λD σ H=>∃(xs:List PyData) (k:Nat) (x:PyData) (y:β),Rx (.list xs)/\xs[k]?=some x/\W xs k y/\zV X.K (Lo y) (Io y) rs ((Go y).set j (some x)) (λL' σ' H'=>∃y',W xs (k+1) y'/\L'=Lo y'/\RZ X.K (Lo y') (Io y') rs (Go y') σ' H') noRt D σ H)
  (λk σ2 H2=>∃y,W xs k y/\RZ X.K (Lo y) (Io y) rs (Go y) σ2 H2/\Same (lef (Lo y0) (Br (Lo y0) H H')) (lef (Lo y) H2)) ⟨y0,h0 xs rx,r1,Same.refl _⟩ (λi σ2 H2 _ ⟨_,_,_,sm⟩=>lef_same.seq (sm.seq hl1)) (λk z σ2 H2 hz ⟨y,hW,r2,sm⟩=>?_) (λσ2 H2 ⟨y,hW,r2,sm⟩=>?_)
 .obtain⟨d0,ed,dz⟩:=dus.get' hz
  refine⟨xs,k,d0,y,rx,ed,hW,⟨λz hz=>?_,r2.2.1,r2.2.2.set ((by rw[e1];exact dz:DV X.K (lef (Lo y0) (Br (Lo y0) H H')) z d0).mono sm)⟩,λL3 σ3 H3 ⟨y3,hW3,e3,r3⟩ s3=>⟨y3,hW3,r3,sm.trans (e3▸s3)⟩,λ_ _ _ f=>f.elim⟩
  rw[getElem?_set_ne (hj z hz).symm]
  exact r2.1 z hz
 .rw[hul]at hW
  exact⟨xs,y,rx,hW,r2,λL3 σ3 H3 n3 s3=>q1 L3 σ3 H3 n3 ((s1.trans sm).trans s3),λL3 v H3 n3 s3=>q2 L3 v H3 n3 ((s1.trans sm).trans s3)⟩
end
variable{v:V}{z:Int}
section
variable{L:List Addr}
def tAt(K:Frag)(L:List Addr)(I:Hp->Prop)(rs:List (Nat×Addr))(G:Gam)(v:V):TE:=λσ H Q=>RZ K L I rs G σ H/\∀H',RZ K L I rs G σ H'->Same H H'->Q v H'
theorem DO(ok:ZOk L I)(hi:(i,p)∈rs)(hI:∀H,I H->H p=some (.lst us))(hv:PE X (.Name x pos2) (tVar i))(hb:EV X G b (.int z))(he:atI us z=some v)(hs:FF b:=by intro _ _;rfl):PE X (.Subscript (.Name x pos2) b pos) (tAt X.K L I rs G v):=
 (NG Nw hv hb hs).imp λσ H Q ⟨r,q⟩=>⟨.ref p,r.1 _ hi,r.sd,λy H1 s1 d1=>⟨p,us,z,v,rfl,d1.of_int,SqL.of (hI _ (ok.step r.2.1 s1)),he,q H1 (r.step ok s1) s1⟩⟩
end
inductive MK(K:Frag)(ls:List (Str×Addr))(Hb H:Hp):List (Key×V)->DF->Prop where
 |nil:MK K ls Hb H [] []
 |lst {f:Str}{p:Addr}{us:List V}{ds:List PyData}{r:List (Key×V)}{df:DF}:(f,p)∈ls->H p=some (.lst us)->DVs K Hb us ds->noLs ds=true->MK K ls Hb H r df->MK K ls Hb H ((.inr f,.ref p)::r) ((f,.list ds)::df)
 |any {f:Str}{v:V}{d:PyData}{r:List (Key×V)}{df:DF}:f∉ls.map (·.1)->DV K Hb v d->MK K ls Hb H r df->MK K ls Hb H ((.inr f,v)::r) ((f,d)::df)
variable{ls':List (Str×Addr)}
section
variable{a:Addr}
theorem MK.mono(s:Same Hb Hb')(s2:∀q∈ls,∀o,H q.2=some o->H' q.2=some o):∀{kvs:List (Key×V)}{df:DF},MK K ls Hb H kvs df->MK K ls Hb' H' kvs df
 |_,_,.nil=>.nil
 |_,_,.lst h1 h2 h3 h4 t=>.lst h1 (s2 _ h1 _ h2) (h3.mono s) h4 (t.mono s s2)
 |_,_,.any h1 h2 t=>.any h1 (h2.mono s) (t.mono s s2)
theorem MK.keys:∀{kvs:List (Key×V)}{df:DF},MK K ls Hb H kvs df->kvs.map (·.1)=df.map λq=>(.inr q.1:Key)
 |_,_,.nil=>rfl
 |_,_,.lst _ _ _ _ t=>by rw[List.map_cons,List.map_cons,t.keys]
 |_,_,.any _ _ t=>by rw[List.map_cons,List.map_cons,t.keys]
theorem MK.of:∀{kvs:List (Key×V)}{df:DF},DVk K Hb kvs (dfD df)->MK K [] Hb H kvs df
 |kvs,[],h=>by cases h;exact .nil
 |kvs,(g,d)::df,h=>by
  rw[show dfD ((g,d)::df)=(.str g,d)::dfD df from rfl]at h
  generalize ek:(PyData.str g)=ks at h
  cases h with
  |cons h1 t=>
   rename_i k0 x0 xs0
   have:k0=.inr g:=by cases k0 with
    |inl i=>cases ek
    |inr s=>cases ek;rfl
   subst this
   exact .any (λz=>nomatch z) h1 (MK.of t)
theorem MK.nk:∀{kvs:List (Key×V)}{df:DF},MK K ls Hb H kvs df->(∀q∈df,q.1∉ls.map (·.1)->noL q.2=true)->NK K ls Hb H kvs df
 |_,_,.nil,_=>.nil
 |_,_,.lst h1 h2 h3 h4 t,h=>.lst h1 h2 h3 h4 (t.nk λq hq=>h q (List.mem_cons_of_mem _ hq))
 |_,_,.any h1 h2 t,h=>.dat h2 (h _ List.mem_cons_self h1) (t.nk λq hq=>h q (List.mem_cons_of_mem _ hq))
theorem MK.putL(hf:f∉ls.map (·.1))(hp:H p=some (.lst us))(dv:DVs K Hb us ws)(hn:noLs ws=true):∀{kvs:List (Key×V)}{df:DF},MK K ls Hb H kvs df->MK K (ls++[(f,p)]) Hb H (kvs.map λkv=>if kv.1=.inr f then(kv.1,.ref p)else kv) (upD f (.list ws) df)
 |_,_,.nil=>.nil
 |_,_,.lst (f:=g) h1 h2 h3 h4 t=>by
  have ih:=t.putL hf hp dv hn
  unfold upD at ih ⊢
  rw[List.map_cons,List.map_cons]
  have e:g≠f:=λe=>hf (by rw[<-e];exact List.mem_map_of_mem (f:=(·.1)) h1)
  rw[if_neg (show ¬((Sum.inr g:Key)=.inr f)from λz=>e (Sum.inr.inj z)),if_neg (show ¬g=f from e)]
  exact .lst (List.mem_append_left _ h1) h2 h3 h4 ih
 |_,_,.any (f:=g) h1 h2 t=>by
  have ih:=t.putL hf hp dv hn
  unfold upD at ih ⊢
  rw[List.map_cons,List.map_cons]
  by_cases e:g=f
  .rw[if_pos (show((Sum.inr g:Key)=.inr f)from congrArg _ e),if_pos (show g=f from e)]
   subst e
   exact .lst (List.mem_append_right _ List.mem_cons_self) hp dv hn ih
  .rw[if_neg (show ¬((Sum.inr g:Key)=.inr f)from λz=>e (Sum.inr.inj z)),if_neg (show ¬g=f from e)]
   refine .any (λz=>?_) h2 ih
   rw[List.map_append,List.mem_append]at z
   rcases z with z|z
   .exact h1 z
   .exact e (List.mem_singleton.mp z)
end
theorem Qm{f:Str}{d:PyData}:∀{df:DF},(df.map (·.1)).Nodup->(f,d)∈df->upD f d df=df
 |[],_,h=>by cases h
 |(g,d0)::r,nd,h=>by
  rw[map_cons,nodup_cons]at nd
  have key:∀{l:DF},f∉l.map (·.1)->upD f d l=l:=by
   intro l hl
   unfold upD
   refine(map_congr_left λq hq=>?_).trans (List.map_id _)
   rw[if_neg λe=>hl (by rw[<-e];exact mem_map_of_mem (f:=(·.1)) hq)]
   rfl
  rcases mem_cons.mp h with e|h
  .cases e
   show(if f=f then(f,d)else(f,d))::upD f d r=_
   rw[if_pos rfl,key nd.1]
  .have ne:g≠f:=λe=>nd.1 (by show g∈_;rw[e];exact mem_map_of_mem (f:=(·.1)) h)
   show(if g=f then(g,d)else(g,d0))::upD f d r=_
   rw[if_neg ne,Qm nd.2 h]
structure MzS(K:Frag)(R:NR)(df:DF)(Hb H:Hp)(kvs:List (Key×V)):Prop where
 obj:H R.a=some (.dK kvs)
 few:df.length<=40
 nda:R.L.Nodup
 ndl:(R.ls.map (·.1)).Nodup
 ndk:(df.map (·.1)).Nodup
 sub:∀q∈R.ls,q.1∈df.map (·.1)
 own:∀q∈R.ls,∃us,H q.2=some (.lst us)
 nk:MK K R.ls Hb H kvs df
def Mz(K:Frag)(df:DF)(R:NR)(H:Hp):Prop:=∃kvs,MzS K R df (lef R.L H) H kvs
section
variable{R:NR}
theorem UJ:ZF R.L (Mz K df R)where
 fo:=λH ⟨kvs,t⟩ b hb=>by
  rcases mem_cons.mp hb with e|e
  .exact .inr ⟨kvs,by rw[e];exact t.obj⟩
  .obtain⟨q,hq,rfl⟩:=mem_map.mp e
   exact .inl (.inl (t.own q hq))
 join:=λH H' ⟨kvs,t⟩ n s=>by
  refine⟨kvs,?_⟩
  rw[Ch n]
  exact⟨by rw[AO mem_cons_self];exact t.obj,t.few,t.nda,t.ndl,t.ndk,t.sub,λq hq=>by rw[AO (mem_cons_of_mem _ (mem_map_of_mem hq))];exact t.own q hq,t.nk.mono s λq hq o e=>by rw[AO (mem_cons_of_mem _ (mem_map_of_mem hq))];exact e⟩
theorem Mz.nz(h:Mz K df R H)(hn:∀q∈df,q.1∉R.ls.map (·.1)->noL q.2=true):Nz K R df H:=let⟨kvs,t⟩:=h;⟨kvs,t.obj,t.few,t.nda,t.ndl,t.ndk,t.sub,t.own,t.nk.nk hn⟩
end
section
variable{R:NR}{p:Pos}
theorem Pi(hN:X.N.Nodup)(hi:X.N[i]?=some x)(hx:Loc X.env.scope x)(hG:G[i]?=some none)(ha:EV X G e (.dict (dfD df)))(he:excC (dfD df)=none)(nd:(df.map (·.1)).Nodup)(few:df.length<=40)(hg:Gl X "dict")(hm:X.mg "dict"=none)
  (hs:starEach [e] X.env=[(false,eval e X.env)]:=by rfl)
  (hsw:swapsWith (.Call (.Name "dict" p) [e] [] pos) (some (.Name x pos')) p4.line X.env=pure false:=by rfl)(hf:Zlo X x:=by first|exact .inl rfl|exact .inr rfl|assumption):
  PS X (.Assign [.Name x pos'] (.Call (.Name "dict" p) [e] [] pos) p4) (λD σ H=>SD X.K H σ G/\∀a σ' H',RZ X.K [a] (Mz X.K df ⟨a,[]⟩) [(i,a)] G σ' H'->Same H (lef [a] H')->D.nx σ' H'):=by
 have key:PE X (.Call (.Name "dict" p) [e] [] pos) (λσ H Q=>SD X.K H σ G/\∀a kvs H',H a=none->Same H H'->H' a=some (.dK kvs)->DVk X.K (lef [a] H') kvs (dfD df)->Q (.ref a) H'):=by
  intro pins s σ H Q I ⟨hσ,q⟩
  refine Call_ (Fm I hg hm L6 (PyProof.Rows.callWith_type1 (thn (Aa ha Ad (by unfold Zst;rw[hs];rfl) pos pins s σ H _ I ⟨hσ,λvs H' s' dv=>(⟨s',dv⟩:Same H H'/\DVs X.K H' vs [.dict (dfD df)])⟩) λus s1 ⟨vs,H1,I1,r1,sm,dv⟩=>?_) (by rw[hs];rfl) rfl))
  obtain⟨v1,rfl,d1⟩:=dv.one
  obtain⟨u1,rfl,ru⟩:=vals1 r1
  have hB:H1 s1.heap.objs.size=none:=I1.hok.fresh (le_refl _)
  obtain⟨o,kvs,rfl,hk,dk⟩:=d1.of_dct he
  obtain rfl:u1=Value.ref o:=ru
  obtain⟨z,hS,kv,rel,dd⟩:=KU I1.hok hk
  obtain⟨ob,es,ep,ho,hc,hd,_⟩:=id dd
  have ll:o<s1.heap.objs.size:=lt_size ho
  refine callType_codes (Q₁:=λobj s₁=>obj=.ref s1.heap.objs.size/\s₁={s1 with heap:=s1.heap.push {cls:=.type "dict",data:=.dict #[]}}) PySem.F.kt_called_dict (PySem.F.kt_typeCall_dict_1 _) PySem.F.entry_dict_init (kt_code_dict_new _ ⟨rfl,rfl⟩) ?_
  rintro obj s₁ ⟨rfl,rfl⟩
  have hnew:(s1.heap.push {cls:=.type "dict",data:=.dict #[]}).get? s1.heap.objs.size=some {cls:=.type "dict",data:=.dict #[]}:=get?_push_size _ rfl
  have ho':(s1.heap.push {cls:=.type "dict",data:=.dict #[]}).get? o=some ob:=get?_push_of_some _ ho
  have tn:({s1 with heap:=s1.heap.push {cls:=.type "dict",data:=.dict #[]}}:Shared).TypeIs (.ref s1.heap.objs.size) "dict":=⟨_,hnew,rfl⟩
  have to:({s1 with heap:=s1.heap.push {cls:=.type "dict",data:=.dict #[]}}:Shared).TypeIs (.ref o) "dict":=⟨_,ho',hc.1⟩
  have nd0:(s1.heap.push {cls:=.type "dict",data:=.dict #[]}).DictOf (Bc X.prog X.w) s1.heap.objs.size []:=Heap.DictOf.new s1.heap
  have dd':(s1.heap.push {cls:=.type "dict",data:=.dict #[]}).DictOf (Bc X.prog X.w) o kv:=by
   obtain⟨ob2,es2,ep2,g1,g2⟩:=dd
   exact⟨ob2,es2,ep2,get?_push_of_some _ g1,g2⟩
  refine⟨tn,PySem.F.args_dict_init_2 _ _,?_⟩
  unfold Builtin.«dict.__init__»
  refine wpAny_bind ?_
  unfold Builtin.Dict.selfAndRest
  refine wpAny_bind (wpAny_notOrdered_dict tn ?_)
  show wpAny _ _ (pure (s1.heap.objs.size,[Value.ref o])) _ _ _
  refine wpAny_pure ?_
  show wpAny _ _ (Builtin.Dict.updateFrom "dict.__init__" s1.heap.objs.size (.ref o) [] .none) _ _ _
  unfold Builtin.Dict.updateFrom
  refine wpAny_bind (wpAny_typeOf to ?_)
  rw[if_neg (by decide)]
  refine wpAny_bind ?_
  unfold Builtin.Dict.merge
  refine wpAny_bind ?_
  unfold Builtin.Dict.readDirectly
  refine wpAny_bind (wpAny_isInstance to isSubtype_dict_dict ?_)
  simp only[Bool.not_true,false_eq_true,if_false]
  refine wpAny_bind (wpAny_specialOf to PySem.F.slot_dict_iter.lookup (wpAny_pure ?_))
  simp only[beq_self_eq_true,if_true]
  refine wpAny_bind (wpAny_pure ?_)
  refine wpAny_mergeDict (ne_of_gt ll) hS nd0 dd' (λh' dn dold sb=>?_) (by rw[length_nil,Nat.zero_add,<-rel.length];exact z)
  show wpAny _ _ (Builtin.Dict.addKeywords s1.heap.objs.size []>>=_) _ _ _
  refine wpAny_bind (wpAny_pure (wpAny_pure ⟨rfl,?_⟩))
  have hkeys:kvs.map (·.1)=df.map λq=>(.inr q.1:Key):=(MK.of (H:=H1) dk).keys
  have ndK:(kvs.map (·.1)).Nodup:=by
   rw[hkeys,show(df.map λq=>(.inr q.1:Key))=(df.map (·.1)).map .inr by rw[map_map];rfl]
   exact List.Pairwise.map _ (λa b h e=>h (inr.inj e)) nd
  have ekv:merged [] kv=kv:=by
   have:kv.map (·.1)=kvs.map (·.1):=by first|exact rel.keys.symm|exact rel.keys
   rw[merged_append_of_fresh [] kv (by rw[nil_append,this];exact ndK)]
   rfl
  rw[ekv]at dn
  have hsys:(s1.heap.objs.size==sysModules)=false:=beq_eq_false_iff_ne.mpr (ne_of_gt I1.big)
  have kp:∀c u,s1.heap.get? c=some u->h'.get? c=some u:=λc u ec=>by
   rw[sb.2 c (ne_of_lt (lt_size ec))]
   exact get?_push_of_some _ ec
  have I3:=I1.laid (a:=s1.heap.objs.size) (o:=.dK kvs) (t':=s1.toks) kp (le_refl _) ⟨z,hsys,kv,rel,dn⟩
  refine⟨.ref s1.heap.objs.size,_,I3,rfl,q _ kvs _ (sm.free hB) (sm.trans (Same.new hB)) Al (dk.mono λc u ec=>?_)⟩
  rw[Ao (by simpa using Av ec hB),Aj (Av ec hB)]
  exact ec
 refine(BL hN hi hx key hsw hf).imp λD σ H ⟨hσ,q⟩=>⟨hσ,λa kvs H' fa s ea dk=>?_⟩
 have sL:Same H (lef [a] H'):=λc o ec=>by
  rw[Ao (by simpa using Av ec fa)]
  exact s _ _ ec
 refine q a _ H' ⟨λz hz=>?_,⟨kvs,ea,few,nodup_cons.mpr ⟨not_mem_nil,nodup_nil⟩,nodup_nil,nd,(λ_ h=>by cases h),(λ_ h=>by cases h),MK.of dk⟩,?_⟩ sL
 .have:=mem_singleton.mp hz
  subst this
  exact getElem?_set_self (by rw[hσ.1];exact(List.getElem?_eq_some_iff.mp hG).1)
 .refine⟨by rw[length_set];exact hσ.1,λl d' el=>?_⟩
  by_cases hjl:i=l
  .subst hjl;rw[hG]at el;cases el
  .rw[getElem?_set_ne hjl]
   exact(hσ.mono sL).2 l d' el
theorem Sn(hu:X.A.units+1<cLine)(hi:(i,R.a)∈rs)(hv:PE X (.Name x pos2) (tVar i))(h:EVF X G e ws)(hn:noLs ws=true)(hb:EV X G b (.str f))(hf:(f,.list ws)∈df)(hfl:f∉R.ls.map (·.1))
  (hs:swapsWith e (some (.Subscript (.Name x pos2) b pos')) pos.line X.env=pure false:=by rfl):PS X (.Assign [.Subscript (.Name x pos2) b pos'] e pos) (zV X.K R.L (Mz X.K df R) rs G (λL' σ' H'=>∃p,L'=NR.L ⟨R.a,R.ls++[(f,p)]⟩/\RZ X.K (NR.L ⟨R.a,R.ls++[(f,p)]⟩) (Mz X.K df ⟨R.a,R.ls++[(f,p)]⟩) rs G σ' H') noRt):=by
 refine(ML hu hv hb h hs).imp λD σ H ⟨r,q,_⟩=>⟨r.sd,λp us H1 hp s1 hl dv=>⟨.ref R.a,r.1 _ hi,r.sd.mono s1,λz H2 s2 d2=>?_⟩⟩
 have d2:=d2.of_str
 subst d2
 have s12:=s1.trans s2
 obtain⟨kvs,t⟩:=id r.2.1
 have ha2:H2 R.a=some (.dK kvs):=s12 _ _ t.obj
 have hl2:H2 p=some (.lst us):=s2 _ _ hl
 have hlk:kvs.length=df.length:=by have:=congrArg List.length t.nk.keys;rwa[length_map,length_map]at this
 have hlen:kvs.length<sizeLine:=by rw[hlk,sizeLine_eq];have:=t.few;omega
 have hpL:p∉R.L:=λz=>by
  rcases mem_cons.mp z with e|e
  .have:=t.obj;rw[<-e,hp]at this;cases this
  .obtain⟨y,hy,ey⟩:=mem_map.mp e
   obtain⟨us',hu'⟩:=t.own y hy
   rw[ey,hp]at hu';cases hu'
 refine⟨R.a,_,rfl,DPut.k (k:=.inr f) ha2 hlen,?_⟩
 have hany:(valV kvs (.inr f:Key)).isSome=true:=by
  rw[<-Cr,any_eq_true]
  have:(.inr f:Key)∈kvs.map (·.1):=by
   rw[t.nk.keys]
   exact mem_map.mpr ⟨_,hf,rfl⟩
  obtain⟨q0,h0,e0⟩:=mem_map.mp this
  exact⟨q0,h0,decide_eq_true e0⟩
 have ep:putK kvs (.inr f) (.ref p)=kvs.map λkv=>if kv.1=(.inr f:Key)then(kv.1,.ref p)else kv:=by
  unfold putK
  rw[Cr,if_pos hany]
 have npa:p≠R.a:=λz=>hpL (by rw[z];exact mem_cons_self)
 have nal:∀z∈R.ls++[(f,p)],z.2≠R.a:=λz hz=>by
  rcases mem_append.mp hz with hz|hz
  .exact λe=>(nodup_cons.mp t.nda).1 (e▸mem_map_of_mem hz)
  .rw[mem_singleton.mp hz];exact npa
 have eM:NR.L ⟨R.a,R.ls++[(f,p)]⟩=R.L++[p]:=by show R.a::(R.ls++[(f,p)]).map (·.2)=_;rw[map_append];rfl
 have sL:Same (lef R.L H) (lef (NR.L ⟨R.a,R.ls++[(f,p)]⟩) (upd H2 R.a (.dK (putK kvs (.inr f) (.ref p))))):=λc o e=>by
  have hc:c∉R.L:=λz=>by rw[A9 z]at e;cases e
  rw[Ao hc]at e
  have n1:c≠p:=λz=>by rw[z,hp]at e;cases e
  rw[Ao,Aj λz=>hc (by rw[z];exact mem_cons_self)]
  .exact s12 _ _ e
  .rw[eM]
   intro z
   rcases mem_append.mp z with z|z
   .exact hc z
   .exact n1 (mem_singleton.mp z)
 have own2:∀z∈R.ls++[(f,p)],∃us,(upd H2 R.a (.dK (putK kvs (.inr f) (.ref p)))) z.2=some (.lst us):=λz hz=>by
  rw[Aj (nal z hz)]
  rcases mem_append.mp hz with hz|hz
  .obtain⟨us',hu'⟩:=t.own z hz
   exact⟨us',s12 _ _ hu'⟩
  .rw[mem_singleton.mp hz];exact⟨us,hl2⟩
 have nt:∀c∈NR.L ⟨R.a,R.ls++[(f,p)]⟩,∀xs,¬Rd (upd H2 R.a (.dK (putK kvs (.inr f) (.ref p)))) c (.tup xs):=λc hc xs=>by
  rcases mem_cons.mp hc with e|e
  .exact DC (by rw[e];exact Al) (λ_ z=>by cases z) (λ_ _ z=>by cases z) xs
  .obtain⟨y,hy,ey⟩:=mem_map.mp e
   obtain⟨us',hu'⟩:=own2 y hy
   exact DC (by rw[<-ey];exact hu') (λ_ z=>by cases z) (λ_ _ z=>by cases z) xs
 have dws:DVs X.K (lef (NR.L ⟨R.a,R.ls++[(f,p)]⟩) (upd H2 R.a (.dK (putK kvs (.inr f) (.ref p))))) us ws:=by
  have ntR:∀c∈[R.a],∀xs,¬Rd H2 c (.tup xs):=λc hc xs=>by
   rw[mem_singleton.mp hc]
   exact DC ha2 (λ_ z=>by cases z) (λ_ _ z=>by cases z) xs
  refine DVs.lef nt ((DVs.lef ntR (dv.mono s2) hn).mono λc o e=>?_) hn
  have n1:c∉[R.a]:=λz=>by rw[A9 z]at e;cases e
  rw[Ao n1]at e
  rw[Aj (by simpa using n1)]
  exact e
 have m1:MK X.K R.ls (lef (NR.L ⟨R.a,R.ls++[(f,p)]⟩) (upd H2 R.a (.dK (putK kvs (.inr f) (.ref p))))) (upd H2 R.a (.dK (putK kvs (.inr f) (.ref p)))) kvs df:=t.nk.mono sL λq hq o e=>by
  rw[Aj (nal q (mem_append_left _ hq))]
  exact s12 _ _ e
 have m2:=m1.putL hfl (by rw[Aj npa];exact hl2) dws hn
 rw[<-ep,Qm t.ndk hf]at m2
 refine q _ σ _ ⟨p,rfl,r.1,⟨_,Al,t.few,?_,?_,t.ndk,λz hz=>?_,own2,m2⟩,r.2.2.mono sL⟩ sL
 .show(NR.L ⟨R.a,R.ls++[(f,p)]⟩).Nodup
  rw[eM]
  exact nodup_append.mpr ⟨t.nda,nodup_cons.mpr ⟨by simp,nodup_nil⟩,λa ha b hb z=>hpL (by rw[<-mem_singleton.mp hb,<-z];exact ha)⟩
 .show((R.ls++[(f,p)]).map (·.1)).Nodup
  rw[map_append]
  exact nodup_append.mpr ⟨t.ndl,nodup_cons.mpr ⟨by simp,nodup_nil⟩,λa ha b hb z=>hfl (by rw[<-show b=f from mem_singleton.mp hb,<-z];exact ha)⟩
 .rcases mem_append.mp hz with hz|hz
  .exact t.sub z hz
  .rw[mem_singleton.mp hz];exact mem_map_of_mem (f:=(·.1)) hf
end
theorem mem_mid2{A M:List Zt}{z:Zt}:z∈A++(M++B)↔z∈M\/z∈A++B:=by
 simp only[mem_append]
 constructor
 .rintro(h|h|h)
  .exact .inr (.inl h)
  .exact .inl h
  .exact .inr (.inr h)
 .rintro(h|h|h)
  .exact .inr (.inl h)
  .exact .inl h
  .exact .inr (.inr h)
theorem TZ.mid2{A M:List Zt}:TZ (A++(M++B)) H↔(∀y∈M,∀z∈A++B,Dj y.1 z.1)/\TZ M H/\TZ (A++B) H:=by
 unfold TZ
 simp only[List.map_append,List.pairwise_append,List.mem_append,List.mem_map]
 constructor
 .rintro⟨⟨pA,⟨pM,pB,mB⟩,aM⟩,al⟩
  refine⟨λy hy z hz=>?_,⟨pM,λz hz=>al z (.inr (.inl hz))⟩,⟨pA,pB,λa ha b hb=>aM a ha b (.inr hb)⟩,λz hz=>al z (hz.elim .inl λh=>.inr (.inr h))⟩
  rcases hz with hz|hz
  .exact Ly (aM _ ⟨z,hz,rfl⟩ _ (.inl ⟨y,hy,rfl⟩))
  .exact mB _ ⟨y,hy,rfl⟩ _ ⟨z,hz,rfl⟩
 .rintro⟨dj,⟨pM,aM⟩,⟨pA,pB,aB⟩,al⟩
  refine⟨⟨pA,⟨pM,pB,?_⟩,?_⟩,λz hz=>?_⟩
  .rintro _ ⟨y,hy,rfl⟩ _ ⟨z,hz,rfl⟩
   exact dj y hy z (.inr hz)
  .rintro _ ⟨a,ha,rfl⟩ b (⟨y,hy,rfl⟩|hb)
   .exact Ly (dj y hy a (.inl ha))
   .exact aB _ ⟨a,ha,rfl⟩ b hb
  .rcases hz with hz|hz|hz
   .exact al z (.inl hz)
   .exact aM z hz
   .exact al z (.inr hz)
theorem PX{A M M':List Zt}(g:Gds (A++(M++B)))(t:TZ (A++(M++B)) H)(s:Same (lef (LZ M) H) (lef (LZ M') H'))(t':TZ M' H'):TZ (A++(M'++B)) H'/\Same (lef (LZ (A++(M++B))) H) (lef (LZ (A++(M'++B))) H'):=by
 obtain⟨dj,tM,p,al⟩:=TZ.mid2.mp t
 have key:∀z∈A++B,z.2 (lef (LZ M') H'):=λz hz=>by
  have gz:=g z (mem_mid2.mpr (.inr hz))
  refine gz.ok.step (gz.ap (al z hz) (λb hb=>?_) λb hb xs=>?_) s
  .obtain⟨y,hy,h⟩:=mem_LZ.mp hb
   exact dj y hy z hz b h
  .obtain⟨y,hy,h⟩:=mem_LZ.mp hb
   exact(g y (mem_mid2.mpr (.inl hy))).ok.notup (tM.2 y hy) b h xs
 refine⟨TZ.mid2.mpr ⟨λy hy z hz b hb hbz=>(g z (mem_mid2.mpr (.inr hz))).ok.free (key z hz) (A9 (mem_LZ.mpr ⟨y,hy,hb⟩)) hbz,t',p,λz hz=>(g z (mem_mid2.mpr (.inr hz))).ok.step (key z hz) lef_same⟩,λb o e=>?_⟩
 have nb:b∉LZ (A++(M++B)):=λz=>by rw[A9 z]at e;cases e
 rw[Ao nb]at e
 have e2:=s b o (by rw[Ao λz=>nb (by obtain⟨y,hy,h⟩:=mem_LZ.mp z;exact mem_LZ.mpr ⟨y,mem_mid2.mpr (.inl hy),h⟩)];exact e)
 have n2:b∉LZ M':=λz=>by rw[A9 z]at e2;cases e2
 rw[Ao n2]at e2
 rw[Ao]
 .exact e2
 .intro z
  obtain⟨y,hy,hb⟩:=mem_LZ.mp z
  rcases mem_mid2.mp hy with hy|hy
  .exact n2 (mem_LZ.mpr ⟨y,hy,hb⟩)
  .exact nb (mem_LZ.mpr ⟨y,mem_mid2.mpr (.inr hy),hb⟩)
theorem TR:LZ [it]=it.1:=by show it.1++[]=_;exact append_nil _
theorem Tv{a b:Zt}:LZ [a,b]=a.1++b.1:=by show a.1++(b.1++[])=_;rw[append_nil]
theorem tz_one:TZ [it] H↔it.2 H:=⟨λt=>t.2 it mem_cons_self,λh=>⟨List.pairwise_singleton _ _,λz hz=>by rw[mem_singleton.mp hz];exact h⟩⟩
theorem tz_two{a b:Zt}:TZ [a,b] H↔Dj a.1 b.1/\a.2 H/\b.2 H:=by
 constructor
 .rintro⟨p,al⟩
  exact⟨(pairwise_cons.mp p).1 _ mem_cons_self,al a mem_cons_self,al b (mem_cons_of_mem _ mem_cons_self)⟩
 .rintro⟨dj,h1,h2⟩
  refine⟨pairwise_cons.mpr ⟨λz hz=>by rw[mem_singleton.mp hz];exact dj,List.pairwise_singleton _ _⟩,λz hz=>?_⟩
  rcases mem_cons.mp hz with rfl|hz
  .exact h1
  .rw[mem_singleton.mp hz];exact h2
theorem NP:lef [] H=H:=funext λb=>Ao not_mem_nil
theorem EC{x:Option PyData}(h:SD K H σ (G.set j x))(hG:G[j]?=some none):SD K H σ G:=⟨by have:=h.1;rwa[length_set]at this,λi d e=>by
 by_cases hj:j=i
 .subst hj;rw[hG]at e;cases e
 .exact h.2 i d (by rw[getElem?_set_ne hj];exact e)⟩
theorem MN(h:SD K H σ G)(hG:G[j]?=some none):SD K H (σ.set j (some v)) G:=⟨by rw[length_set];exact h.1,λi d e=>by
 by_cases hj:j=i
 .subst hj;rw[hG]at e;cases e
 .rw[getElem?_set_ne hj];exact h.2 i d e⟩
def tNeu{β:Type}(K:Frag)(L:List Addr)(I:Hp->Prop)(rs:List (Nat×Addr))(G:Gam)(P:β->Prop)(Lo:β->List Addr)(Io:β->Hp->Prop)(ad:β->Addr):TE:=λσ H Q=>RZ K L I rs G σ H/\∀y H',P y->Io y H'->Same H (lef (Lo y) H')->Q (.ref (ad y)) H'
variable{Lo:β->List Addr}{Io:β->Hp->Prop}
section
variable{A:List Zt}{L:List Addr}{P:β->Prop}{ad:β->Addr}{k:Nat}
theorem Iq(g:Gds its)(gy:∀y,Gd (Lo y,Io y))(hN:X.N.Nodup)(hj:X.N[j]?=some y)(hj0:j∉rs.map (·.1))(hy:Loc X.env.scope y)(hG:G[j]?=some none)(h:PE X e (tNeu X.K (LZ its) (TZ its) rs G P Lo Io ad))
  (hs0:starEach [e] X.env=(false,eval e X.env)::starEach [] X.env:=by rfl)
  (hs:swapsWith (.List [e] pos2) (some (.Name y p1)) p4.line X.env=pure false:=by rfl)
  (hfn:Zlo X y:=by first|exact .inl rfl|exact .inr rfl|assumption):
  PS X (.Assign [.Name y p1] (.List [e] pos2) p4) (zV X.K (LZ its) (TZ its) rs G (λL' σ' H'=>∃q:Addr×β,P q.2/\L'=LZ (([q.1],Rf q.1 [.ref (ad q.2)])::(its++[(Lo q.2,Io q.2)]))/\RZ X.K (LZ (([q.1],Rf q.1 [.ref (ad q.2)])::(its++[(Lo q.2,Io q.2)]))) (TZ (([q.1],Rf q.1 [.ref (ad q.2)])::(its++[(Lo q.2,Io q.2)]))) ((j,q.1)::rs) G σ' H') noRt):=by
 refine(BL hN hj hy (Ho (BS h pa_nil hs0)) hs hfn).imp λD σ H ⟨r,q,_⟩=>⟨r,λw H1 hw iw s1=>⟨by rw[sizeLine_eq];show 1<=16777216;decide,λpl hpl=>?_⟩⟩
 have t0:TZ (its++[]) H:=by rw[append_nil];exact r.2.1
 have g0:Gds (its++[]):=by rw[append_nil];exact g
 obtain⟨t1,s1'⟩:=Ic (it':=(Lo w,Io w)) g0 t0 s1 iw
 rw[append_nil]at s1'
 have g1:Gds (its++[(Lo w,Io w)]):=λz hz=>by
  rcases mem_append.mp hz with hz|hz
  .exact g z hz
  .rw[mem_singleton.mp hz];exact gy w
 have sn:Same H1 (lef [pl] (upd H1 pl (.lst [.ref (ad w)]))):=λc o ec=>by
  rw[Ao (by simpa using Av ec hpl),Aj (Av ec hpl)]
  exact ec
 obtain⟨t2,s2⟩:=Ic (A:=[]) (B:=its++[(Lo w,Io w)]) (it':=([pl],Rf pl [.ref (ad w)])) g1 t1 sn (show upd H1 pl (.lst [.ref (ad w)]) pl=_ from Al)
 have sT:=s1'.trans s2
 refine q _ _ _ ⟨(pl,w),hw,rfl,λz hz=>?_,t2,MN (r.2.2.mono sT) hG⟩ sT
 rcases mem_cons.mp hz with e|hz
 .subst e
  exact getElem?_set_self (by rw[r.2.2.1];exact(List.getElem?_eq_some_iff.mp hG).1)
 .rw[getElem?_set_ne λw=>hj0 (mem_map.mpr ⟨z,hz,w.symm⟩)]
  exact r.1 z hz
theorem IN(g:Gds (A++([p],Rf p us)::B))(gy:∀y,Gd (Lo y,Io y))(hi:(i,p)∈rs)(hv:PE X (.Name x pos2) (tVar i))(h:PE X e (tNeu X.K (LZ (A++([p],Rf p us)::B)) (TZ (A++([p],Rf p us)::B)) rs G P Lo Io ad))(hz:us.length<sizeLine)
  (hs0:starEach [e] X.env=(false,eval e X.env)::starEach [] X.env:=by rfl)
  (hb:attributeBase (.Name x pos2) "append" X.env (eval (.Name x pos2) X.env)=eval (.Name x pos2) X.env:=by rfl)
  (hfew:((backTo pos' (starEach [e] X.env)).all (λx=>!x.1)&&(backToKw pos' (keywordEach [] X.env)).all (λx=>x.1.isSome)
   &&decide ([e].length+([]:List Keyword).length+(if([]:List Keyword).isEmpty then 0 else 1)<30))=true:=by rfl)
  (hline:(apos.endLine==pos'.line)=true:=by rfl)(hpl:(backTo pos' (starEach [] X.env)).any (·.1)=false:=by rfl)
  (hsw:swapsWith (.Call (.Attribute (.Name x pos2) "append" apos) [e] [] pos') none pos.line X.env=pure false:=by rfl):
  PS X (.Expr (.Call (.Attribute (.Name x pos2) "append" apos) [e] [] pos') pos) (zV X.K (LZ (A++([p],Rf p us)::B)) (TZ (A++([p],Rf p us)::B)) rs G (λL' σ' H'=>∃w:β,P w/\L'=LZ (A++([p],Rf p (us++[.ref (ad w)]))::(B++[(Lo w,Io w)]))/\RZ X.K (LZ (A++([p],Rf p (us++[.ref (ad w)]))::(B++[(Lo w,Io w)]))) (TZ (A++([p],Rf p (us++[.ref (ad w)]))::(B++[(Lo w,Io w)]))) rs G σ' H') noRt):=by
 refine(BG (HC plainAttrs_list PySem.F.slot_list_append PySem.F.type_list_append DA hv (BS h pa_nil hs0) hb hfew hline hs0 hpl) hsw).imp λD σ H ⟨r,q,_⟩=>?_
 have hp0:H p=some (.lst us):=(TZ.mid.mp r.2.1).2.1
 refine⟨.ref p,r.1 _ hi,.inl ⟨rfl,us,SqL.of hp0⟩,r,λw H1 hw iw s1=>?_⟩
 have e1:(A++([p],Rf p us)::B)++[]=A++([p],Rf p us)::B:=append_nil _
 have e2:(A++([p],Rf p us)::B)++[(Lo w,Io w)]=A++([p],Rf p us)::(B++[(Lo w,Io w)]):=by rw[append_assoc];rfl
 obtain⟨t1,s1'⟩:=Ic (A:=A++([p],Rf p us)::B) (B:=[]) (it':=(Lo w,Io w)) (by rw[e1];exact g) (by rw[e1];exact r.2.1) s1 iw
 rw[e1,e2]at s1'
 rw[e2]at t1
 have g1:Gds (A++([p],Rf p us)::(B++[(Lo w,Io w)])):=λz hz=>by
  rw[<-e2]at hz
  rcases mem_append.mp hz with hz|hz
  .exact g z hz
  .rw[mem_singleton.mp hz];exact gy w
 have hp1:H1 p=some (.lst us):=(TZ.mid.mp t1).2.1
 have sn:Same (lef [p] H1) (lef [p] (upd H1 p (.lst (us++[.ref (ad w)])))):=by rw[Bq mem_cons_self];exact Same.refl _
 obtain⟨t2,s2⟩:=Ii (it':=([p],Rf p (us++[.ref (ad w)]))) g1 t1 sn (show upd H1 p _ p=_ from Al)
 have sT:=s1'.trans s2
 exact⟨p,us,.ref (ad w),rfl,rfl,hp1,hz,q _ σ _ ⟨w,hw,rfl,r.1,t2,r.2.2.mono sT⟩ sT⟩
theorem E8{A0:List Zt}(g:Gds (A0++([p],Rf p us)::(A++it::B)))(gy:∀y,Gd (Lo y,Io y))(hi:(i,p)∈rs)(hv:PE X (.Name x pos2) (tVar i))(h:PE X e (tNeu X.K (LZ (A0++([p],Rf p us)::(A++it::B))) (TZ (A0++([p],Rf p us)::(A++it::B))) rs G P Lo Io ad))(hb:EV X G b (.int z))(z0:0<=z)(z1:z<us.length)
  (ha:∀v,assign (.Subscript (.Name x pos2) b pos3) X.env v=(do
   let ov <-holding [v] (eval (.Name x pos2) X.env)
   let iv <-holding [v,ov] (eval b X.env)
   standAt pos3
   holding [v,ov,iv] (setItem ov iv v)
   release [v,ov,iv] []):=by intro _;rfl)
  (hs:swapsWithSole [.Subscript (.Name x pos2) b pos3] e pos.line X.env=pure false:=by rfl)(hw:swappedStores [.Subscript (.Name x pos2) b pos3] e X.env=pure none:=by rfl)
  (h1:(assignEach [.Subscript (.Name x pos2) b pos3] X.env).map (·.2)=[assign (.Subscript (.Name x pos2) b pos3) X.env]:=by rfl):
  PS X (.Assign [.Subscript (.Name x pos2) b pos3] e pos) (zV X.K (LZ (A0++([p],Rf p us)::(A++it::B))) (TZ (A0++([p],Rf p us)::(A++it::B))) rs G (λL' σ' H'=>∃w:β,P w/\L'=LZ (A0++([p],Rf p (us.set z.toNat (.ref (ad w))))::(A++(Lo w,Io w)::B))/\RZ X.K (LZ (A0++([p],Rf p (us.set z.toNat (.ref (ad w))))::(A++(Lo w,Io w)::B))) (TZ (A0++([p],Rf p (us.set z.toNat (.ref (ad w))))::(A++(Lo w,Io w)::B))) rs G σ' H') noRt):=by
 refine(C8 h (HJ hv hb set_list ha) hs hw h1).imp λD σ H ⟨r,q,_⟩=>⟨r,λw H1 hw iw s1=>?_⟩
 have e0:A0++([p],Rf p us)::(A++it::B)=(A0++([p],Rf p us)::A)++it::B:=by rw[append_assoc];rfl
 have e3:(A0++([p],Rf p us)::A)++(Lo w,Io w)::it::B=A0++([p],Rf p us)::(A++(Lo w,Io w)::it::B):=by rw[append_assoc];rfl
 obtain⟨t1,s1'⟩:=Ic (A:=A0++([p],Rf p us)::A) (B:=it::B) (it':=(Lo w,Io w)) (by rw[<-e0];exact g) (by rw[<-e0];exact r.2.1) s1 iw
 rw[<-e0,e3]at s1'
 rw[e3]at t1
 have g1:Gds (A0++([p],Rf p us)::(A++(Lo w,Io w)::it::B)):=λz hz=>by
  rw[<-e3]at hz
  rcases mem_mid.mp hz with rfl|hz
  .exact gy w
  .exact g z (by rw[e0];exact hz)
 have ok1:=g1.ok
 refine⟨.ref p,r.1 _ hi,(r.2.2.mono s1').mono lef_same,λu H2 s2 d2=>?_⟩
 have d2:=d2.of_int
 subst d2
 have t2:=ok1.step t1 s2
 have hp2:H2 p=some (.lst us):=(TZ.mid.mp t2).2.1
 refine⟨p,us,z,z.toNat,rfl,rfl,hp2,by unfold ixN;rw[if_pos z0,if_pos z1],?_⟩
 have sn:Same (lef [p] H2) (lef [p] (upd H2 p (.lst (us.set z.toNat (.ref (ad w)))))):=by rw[Bq mem_cons_self];exact Same.refl _
 obtain⟨t3,s3⟩:=Ii (it':=([p],Rf p (us.set z.toNat (.ref (ad w))))) g1 t2 sn (show upd H2 p _ p=_ from Al)
 have e4:A0++([p],Rf p (us.set z.toNat (.ref (ad w))))::(A++(Lo w,Io w)::it::B)=(A0++([p],Rf p (us.set z.toNat (.ref (ad w))))::(A++[(Lo w,Io w)]))++it::B:=by rw[append_assoc,cons_append,append_assoc];rfl
 have e5:(A0++([p],Rf p (us.set z.toNat (.ref (ad w))))::(A++[(Lo w,Io w)]))++B=A0++([p],Rf p (us.set z.toNat (.ref (ad w))))::(A++(Lo w,Io w)::B):=by rw[append_assoc,cons_append,append_assoc];rfl
 rw[e4]at t3 s3
 obtain⟨t4,s4⟩:=MR t3
 rw[e5]at t4 s4
 have sT:=((s1'.trans s2.lef).trans s3).trans s4
 exact q _ σ _ ⟨w,hw,rfl,r.1,t4,r.2.2.mono sT⟩ sT
theorem Mm{F:List PyData->LF->DF->Prop}(v:Sees X.K L I rs G G')(D0:OIFn X.prog X.w X.K X.mg X.base k C F)(hr:Room (k+1) X.A)(hg:Gl X x)(hm:X.mg x=some (.ref C))(ha:AV X G' (e::es) ds)(hF:F ds lf df)(hdb:(x==("__debug__":Str))=false:=by decide)(he:Zst X e es:=by rfl)(hpl:(backTo p3 (starEach es X.env)).any (·.1)=false:=by rfl):
  PE X (.Call (.Name x p2) (e::es) [] p3) (tNeu X.K L I rs G (λR:OR=>R.C=C) OR.L (λR=>Oz X.K R lf df) OR.a):=by
 obtain⟨f0,fd0,ps0,ok0,M,hb0⟩:=D0
 refine(NJ (E:=E0) (dvs:=[]) (ds:=[]) M ok0 hr hg hm hb0 .nil Cs ha hdb he hpl).imp λσ H Q ⟨r,q⟩=>⟨v σ H r,λvs H1 s1 dv=>?_⟩
 intro a dx ha hdx hne
 have sA:Same H1 (lef [a,dx] (upd (upd H1 dx (.own a)) a (.ins C dx []))):=λb o e=>by
  have n1:b≠a:=Av e ha
  have n2:b≠dx:=Av e hdx
  rw[Ao (by simp only[mem_cons,not_mem_nil,or_false,not_or];exact⟨n1,n2⟩),Aj n1,Aj n2]
  exact e
 show spOI X.K C F (V.ref a::(vs++[])) _ _ E0
 rw[append_nil]
 refine⟨a,dx,ds,lf,df,vs,rfl,Al,by rw[Aj hne];exact Al,hne,dv.mono sA,hF,λH2 R hC hRa hRd tb old fre=>⟨rfl,?_⟩⟩
 subst hC hRa hRd
 refine q R H2 rfl tb (s1.trans λb o e=>?_)
 have n1:b≠R.a:=Av e ha
 have n2:b≠R.dx:=Av e hdx
 have e1:upd (upd H1 R.dx (.own R.a)) R.a (.ins R.C R.dx []) b=some o:=by rw[Aj n1,Aj n2];exact e
 rw[Ao]
 .exact old b o n1 e1
 .intro z
  rcases mem_cons.mp z with z|z
  .exact n1 z
  rcases mem_cons.mp z with z|z
  .exact n2 z
  .obtain⟨y,hy,ey⟩:=mem_map.mp z
   have:=fre y hy
   rw[ey,e1]at this
   cases this
theorem EQ{F:List PyData->LF->DF->Prop}{pl:Sem Bool}(v:Sees X.K L I rs G G')(cl:Cls X.K C)(D0:NMFn X.prog X.w X.K X.mg X.base k C m F)(hr:Room k X.A)(ho:EV X G' o (objD C fls))(hF:F [objD C fls] lf df)(hm1:m∉Bk:=by decide)
  (ht:eval (.Call (.Attribute o m apos) [] [] pos) X.env=(do
   let ov <-eval o X.env
   standAt apos.atName
   let(f,first) <-holding [ov] (getMethod ov m pl)
   callWith pos f first (backTo pos (starEach [] X.env)) (backToKw pos (keywordEach [] X.env))):=by rfl):
  PE X (.Call (.Attribute o m apos) [] [] pos) (tNeu X.K L I rs G (λR:OR=>R.C=C) OR.L (λR=>Oz X.K R lf df) OR.a):=by
 obtain⟨f,fd,ps,ok,hm,hb⟩:=D0
 refine(FS (E:=E0) (dvs:=[]) (ds:=[]) ho cl hm ok hr hb .nil Cs ht).imp λσ H Q ⟨r,q⟩=>⟨v σ H r,λu H1 s1 d1=>?_⟩
 obtain⟨a,dx,fs,rfl,hob,hf,hn⟩:=d1.of_objN
 refine⟨a,dx,fs,rfl,hob,hn m hm1,?_⟩
 show spM X.K C F (V.ref a::([]++[])) H1 Q E0
 exact⟨_,lf,df,.cons d1 .nil,hF,λR' H' hC' t' s'=>q R' H' hC' t' (s1.trans s')⟩
theorem DZ{F:List PyData->DF->Prop}(v:Sees X.K L I rs G G')(D:NnFn X.prog X.w X.K X.mg X.base k f F)(hr:Room k X.A)(hg:Gl X f)(ha:AV X G' (e::es) ds)(hF:F ds df)(hdb:(f==("__debug__":Str))=false:=by decide)
  (he:Zst X e es:=by rfl)(hpl:(backTo pos (starEach es X.env)).any (·.1)=false:=by rfl):PE X (.Call (.Name f p1) (e::es) [] pos) (tNeu X.K L I rs G (λ_:NR=>True) NR.L (λR=>Nz X.K R df) NR.a):=
 (QY D hr hg ha hF hdb he hpl).imp λσ H Q ⟨r,q⟩=>⟨v σ H r,λR H' n s=>q R H' True.intro n s⟩
theorem TC{Lo':β->List Addr}{Io':β->Hp->Prop}{ro:β->List (Nat×Addr)}{Go:β->Gam}(P':β->Prop)(h1:PS X st (zV X.K (LZ []) (TZ []) [] G (λL' σ' H'=>∃y,P' y/\L'=Lo' y/\RZ X.K (Lo' y) (Io' y) (ro y) (Go y) σ' H') noRt))(h2:∀y,P' y->PSs X sts (zV X.K (Lo' y) (Io' y) (ro y) (Go y) (λ_ _ _=>False) λ_ v H'=>DV X.K H' v d)):SVs X G (st::sts) (.ret d):=
 (Ba P' h1 h2).imp λD σ H ⟨hσ,q⟩=>⟨⟨(λ_ h=>by cases h),⟨List.Pairwise.nil,(λ_ h=>by cases h)⟩,by rw[show LZ []=[]from rfl,NP];exact hσ⟩,λ_ _ _ f=>f.elim,λL' v H' dv s=>q v H' (by rw[show LZ []=[]from rfl,NP]at s;exact s.trans lef_same) dv⟩
theorem U2(h1:PS X st (λD σ H=>SD X.K H σ G/\∀a σ' H',RZ X.K [a] (Mz X.K df ⟨a,[]⟩) [(i,a)] G σ' H'->Same H (lef [a] H')->D.nx σ' H'))(h2:∀a,PSs X sts (zV X.K [a] (Mz X.K df ⟨a,[]⟩) [(i,a)] G (λ_ _ _=>False) λL' v H'=>∃R:NR,v=.ref R.a/\L'=R.L/\Nz X.K R df H')):PSs X (st::sts) (tNn X.K G df):=by
 have h2':PSs X sts (λD σ H=>∃a,zV X.K [a] (Mz X.K df ⟨a,[]⟩) [(i,a)] G (λ_ _ _=>False) (λL' v H'=>∃R:NR,v=.ref R.a/\L'=R.L/\Nz X.K R df H') D σ H):=λpins s σ H D I ⟨a,q⟩=>h2 a pins s σ H D I q
 exact(Az h1 h2').imp λD σ H ⟨h,q⟩=>⟨h,λa σ' H' r s=>⟨a,r,λ_ _ _ f=>f.elim,λL' v H2 ⟨R,ev,eL,nz⟩ s2=>by subst ev eL;exact q R H2 nz (s.trans s2)⟩⟩
theorem Rw{R:NR}(hi:(i,R.a)∈rs)(hv:PE X (.Name x pos2) (tVar i))(hn:∀q∈df,q.1∉R.ls.map (·.1)->noL q.2=true):PSs X (.Return (some (.Name x pos2)) pos::sts) (zV X.K R.L (Mz X.K df R) rs G Nx λL' v H'=>∃R:NR,v=.ref R.a/\L'=R.L/\Nz X.K R df H'):=
 (J4 hv).imp λD σ H ⟨r,_,q⟩=>⟨.ref R.a,r.1 _ hi,q R.L _ H ⟨R,rfl,rfl,r.2.1.nz hn⟩ (Same.refl _)⟩
end
def gnL(G:Gam):Bool:=G.all λo=>match o with|none=>true|some d=>noL d
theorem Ib(h:gnL G=true):∀d,some d∈G->noL d=true:=λd hd=>(all_eq_true.mp h) (some d) hd
section
variable{L:List Addr}{l:Nat}{a b c:Addr}
theorem HZ(hi:(i,a)∈rs)(hj:(j,b)∈rs)(h1:∀H,I H->DV K H (.ref a) d1)(h2:∀H,I H->DV K H (.ref b) d2):Sees K L I rs G ((G.set i (some d1)).set j (some d2)):=λσ H r=>by
 have e1:=r.sd.set (i:=i) (h1 H r.2.1)
 rw[BN (r.1 _ hi)]at e1
 have e2:=e1.set (i:=j) (h2 H r.2.1)
 rw[BN (r.1 _ hj)]at e2
 exact e2
theorem E1(hi:(i,a)∈rs)(h1:∀H,I H->DV K H (.ref a) d1):Sees K L I rs G (G.set i (some d1)):=λσ H r=>by
 have e1:=r.sd.set (i:=i) (h1 H r.2.1)
 rw[BN (r.1 _ hi)]at e1
 exact e1
end
theorem Oz.dv(i:Oz K R lf df H):DV K H (.ref R.a) (objD R.C (fldD lf df)):=let⟨_,t⟩:=i;t.dv
theorem Nz.dv{N:NR}(i:Nz K N df H):DV K H (.ref N.a) (.dict (dfD df)):=let⟨_,t⟩:=i;t.dv
theorem Kz.dv(i:Kz K p S H):DV K H (.ref p) (.list S):=let⟨us,h1,h2,_⟩:=i;.lst (SqL.of h1) (h2.mono lef_same)
section
variable{A:List Zt}{hq q0:Addr}{k l:Nat}{N:NR}
theorem Ou{F:LF->DF->List PyData->PyData->LF->DF->Prop}{pl:Sem Bool}(g:Gds (A++(R.L,Oz X.K R lf df)::B))(ok':∀lf df,ZOk R.L (Oz X.K R lf df))(cl:Cls X.K R.C)(D:OFn X.prog X.w X.K X.mg X.base k R.C m F)(hr:Room k X.A)(ho:PE X o (tAt X.K (LZ (A++(R.L,Oz X.K R lf df)::B)) (TZ (A++(R.L,Oz X.K R lf df)::B)) rs G (.ref R.a)))(hF:F lf df [] d lf' df')(hn:noL d=true)(h1:m∉Bk:=by decide)
  (ht:eval (.Call (.Attribute o m apos) [] [] pos) X.env=(do
   let ov <-eval o X.env
   standAt apos.atName
   let(f,first) <-holding [ov] (getMethod ov m pl)
   callWith pos f first (backTo pos (starEach [] X.env)) (backToKw pos (keywordEach [] X.env))):=by rfl):
  ZE X (LZ (A++(R.L,Oz X.K R lf df)::B)) (TZ (A++(R.L,Oz X.K R lf df)::B)) rs G (.Call (.Attribute o m apos) [] [] pos) d (TZ (A++(R.L,Oz X.K R lf' df')::B)):=by
 obtain⟨f,fd,ps,ok,hm,hb⟩:=D
 refine(FS (E:=E0) (dvs:=[]) (ds:=[]) ho cl hm ok hr hb .nil Cs ht).imp λσ H Q ⟨r,q⟩=>⟨r,λH1 r1 s1=>?_⟩
 have i1:=(TZ.mid.mp r1.2.1).2.1
 obtain⟨fs,t⟩:=id i1
 refine⟨R.a,R.dx,fs,rfl,t.obj,t.nam m h1,?_⟩
 show spO X.K R.C F (V.ref R.a::([]++[])) H1 Q E0
 refine⟨R,lf,df,[],d,lf',df',[],rfl,rfl,i1,.nil,hF,λv H2 i2 s2 dv=>?_⟩
 obtain⟨t',s'⟩:=Ii (it:=(R.L,Oz X.K R lf df)) (it':=(R.L,Oz X.K R lf' df')) g r1.2.1 s2 i2
 have eL:LZ (A++(R.L,Oz X.K R lf' df')::B)=LZ (A++(R.L,Oz X.K R lf df)::B):=Jt rfl
 have nt:=(KA λz hz=>(mem_mid.mp hz).elim (λe=>by rw[e];exact ok' _ _) λh=>(g z (mem_mid.mpr (.inr h))).ok).notup t'
 rw[eL]at s' nt
 exact q v H2 t' (s1.lef.trans s') (DV.lef nt (dv.mono lef_same) hn)
theorem Ov{F:DF->List PyData->PyData->DF->Prop}(g:Gds (A++(N.L,Nz X.K N df)::B))(D:NzFn X.prog X.w X.K X.mg X.base k f F)(hr:Room k X.A)(hg:Gl X f)(ho:PE X o (tAt X.K (LZ (A++(N.L,Nz X.K N df)::B)) (TZ (A++(N.L,Nz X.K N df)::B)) rs G (.ref N.a)))(hF:F df [] d df')(hn:noL d=true)(hdb:(f==("__debug__":Str))=false:=by decide)
  (he:starEach [o] X.env=(false,eval o X.env)::starEach [] X.env:=by rfl)(hpl:(backTo pos (starEach [] X.env)).any (·.1)=false:=by rfl):
  ZE X (LZ (A++(N.L,Nz X.K N df)::B)) (TZ (A++(N.L,Nz X.K N df)::B)) rs G (.Call (.Name f p1) [o] [] pos) d (TZ (A++(N.L,Nz X.K N df')::B)):=by
 obtain⟨fa,fd,ps,ok,hm,hk,hb⟩:=D
 refine(Ed (E:=E0) (dvs:=[]) (ds:=[]) ok hr hg hm hk hb .nil Cs (BS ho pa_nil he) hdb he hpl).imp λσ H Q ⟨r,q⟩=>⟨r,λH1 r1 s1=>?_⟩
 have i1:=(TZ.mid.mp r1.2.1).2.1
 show spN X.K F ([.ref N.a]++[]) H1 Q E0
 refine⟨N,df,[],d,df',[],rfl,i1,.nil,hF,λv H2 i2 s2 dv=>?_⟩
 obtain⟨t',s'⟩:=Ii (it:=(N.L,Nz X.K N df)) (it':=(N.L,Nz X.K N df')) g r1.2.1 s2 i2
 have eL:LZ (A++(N.L,Nz X.K N df')::B)=LZ (A++(N.L,Nz X.K N df)::B):=Jt rfl
 have nt:=(KA λz hz=>(mem_mid.mp hz).elim (λe=>by rw[e];exact nz_ok) λh=>(g z (mem_mid.mpr (.inr h))).ok).notup t'
 rw[eL]at s' nt
 exact q v H2 t' (s1.lef.trans s') (DV.lef nt (dv.mono lef_same) hn)
theorem No(g:Gds its)(hN:X.N.Nodup)(hj:X.N[j]?=some y)(hj0:j∉rs.map (·.1))(hy:Loc X.env.scope y)(hG:G[j]?=some none)(v:Sees X.K (LZ its) (TZ its) rs G G')(h:EVF X G' e ws)(hn:noLs ws=true)
  (hs:swapsWith e (some (.Name y p1)) p4.line X.env=pure false:=by rfl)
  (hfn:Zlo X y:=by first|exact .inl rfl|exact .inr rfl|assumption):
  PS X (.Assign [.Name y p1] e p4) (zV X.K (LZ its) (TZ its) rs G (λL' σ' H'=>∃q:Addr,True/\L'=LZ (its++[([q],Kz X.K q ws)])/\RZ X.K (LZ (its++[([q],Kz X.K q ws)])) (TZ (its++[([q],Kz X.K q ws)])) ((j,q)::rs) G σ' H') noRt):=by
 refine(BL hN hj hy h hs hfn).imp λD σ H ⟨r,q,_⟩=>⟨v σ H r,λp us H1 hp s1 hl dv=>?_⟩
 have sL:Same H (lef [p] H1):=λb o eb=>by
  rw[Ao (by simpa using Av eb hp)]
  exact s1 _ _ eb
 have kz:Kz X.K p ws H1:=⟨us,hl,DVs.lef (λb hb xs=>by rw[mem_singleton.mp hb];exact DC hl (λ_ z=>by cases z) (λ_ _ z=>by cases z) xs) dv hn,hn⟩
 obtain⟨t1,s1'⟩:=Ic (A:=its) (B:=[]) (it':=([p],Kz X.K p ws)) (by rw[append_nil];exact g) (by rw[append_nil];exact r.2.1) sL kz
 rw[append_nil]at s1'
 refine q _ _ _ ⟨p,True.intro,rfl,λz hz=>?_,t1,MN (r.2.2.mono s1') hG⟩ s1'
 rcases mem_cons.mp hz with e|hz
 .subst e
  exact getElem?_set_self (by rw[r.2.2.1];exact(List.getElem?_eq_some_iff.mp hG).1)
 .rw[getElem?_set_ne λw=>hj0 (mem_map.mpr ⟨z,hz,w.symm⟩)]
  exact r.1 z hz
theorem Sm{F:LF->DF->List PyData->LF->DF->Prop}{pl:Sem Bool}(g:Gds ((R.L,Oz X.K R lf df)::B))(hB:([hq],Kz X.K hq ws)∈B)(cl:Cls X.K R.C)(D0:YFn X.prog X.w X.K X.mg X.base k R.C m F)(hr:Room k X.A)(hi:(i,R.a)∈rs)(hl:(l,hq)∈rs)(hv:PE X (.Name x pos2) (tVar i))(hw:PE X (.Name y p2) (tVar l))(v:Sees X.K (LZ ((R.L,Oz X.K R lf df)::B)) (TZ ((R.L,Oz X.K R lf df)::B)) rs G G')(ha:AV X G' es ds)(hn:noLs ds=true)(hF:F lf df (.list ws::ds) lf' df')(h1:m∉Bk:=by decide)
  (hst:starEach (.Name y p2::es) X.env=(false,eval (.Name y p2) X.env)::starEach es X.env:=by rfl)(hpl:(backTo pos (starEach es X.env)).any (·.1)=false:=by rfl)
  (ht:eval (.Call (.Attribute (.Name x pos2) m apos) (.Name y p2::es) [] pos) X.env=(do
   let ov <-eval (.Name x pos2) X.env
   standAt apos.atName
   let(f,first) <-holding [ov] (getMethod ov m pl)
   callWith pos f first (backTo pos (starEach (.Name y p2::es) X.env)) (backToKw pos (keywordEach [] X.env))):=by rfl)
  (hs:swapsWith (.Call (.Attribute (.Name x pos2) m apos) (.Name y p2::es) [] pos) none pos3.line X.env=pure false:=by rfl):
  PS X (.Expr (.Call (.Attribute (.Name x pos2) m apos) (.Name y p2::es) [] pos) pos3) (zV X.K (LZ ((R.L,Oz X.K R lf df)::B)) (TZ ((R.L,Oz X.K R lf df)::B)) rs G (λL' σ' H'=>∃R':OR,(R'.C=R.C/\R'.a=R.a)/\L'=LZ ((R'.L,Oz X.K R' lf' df')::B)/\RZ X.K (LZ ((R'.L,Oz X.K R' lf' df')::B)) (TZ ((R'.L,Oz X.K R' lf' df')::B)) rs G σ' H') noRt):=by
 obtain⟨f,fd,ps,ok,hm,hb⟩:=D0
 refine(BG (Hh (E:=E0) (dvs:=[]) (ds:=[]) hv cl hm ok hr hb .nil Cs (BS hw ha hst) hst hpl ht) hs).imp λD σ H ⟨r,q,_⟩=>?_
 have i0:=(TZ.mid (A:=[]).mp r.2.1).2.1
 obtain⟨fs,t⟩:=id i0
 refine⟨.ref R.a,r.1 _ hi,R.a,R.dx,fs,rfl,t.obj,t.nam m h1,.ref hq,r.1 _ hl,v σ H r,λvs H1 s1 dvs=>?_⟩
 have r1:=r.step g.ok s1
 obtain⟨dj,i1,_,al⟩:=TZ.mid (A:=[]).mp r1.2.1
 have kz:Kz X.K hq ws H1:=al _ hB
 have hqR:hq∉R.L:=λz=>dj _ hB hq z mem_cons_self
 have dh:DV X.K (lef R.L H1) (.ref hq) (.list ws):=by
  obtain⟨us,h1,h2,h3⟩:=kz
  exact .lst (SqL.of (by rw[Ao hqR];exact h1)) (DVs.lef (oz_ok.notup i1) (h2.mono lef_same) h3)
 show spY X.K R.C F (V.ref R.a::(.ref hq::(vs++[]))) H1 _ E0
 rw[append_nil]
 refine⟨R,lf,df,.list ws::ds,lf',df',.ref hq::vs,rfl,rfl,i1,.cons dh (DVs.lef (oz_ok.notup i1) dvs hn),hF,λR' H2 hI t2 s2=>?_⟩
 obtain⟨t',s'⟩:=Ii (A:=[]) (it:=(R.L,Oz X.K R lf df)) (it':=(R'.L,Oz X.K R' lf' df')) g r1.2.1 s2 t2
 have sT:=s1.lef.trans s'
 exact q _ σ H2 ⟨R',⟨hI.1,hI.2 _ rfl⟩,rfl,r.1,t',r.2.2.mono sT⟩ sT
end
theorem R7{L:List Addr}(h:ZE X L I rs G e d I1)(hB:∀v H',I1 H'->DV X.K (lef L H') v d->∃L',Rt L' v H'/\Same (lef L H') (lef L' H')):PSs X (.Return (some e) pos::sts) (zV X.K L I rs G Nx Rt):=
 (Az (EW h) (AA (sts:=sts))).imp λD σ H ⟨r,_,q⟩=>⟨r,λv H' i' s' dv=>let⟨L',b,s2⟩:=hB v H' i' dv;q L' v H' b (s'.trans s2)⟩
theorem NK.putL(hq:(f,q)∈ls')(hl:∀z∈ls,z.1≠f->z∈ls')(e:H q=some (.lst us))(dv:DVs K Hb us ws)(hn:noLs ws=true):∀{kvs:List (Key×V)}{df:DF},NK K ls Hb H kvs df->NK K ls' Hb H (kvs.map λkv=>if kv.1=.inr f then(kv.1,.ref q)else kv) (upD f (.list ws) df)
 |_,_,.nil=>.nil
 |_,_,.lst (f:=g) h1 h2 h3 h4 t=>by
  have ih:=t.putL hq hl e dv hn
  unfold upD at ih ⊢
  rw[List.map_cons,List.map_cons]
  by_cases eg:g=f
  .rw[if_pos (show((Sum.inr g:Key)=.inr f)from congrArg _ eg),if_pos (show g=f from eg)]
   subst eg
   exact .lst hq e dv hn ih
  .rw[if_neg (show ¬((Sum.inr g:Key)=.inr f)from λz=>eg (Sum.inr.inj z)),if_neg (show ¬g=f from eg)]
   exact .lst (hl _ h1 eg) h2 h3 h4 ih
 |_,_,.dat (f:=g) h1 h2 t=>by
  have ih:=t.putL hq hl e dv hn
  unfold upD at ih ⊢
  rw[List.map_cons,List.map_cons]
  by_cases eg:g=f
  .rw[if_pos (show((Sum.inr g:Key)=.inr f)from congrArg _ eg),if_pos (show g=f from eg)]
   subst eg
   exact .lst hq e dv hn ih
  .rw[if_neg (show ¬((Sum.inr g:Key)=.inr f)from λz=>eg (Sum.inr.inj z)),if_neg (show ¬g=f from eg)]
   exact .dat h1 h2 ih
theorem JL{y:V}(h:(.inr f:Key)∈kvs.map (·.1)):putK kvs (.inr f) y=kvs.map λkv=>if kv.1=(.inr f:Key)then(kv.1,y)else kv:=by
 have hany:(valV kvs (.inr f:Key)).isSome=true:=by
  rw[<-Cr,any_eq_true]
  obtain⟨q0,h0,e0⟩:=mem_map.mp h
  exact⟨q0,h0,decide_eq_true e0⟩
 unfold putK
 rw[Cr,if_pos hany]
theorem NK.inK(t:NK K ls Hb H kvs df)(hf:f∈df.map (·.1)):(.inr f:Key)∈kvs.map (·.1):=by
 rw[t.keys]
 obtain⟨q0,h0,e0⟩:=List.mem_map.mp hf
 exact List.mem_map.mpr ⟨q0,h0,by rw[e0]⟩
def setL(f:Str)(q:Addr)(ls:List (Str×Addr)):List (Str×Addr):=ls.map λz=>if z.1=f then(f,q)else z
theorem Gk(f:Str)(q:Addr)(ls:List (Str×Addr)):(setL f q ls).map (·.1)=ls.map (·.1):=by
 unfold setL
 rw[map_map]
 refine map_congr_left λz _=>?_
 show(if z.1=f then(f,q)else z).1=z.1
 split
 .rename_i h;exact h.symm
 .rfl
theorem FP{z:Str×Addr}(h:z∈setL f q ls):z=(f,q)\/(z.1≠f/\z∈ls):=by
 obtain⟨y,hy,e⟩:=mem_map.mp h
 split at e
 .exact .inl e.symm
 .rename_i hne
  subst e
  exact .inr ⟨hne,hy⟩
variable{e2:Expr}
section
variable{A:List Zt}{e3 k2 k3:Expr}{f1 f2 f3:Str}{N:NR}
theorem Sr(g:Gds (A++([(N.L,Nz X.K N df),([q],Kz X.K q ws)]++B)))(hi:(i,N.a)∈rs)(hj:(j,q)∈rs)(hv:PE X (.Name x pos2) (tVar i))(hw:PE X (.Name y p1) (tVar j))(hk1:EV X G k1 (.str f1))(hk2:EV X G k2 (.str f2))(h2:EV X G e2 d2)(n2:noL d2=true)(hk3:EV X G k3 (.str f3))(h3:EV X G e3 d3)(n3:noL d3=true){ds0:List PyData}(hf1':(f1,list ds0)∈df)(hf2:f2∈df.map (·.1))(hf3:f3∈df.map (·.1))(nd:[f1,f2,f3].Nodup)
  (m1:M1 X (.Name x pos2) "update" apos (.Dict [some k1,some k2,some k3] [.Name y p1,e2,e3] pos) cpos)
  (hsw:swapsWith (.Call (.Attribute (.Name x pos2) "update" apos) [.Dict [some k1,some k2,some k3] [.Name y p1,e2,e3] pos] [] cpos) none pos'.line X.env=pure false:=by rfl):
  PS X (.Expr (.Call (.Attribute (.Name x pos2) "update" apos) [.Dict [some k1,some k2,some k3] [.Name y p1,e2,e3] pos] [] cpos) pos') (zV X.K (LZ (A++([(N.L,Nz X.K N df),([q],Kz X.K q ws)]++B))) (TZ (A++([(N.L,Nz X.K N df),([q],Kz X.K q ws)]++B))) rs G (λL' σ' H'=>∃N':NR,(N'.a=N.a/\N'.ls.map (·.1)=N.ls.map (·.1))/\L'=LZ (A++([(N'.L,Nz X.K N' (upD f3 d3 (upD f2 d2 (upD f1 (.list ws) df))))]++B))/\RZ X.K (LZ (A++([(N'.L,Nz X.K N' (upD f3 d3 (upD f2 d2 (upD f1 (.list ws) df))))]++B))) (TZ (A++([(N'.L,Nz X.K N' (upD f3 d3 (upD f2 d2 (upD f1 (.list ws) df))))]++B))) rs G σ' H') noRt):=by
 refine(BG (M0 hv (Hj (DL hk1 hw (DL hk2 h2 (DL hk3 h3 Jw))) rfl rfl (by intro h;cases h) (by show 3<=15;decide)) m1) hsw).imp λD σ H ⟨r,qq,_⟩=>?_
 have tM:=(TZ.mid2.mp r.2.1).2.1
 obtain⟨djq,nz,kz⟩:=tz_two.mp tM
 obtain⟨kvs0,t⟩:=id nz
 have hf1:f1∈N.ls.map (·.1):=by
  obtain⟨p0,_,hp0,_⟩:=t.nk.get t.ndk hf1'
  exact mem_map_of_mem (f:=(·.1)) hp0
 refine⟨.ref N.a,r.1 _ hi,N.a,rfl,.inl ⟨kvs0,.inl t.obj⟩,λp hpn=>?_⟩
 have s0:Same H (upd H p (.dK [])):=Same.new hpn
 refine⟨r.sd.mono s0,λx1 Ha sa da=>⟨.ref q,r.1 _ hj,⟨(r.sd.mono s0).mono sa,λx2 Hb sb db=>⟨((r.sd.mono s0).mono sa).mono sb,λy2 Hc sc dc=>⟨(((r.sd.mono s0).mono sa).mono sb).mono sc,λx3 Hd sd' dd=>⟨((((r.sd.mono s0).mono sa).mono sb).mono sc).mono sd',λy3 He se de=>?_⟩⟩⟩⟩⟩⟩
 have da:=da.of_str
 have db:=db.of_str
 have dd:=dd.of_str
 subst da db dd
 have s1:Same (upd H p (.dK [])) He:=(((sa.trans sb).trans sc).trans sd').trans se
 have sH:Same H He:=s0.trans s1
 have dy2:DV X.K He y2 d2:=dc.mono (sd'.trans se)
 obtain⟨kvs,ekv⟩:∃kvs:List (Key×V),kvs=[(.inr f1,.ref q),(.inr f2,y2),(.inr f3,y3)]:=⟨_,rfl⟩
 refine⟨s1 _ _ Al,kvs,by rw[ekv];rfl,by rw[ekv];show 3<=15;decide,?_⟩
 have nk:(kvs.map (·.1)).Nodup:=by
  rw[ekv]
  exact List.Pairwise.map (inr:Str->Key) (λa b h e=>h (inr.inj e)) nd
 rw[Cl (kvs:=[]) (by rw[nil_append];exact nk),nil_append]
 have npa:N.a≠p:=λz=>by have:=t.obj;rw[z,hpn]at this;cases this
 refine⟨p,kvs0,kvs,rfl,npa,by rw[Aj npa];exact sH _ _ t.obj,Al,by rw[t.nk.length,ekv,sizeLine_eq];have:=t.few;show df.length+3<=_;omega,?_⟩
 obtain⟨us,hq0,duq,nq⟩:=id kz
 have npq:q≠p:=λz=>by rw[z,hpn]at hq0;cases hq0
 have nqa:q≠N.a:=λz=>djq N.a mem_cons_self (by rw[<-z];exact mem_cons_self)
 have npl:∀z∈N.ls,z.2≠p:=λz hz e=>by
  obtain⟨us',hu'⟩:=t.own z hz
  rw[e,hpn]at hu';cases hu'
 have nal:∀z∈N.ls,z.2≠N.a:=λz hz e=>(nodup_cons.mp t.nda).1 (e▸mem_map_of_mem (f:=(·.2)) hz)
 have nql:∀z∈N.ls,z.2≠q:=λz hz e=>djq z.2 (mem_cons_of_mem _ (mem_map_of_mem (f:=(·.2)) hz)) (by rw[e];exact mem_cons_self)
 generalize eH:upd (upd He p (.dK kvs)) N.a (.dK (BK kvs0 kvs))=H'
 have up:∀c,c≠p->c≠N.a->H' c=He c:=λc h1 h2=>by rw[<-eH,Aj h2,Aj h1]
 have ls'm:∀z∈setL f1 q N.ls,z.2≠p/\z.2≠N.a/\(z.2=q\/z∈N.ls):=λz hz=>by
  rcases FP hz with rfl|⟨_,hz⟩
  .exact⟨npq,nqa,.inl rfl⟩
  .exact⟨npl z hz,nal z hz,.inr hz⟩
 have own':∀z∈setL f1 q N.ls,∃us,H' z.2=some (.lst us):=λz hz=>by
  obtain⟨h1,h2,h3⟩:=ls'm z hz
  rw[up _ h1 h2]
  rcases FP hz with rfl|⟨_,hz⟩
  .exact⟨us,sH _ _ hq0⟩
  .obtain⟨us',hu'⟩:=t.own z hz
   exact⟨us',sH _ _ hu'⟩
 have inL:∀c∈NR.L ⟨N.a,setL f1 q N.ls⟩,c=N.a\/c=q\/c∈N.L:=λc hc=>by
  rcases mem_cons.mp hc with e|e
  .exact .inl e
  .obtain⟨z,hz,ez⟩:=mem_map.mp e
   rcases(ls'm z hz).2.2 with h|h
   .exact .inr (.inl (by rw[<-ez];exact h))
   .exact .inr (.inr (by rw[<-ez];exact mem_cons_of_mem _ (mem_map_of_mem (f:=(·.2)) h)))
 have ntH:∀c,c=N.a\/c=q\/c∈N.L->∀xs,¬Rd He c (.tup xs):=λc hc xs=>by
  rcases hc with rfl|rfl|hc
  .exact DC (sH _ _ t.obj) (λ_ z=>by cases z) (λ_ _ z=>by cases z) xs
  .exact DC (sH _ _ hq0) (λ_ z=>by cases z) (λ_ _ z=>by cases z) xs
  .exact nz_ok.notup (nz_ok.step nz sH) c hc xs
 have ntp:∀c∈p::N.a::q::N.L,∀xs,¬Rd He c (.tup xs):=λc hc xs=>by
  rcases mem_cons.mp hc with e|hc
  .rw[e];exact DC (s1 _ _ Al) (λ_ z=>by cases z) (λ_ _ z=>by cases z) xs
  .rcases mem_cons.mp hc with e|hc
   .exact ntH c (.inl e) xs
   .rcases mem_cons.mp hc with e|hc
    .exact ntH c (.inr (.inl e)) xs
    .exact ntH c (.inr (.inr hc)) xs
 have sB:Same (lef (p::N.a::q::N.L) He) (lef (NR.L ⟨N.a,setL f1 q N.ls⟩) H'):=λc o e=>by
  have hc:c∉p::N.a::q::N.L:=λz=>by rw[A9 z]at e;cases e
  rw[Ao hc]at e
  simp only[mem_cons,not_or]at hc
  rw[Ao,up c hc.1 hc.2.1]
  .exact e
  .intro z
   rcases inL c z with h|h|h
   .exact hc.2.1 h
   .exact hc.2.2.1 h
   .rcases mem_cons.mp h with h|h
    .exact hc.2.1 h
    .exact hc.2.2.2.2 h
 have nk0:NK X.K N.ls (lef (NR.L ⟨N.a,setL f1 q N.ls⟩) H') H' kvs0 df:=by
  have a1:NK X.K N.ls He He kvs0 df:=t.nk.mono (lef_same.trans sH) sH
  have a2:=a1.lef ntp
  have a3:=(a2.mono sB (Same.refl _)).updN (a:=p) (o:=.dK kvs) λz hz=>npl z hz
  have a4:=a3.updN (a:=N.a) (o:=.dK (BK kvs0 kvs)) λz hz=>nal z hz
  rw[eH]at a4
  exact a4
 have dq:DVs X.K (lef (NR.L ⟨N.a,setL f1 q N.ls⟩) H') us ws:=(DVs.lef ntp (duq.mono (lef_same.trans sH)) nq).mono sB
 have d2':DV X.K (lef (NR.L ⟨N.a,setL f1 q N.ls⟩) H') y2 d2:=(DV.lef ntp dy2 n2).mono sB
 have d3':DV X.K (lef (NR.L ⟨N.a,setL f1 q N.ls⟩) H') y3 d3:=(DV.lef ntp de n3).mono sB
 have hqm:(f1,q)∈setL f1 q N.ls:=by
  obtain⟨z,hz,ez⟩:=mem_map.mp hf1
  exact mem_map.mpr ⟨z,hz,if_pos ez⟩
 have nk1:=nk0.putL (ls':=setL f1 q N.ls) hqm (λz hz hne=>mem_map.mpr ⟨z,hz,if_neg hne⟩) (by rw[up q npq nqa];exact sH _ _ hq0) dq nq
 have nk2:=(nk1.put (f:=f2) d2' n2).put (f:=f3) d3' n3
 have em:BK kvs0 kvs=((kvs0.map λkv=>if kv.1=(.inr f1:Key)then(kv.1,.ref q)else kv).map λkv=>if kv.1=(.inr f2:Key)then(kv.1,y2)else kv).map λkv=>if kv.1=(.inr f3:Key)then(kv.1,y3)else kv:=by
  have m0:BK kvs0 kvs=putK (putK (putK kvs0 (.inr f1) (.ref q)) (.inr f2) y2) (.inr f3) y3:=by rw[ekv];rfl
  have hd1:f1∈df.map (·.1):=by
   obtain⟨z,hz,ez⟩:=mem_map.mp hf1
   rw[<-ez]
   exact t.sub z hz
  rw[m0,JL (nk0.inK hd1),JL (nk1.inK (by rw[Be];exact hf2)),JL ((nk1.put (f:=f2) d2' n2).inK (by rw[Be,Be];exact hf3))]
 rw[<-em]at nk2
 have nz':Nz X.K ⟨N.a,setL f1 q N.ls⟩ (upD f3 d3 (upD f2 d2 (upD f1 (.list ws) df))) H':=by
  refine⟨_,by rw[<-eH];exact Al,?_,?_,?_,by rw[Be,Be,Be];exact t.ndk,λz hz=>?_,own',nk2⟩
  .show(map _ (map _ (map _ df))).length<=40
   rw[length_map,length_map,length_map]
   exact t.few
  .show(N.a::(setL f1 q N.ls).map (·.2)).Nodup
   rw[nodup_cons]
   refine⟨λz=>?_,?_⟩
   .obtain⟨w,hw,ew⟩:=mem_map.mp z
    exact(ls'm w hw).2.1 ew
   .have hnl:=(nodup_cons.mp t.nda).2
    have hkl:=t.ndl
    have:∀(l:List (Str×Addr)),(l.map (·.2)).Nodup->(l.map (·.1)).Nodup->(∀z∈l,z.2≠q)->((setL f1 q l).map (·.2)).Nodup:=by
     intro l
     induction l with
     |nil=>intro _ _ _;exact nodup_nil
     |cons a l ih=>
      intro h1 h2 h3
      rw[map_cons,nodup_cons]at h1 h2
      have ih':=ih h1.2 h2.2 λz hz=>h3 z (mem_cons_of_mem _ hz)
      show((if a.1=f1 then(f1,q)else a).2::(setL f1 q l).map (·.2)).Nodup
      rw[nodup_cons]
      refine⟨λz=>?_,ih'⟩
      obtain⟨w,hw,ew⟩:=mem_map.mp z
      by_cases ha:a.1=f1
      .rw[if_pos ha]at ew
       rcases FP hw with rfl|⟨_,hw⟩
       .obtain⟨w',hw',ew'⟩:=mem_map.mp hw
        split at ew'
        .rename_i h
         exact h2.1 (by rw[ha,<-h];exact mem_map_of_mem (f:=(·.1)) hw')
        .exact h3 w' (mem_cons_of_mem _ hw') (by rw[ew'])
       .exact h3 w (mem_cons_of_mem _ hw) ew
      .rw[if_neg ha]at ew
       rcases FP hw with rfl|⟨_,hw⟩
       .exact h3 a mem_cons_self ew.symm
       .exact h1.1 (by rw[<-ew];exact mem_map_of_mem (f:=(·.2)) hw)
    exact this N.ls hnl hkl nql
  .show((setL f1 q N.ls).map (·.1)).Nodup
   rw[Gk];exact t.ndl
  .rw[Be,Be,Be]
   have:z.1∈(setL f1 q N.ls).map (·.1):=mem_map_of_mem (f:=(·.1)) hz
   rw[Gk]at this
   obtain⟨w,hw,ew⟩:=mem_map.mp this
   rw[<-ew]
   exact t.sub w hw
 have sM:Same (lef (LZ [(N.L,Nz X.K N df),([q],Kz X.K q ws)]) H) (lef (LZ [(NR.L ⟨N.a,setL f1 q N.ls⟩,Nz X.K ⟨N.a,setL f1 q N.ls⟩ (upD f3 d3 (upD f2 d2 (upD f1 (.list ws) df))))]) H'):=λc o e=>by
  rw[Tv]at e
  rw[TR]
  have hc:c∉N.L++[q]:=λz=>by rw[A9 z]at e;cases e
  rw[Ao hc]at e
  rw[mem_append,not_or]at hc
  have c1:c≠p:=Av e hpn
  have c2:c≠N.a:=λz=>hc.1 (by rw[z];exact mem_cons_self)
  rw[Ao,up c c1 c2]
  .exact sH _ _ e
  .intro z
   rcases inL c z with h|h|h
   .exact c2 h
   .exact hc.2 (by rw[h];exact mem_cons_self)
   .exact hc.1 h
 obtain⟨t',s'⟩:=PX (M':=[(NR.L ⟨N.a,setL f1 q N.ls⟩,Nz X.K ⟨N.a,setL f1 q N.ls⟩ (upD f3 d3 (upD f2 d2 (upD f1 (.list ws) df))))]) g r.2.1 sM (tz_one.mpr nz')
 exact qq _ σ H' ⟨⟨N.a,setL f1 q N.ls⟩,⟨rfl,Gk _ _ _⟩,rfl,r.1,t',r.2.2.mono s'⟩ s'
end
end L2
namespace My
open PySem L2
local macro_rules|`(tactic|walk_at"b1")=>`(tactic|exact Fun.binds (by assumption) λ_ _ _ _ _ _ us hl=>match us,hl with|[_],_=>rfl)
local macro_rules|`(tactic|walk_at"b2")=>`(tactic|exact Fun.binds (by assumption) λ_ _ _ _ _ _ us hl=>match us,hl with|[_,_],_=>rfl)
local macro_rules|`(tactic|walk_at"b3")=>`(tactic|exact Fun.binds (by assumption) λ_ _ _ _ _ _ us hl=>match us,hl with|[_,_,_],_=>rfl)
local macro_rules| `(tactic|walk_at"s")=>`(tactic|exact⟨rfl,rfl,rfl,by decide+kernel,rfl,by decide+kernel,by decide+kernel⟩)
local macro_rules| `(tactic|walk_at"dn")=>`(tactic|first|decide|omega)
local macro_rules| `(tactic|walk_at"od")=>`(tactic|first
 |exact AH|exact Hu|exact Ql|exact Vr|exact Ef|exact FN|exact Vg
 |exact A1 (by walk_at"dn")|exact B8 ⟨by walk_at"dn",by walk_at"dn"⟩
 |exact Dw (by first|exact inl ⟨by walk_at"dn",by walk_at"dn"⟩|exact Or.inr ⟨by walk_at"dn",by walk_at"dn"⟩)
 |exact Ul ⟨by decide,by decide,by decide⟩
 |exact C6 (by walk_at"sz")|exact NE (by simp) (by walk_at"sz")
 |exact FV (.inl rfl) (by rfl) (by rfl) (by rfl)|exact FV (.inr rfl) (by rfl) (by rfl) (by rfl)
 |exact FK (.inl rfl) (by rfl) (by rfl) (by rfl)|exact FK (.inr rfl) (by rfl) (by rfl) (by rfl)
 |exact Bs (by walk_at"un") (by walk_at"cl") (by walk_at"cl") (by walk_at"dp") (by rfl)
 |exact Eo (by walk_at"un") (by walk_at"cl") (by walk_at"cl") (by walk_at"dp") (by rfl))
local macro_rules| `(tactic|walk_at"sz")=>`(tactic|first|decide|(rw[sizeLine_eq];decide)|(rw[sizeLine_eq];simp;done)|(rw[sizeLine_eq];simp;omega)|(rw[sizeLine_eq];omega))
local macro_rules| `(tactic|walk_at"bf")=>`(tactic|(intro h;first|rfl|cases h))
local macro_rules| `(tactic|walk_at"rm")=>`(tactic|exact Room.mono (by assumption) (by decide))
local macro_rules| `(tactic|walk_at"un")=>`(tactic|exact Room.units (by assumption))
local macro_rules| `(tactic|walk_at"cl")=>`(tactic|first|rfl|decide+kernel|(simp[canLay0,canLayAll0];done))
local macro_rules| `(tactic|walk_at"dp")=>`(tactic|first|(simp[depth,depthAll];done)|decide)
local macro_rules| `(tactic|walk_at"rg")=>`(tactic|first|decide|omega)
local macro_rules| `(tactic|walk_at"at")=>`(tactic|first|rfl|exact AF (by walk_at"dn") (by rfl)|exact Bf (by walk_at"dn") (by walk_at"dn"))
local macro_rules| `(tactic|walk_at"cd")=>`(tactic|first|exact B1|exact Mv|exact MB (by decide)|exact JV rfl|exact Ji|exact Ra|exact QL|exact E6|exact TN rfl|exact Up rfl|exact Q7 rfl)
local macro_rules| `(tactic|walk_at"fn")=>`(tactic|first|exact⟨_,rfl,rfl⟩|exact⟨_,_,rfl,rfl⟩|exact⟨_,_,_,rfl,rfl⟩)
def top(i:Nat):Stmt:=PySem.Challenge.pw_likewise_k15_twins.main.body.getD i (.Pass ⟨0,0,0,0⟩)
abbrev Fb:Stmt:=top 6
abbrev Gp:Stmt:=top 7
abbrev Di:Stmt:=top 10
abbrev E3:Stmt:=top 11
abbrev Dq:Stmt:=top 12
abbrev Ev:Stmt:=top 13
abbrev Fj:Stmt:=top 14
abbrev Eh:Stmt:=top 15
abbrev G8:Stmt:=top 16
abbrev HD:Stmt:=top 22
abbrev Ee:Stmt:=top 23
abbrev Ew:Stmt:=top 24
abbrev HG:Stmt:=top 25
abbrev DR:Stmt:=top 26
abbrev ER:Stmt:=top 27
abbrev FL:Stmt:=top 30
abbrev Dg:Stmt:=top 31
abbrev Dz:Stmt:=top 32
abbrev Dm:Stmt:=top 33
abbrev Dp:Stmt:=top 36
abbrev Fl:Stmt:=top 37
abbrev Fd:Stmt:=top 38
abbrev Bi:Stmt:=top 39
abbrev Fh:Stmt:=top 40
abbrev Ep:Stmt:=top 41
abbrev Fg:Stmt:=top 42
abbrev BD:Stmt:=top 43
abbrev Es:Stmt:=top 44
abbrev G5:Stmt:=top 45
abbrev G6:Stmt:=top 46
abbrev CQ:Stmt:=top 47
abbrev BX:Stmt:=top 48
abbrev Fi:Stmt:=top 49
abbrev CF:Stmt:=top 50
abbrev Ej:Stmt:=top 51
abbrev C4:Stmt:=top 52
abbrev Eu:Stmt:=top 53
abbrev Fc:Stmt:=top 54
abbrev DP:Stmt:=top 55
abbrev Li:Stmt:=top 56
theorem K1:FnScope ["thing","bound"] ["thing","bound"] (Ae Fb):=by walk_at"s"
theorem LL:FnScope ["thing"] ["thing"] (Ae Gp):=by walk_at"s"
theorem HU:FnScope ["pages"] ["pages"] (Ae Di):=by walk_at"s"
theorem J2:FnScope ["things","many"] ["things","many"] (Ae E3):=by walk_at"s"
theorem Hr:FnScope ["pages","cells","boxes","place"] ["pages","cells","boxes","place"] (Ae Dq):=by walk_at"s"
theorem JU:FnScope ["pages","cell","right"] ["pages","cell","right"] (Ae Ev):=by walk_at"s"
theorem Lk:FnScope ["pages","cell"] ["pages","cell"] (Ae Fj):=by walk_at"s"
theorem J1:FnScope ["pages","cell"] ["pages","cell"] (Ae Eh):=by walk_at"s"
theorem Md:FnScope ["pages","cell"] ["pages","cell"] (Ae G8):=by walk_at"s"
theorem sc_is_row:FnScope ["row","parts","numbers"] ["row"] (Ae HD):=by walk_at"s"
theorem sc_first_word:FnScope ["row","name","counted"] ["row"] (Ae Ee):=by walk_at"s"
theorem J7:FnScope ["part","first","second"] ["part","first","second"] (Ae Ew):=by walk_at"s"
theorem sc_row_in:FnScope ["first","second","name","row"] ["first","second"] (Ae HG):=by walk_at"s"
theorem sc_cells_from:FnScope ["first","row"] ["first"] (Ae DR):=by walk_at"s"
theorem K5:FnScope ["row"] ["row"] (Ae ER):=by walk_at"s"
theorem sc_row_at:FnScope ["pages","cells","place","many","second"] ["pages","cells","place"] (Ae FL):=by walk_at"s"
theorem JR:FnScope ["name","x","y"] ["name","x","y"] (Ae Dg):=by walk_at"s"
theorem LG:FnScope ["name","x","y"] ["name","x","y"] (Ae Dz):=by walk_at"s"
theorem sc_branch_goes:FnScope ["kind","truths","zero","less"] ["kind","truths"] (Ae Dm):=by walk_at"s"
theorem sc_law_numbers:FnScope ["script","at","many","cells","found","cell","rest","turn","k","near"] ["script","at","many"] (Ae Dp):=by walk_at"s"
theorem sc_law_kind:FnScope ["number","kinds"] ["number"] (Ae Fl):=by walk_at"s"
theorem J_:FnScope ["word"] ["word"] (Ae Fd):=by walk_at"s"
theorem sc_law_row_words:FnScope ["word","number","to","names","op","x","y","m"] ["word","number","to"] (Ae Bi):=by walk_at"s"
theorem sc_law_goal:FnScope ["word","number","places","size","here","some"] ["word","number","places","size"] (Ae Fh):=by walk_at"s"
theorem sc_law_pages:FnScope ["numbers","many","pages","k","draw"] ["numbers","many"] (Ae Ep):=by walk_at"s"
theorem sc_law_laid:FnScope ["numbers","base","size","places","kinds","at","number","word","words"] ["numbers","base","size"] (Ae Fg):=by walk_at"s"
theorem sc_law_program:FnScope ["script","at","numbers","head","many","size","cells","k","draw","base","places","words","boxes","place"] ["script","at"] (Ae BD):=by walk_at"s"
theorem Jv:FnScope ["found"] ["found"] (Ae Es):=by walk_at"s"
theorem sc_law_new:FnScope ["pages","cells","boxes","place","made"] ["pages","cells","boxes","place"] (Ae G5):=by walk_at"s"
theorem LD:FnScope ["now","cell","right"] ["now","cell","right"] (Ae G6):=by walk_at"s"
theorem sc_law_row_here:FnScope ["now","word","op","x","y","m","has","second"] ["now"] (Ae CQ):=by walk_at"s"
theorem GM:FnScope ["op","one","other"] ["op","one","other"] (Ae BX):=by walk_at"s"
theorem KK:FnScope ["truths","kind"] ["truths","kind"] (Ae Fi):=by walk_at"s"
theorem sc_law_step:FnScope ["now","row","op","x","y","m","n","behind","boxes","cell","to","found"] ["now"] (Ae CF):=by walk_at"s"
theorem sc_law_state:FnScope ["now","told"] ["now"] (Ae Ej):=by walk_at"s"
theorem sc_law_stands:FnScope ["machine","now","parts"] ["machine","now"] (Ae C4):=by walk_at"s"
theorem sc_law_kinds:FnScope ["machine","boxes","truths","place","cells","told","done","some","number"] ["machine"] (Ae Eu):=by walk_at"s"
theorem sc_law_copy:FnScope ["now","made","name"] ["now"] (Ae Fc):=by walk_at"s"
theorem sc_law_deed:FnScope ["machine","now","number","rest","size","cell","boxes","handed","word"] ["machine","now","number"] (Ae DP):=by walk_at"s"
theorem sc_law:FnScope ["script","pages","cells","boxes","place","machines","nows","turn","number","which"] ["script"] (Ae Li):=by walk_at"s"
abbrev CO:Stmt:=inClass (top 34) 0
theorem GR:FnScope ["self","pages","cells","boxes","place"] ["self","pages","cells","boxes","place"] (Ae CO):=by walk_at"s"
abbrev Cw:Stmt:=inClass (top 34) 1
theorem Gi:FnScope ["self"] ["self"] (Ae Cw):=by walk_at"s"
abbrev C0:Stmt:=inClass (top 34) 2
theorem Gx:FnScope ["self"] ["self"] (Ae C0):=by walk_at"s"
abbrev Cy:Stmt:=inClass (top 34) 3
theorem Gu:FnScope ["self"] ["self"] (Ae Cy):=by walk_at"s"
abbrev Ci:Stmt:=inClass (top 34) 4
theorem FW:FnScope ["self"] ["self"] (Ae Ci):=by walk_at"s"
abbrev C1:Stmt:=inClass (top 34) 5
theorem Gz:FnScope ["self"] ["self"] (Ae C1):=by walk_at"s"
abbrev CS:Stmt:=inClass (top 34) 6
theorem GI:FnScope ["self"] ["self"] (Ae CS):=by walk_at"s"
abbrev Cd:Stmt:=inClass (top 34) 7
theorem FC:FnScope ["self"] ["self"] (Ae Cd):=by walk_at"s"
abbrev CY:Stmt:=inClass (top 34) 8
theorem GS:FnScope ["self"] ["self"] (Ae CY):=by walk_at"s"
abbrev C2:Stmt:=inClass (top 34) 9
theorem G0:FnScope ["self"] ["self"] (Ae C2):=by walk_at"s"
abbrev CC:Stmt:=inClass (top 34) 10
theorem sc_Machine_twin:FnScope ["self","other"] ["self"] (Ae CC):=by walk_at"s"
abbrev Dx:Stmt:=inClass (top 34) 11
theorem HR:FnScope ["self","boxes","truths","place","more"] ["self","boxes","truths","place","more"] (Ae Dx):=by walk_at"s"
abbrev C_:Stmt:=inClass (top 34) 12
theorem GP:FnScope ["self","cell"] ["self","cell"] (Ae C_):=by walk_at"s"
abbrev CK:Stmt:=inClass (top 34) 13
theorem GL:FnScope ["self","cell","word"] ["self","cell","word"] (Ae CK):=by walk_at"s"
abbrev CH:Stmt:=inClass (top 34) 14
theorem GO:FnScope ["self","word"] ["self","word"] (Ae CH):=by walk_at"s"
abbrev CB:Stmt:=inClass (top 34) 15
theorem sc_Machine_step:FnScope ["self","word","row"] ["self"] (Ae CB):=by walk_at"s"
abbrev BQ:Stmt:=inClass (top 34) 17
theorem EU:FnScope ["self","row"] ["self","row"] (Ae BQ):=by walk_at"s"
abbrev BB:Stmt:=inClass (top 34) 18
theorem Er:FnScope ["self","row"] ["self","row"] (Ae BB):=by walk_at"s"
abbrev Ea:Stmt:=inClass (top 34) 19
theorem sc_Machine_do:FnScope ["self","row","behind"] ["self","row"] (Ae Ea):=by walk_at"s"
abbrev B4:Stmt:=inClass (top 34) 20
theorem Eg:FnScope ["self","row","behind"] ["self","row","behind"] (Ae B4):=by walk_at"s"
abbrev Cm:Stmt:=inClass (top 34) 21
theorem sc_Machine_reckon:FnScope ["self","row","name","x","y","one","two","result"] ["self","row"] (Ae Cm):=by walk_at"s"
abbrev CA:Stmt:=inClass (top 34) 22
theorem GQ:FnScope ["self","row","behind"] ["self","row","behind"] (Ae CA):=by walk_at"s"
structure Txt(mg:Str->Option Value):Prop where
 b_len:mg "len"=none
 b_isinstance:mg "isinstance"=none
 b_int:mg "int"=none
 b_bool:mg "bool"=none
 b_all:mg "all"=none
 b_zip:mg "zip"=none
 b_sum:mg "sum"=none
 b_tuple:mg "tuple"=none
 b_list:mg "list"=none
 b_range:mg "range"=none
 b_str:mg "str"=none
 b_dict:mg "dict"=none
 c_page_cells:∃t,mg "PAGE_CELLS"=some (.int 16 t)
variable{X:Cx}{G:Gam}{pos:Pos}
theorem Txt.g_page_cells(T:Txt X.mg)(hg:Gl X "PAGE_CELLS"):EV X G (.Name "PAGE_CELLS" pos) (.int 16):=by
 obtain⟨t,h⟩:=T.c_page_cells
 exact Qx hg h
def kinds:List (Str×Str):=[("stop",""),("set","xn"),("move","xy"),("add","xy"),("sub","xy"),("mul","xy"),("and","xy"),("xor","xy"),("cmp","xy"),("load","xym"),("store","xym"),("jump","n"),("branch","kn"),("call","xn"),("back","x"),("out","x")]
def nameL:List Str:=kinds.map (·.1)
def Qk:List (Str×PyData):=kinds.map λq=>(q.1,.str q.2)
def BC(c:Nat):Int:=if c=120 then 4 else if c=121 then 4 else if c=107 then 4 else if c=109 then 16 else 4096
def BW(c:Nat):Int:=if c=120 then 64 else if c=121 then 16 else if c=107 then 1 else if c=109 then 1 else 0
abbrev HQ(c:Nat):Prop:=c=120\/c=121\/c=107\/c=109\/c=110
def Lr:List (Str×PyData):=[("x",.int 4),("y",.int 4),("k",.int 4),("m",.int 16),("n",.int 4096)]
def JT:List (Str×PyData):=[("x",.int 64),("y",.int 16),("k",.int 1),("m",.int 1),("n",.int 0)]
variable{c:Nat}
theorem IQ(h:HQ c):((⟨#[c]⟩:Str),int (BC c))∈Lr:=by
 rcases h with rfl|rfl|rfl|rfl|rfl
 .exact mem_of_getElem? (i:=0) rfl
 .exact mem_of_getElem? (i:=1) rfl
 .exact mem_of_getElem? (i:=2) rfl
 .exact mem_of_getElem? (i:=3) rfl
 .exact mem_of_getElem? (i:=4) rfl
theorem Im(h:HQ c):((⟨#[c]⟩:Str),int (BW c))∈JT:=by
 rcases h with rfl|rfl|rfl|rfl|rfl
 .exact mem_of_getElem? (i:=0) rfl
 .exact mem_of_getElem? (i:=1) rfl
 .exact mem_of_getElem? (i:=2) rfl
 .exact mem_of_getElem? (i:=3) rfl
 .exact mem_of_getElem? (i:=4) rfl
theorem C7:∀q∈kinds,∀c∈q.2.cps.toList,HQ c:=by decide+kernel
theorem Ek:∀q∈kinds,strIterType q.2=CU:=by decide+kernel
theorem En:∀q∈kinds,q.2.cps.size<=3:=by decide+kernel
variable{q:Str×Str}
theorem Ei(h:q∈kinds):(q.1,str q.2)∈Qk:=mem_map.mpr ⟨q,h,rfl⟩
theorem FZ:0<=BW c/\BW c<=64:=by unfold BW;repeat' split<;>omega
def CN(ps:Str)(nums:List Int):Bool:=(ps.cps.toList.zip nums).all λq=>decide (0<=q.2)&&decide (q.2<BC q.1)
def AL(ps:Str)(nums:List Int):Int:=((ps.cps.toList.zip nums).map λq=>BW q.1*q.2).sum
def rowD(name:Str)(nums:List Int):PyData:=.tuple (.str name::nums.map int)
theorem Kr{s:Str}:∀{l:List Str},s∈l->((l.map str).any λe=>eqv e (.str s))=true
 |a::r,h=>by
  rw[map_cons,any_cons]
  rcases mem_cons.mp h with e|e
  .subst e;simp[eqv]
  .rw[Kr e,Bool.or_true]
theorem Kp:∀(l:List Str),(l.map str).all DE=true
 |[]=>rfl
 |_::r=>by rw[map_cons,all_cons,Kp r];rfl
structure TxtR(K:Frag)(mg:Str->Option Value)(P:Params):Prop extends Txt mg where
 t_names:GTup K mg "NAMES" nameL
 t_parts:GE K mg P "PARTS" Qk
 t_bounds:GE K mg P "BOUNDS" Lr
 t_weights:GE K mg P "WEIGHTS" JT
 t_reck:GTup K mg "RECKONING" ["add","sub","mul","and","xor","cmp"]
variable{P:Program}{w:World}{K:Frag}{mg:Str->Option Value}{base:Heap}{f:Addr}{fd:FuncData}
section
def Ey:PyData->Int->Bool
 | .int i,b=>decide (0<=i)&&decide (i<b)
 |_,_=>false
def CG(ds:List PyData)(d:PyData):Prop:=∃(i b:Int),ds=[.int i,.int b]/\d=.bool (Ey (.int i) b)
theorem LN(T:Txt mg)(F:Fun K "is_below" "is_below" Fb f fd)(hm:mg "is_below"=some (.ref f)):DFn P w K mg base 1 "is_below" CG:=by
 refine F.data hm (by walk_at"b2") K1 (λds d ⟨_,_,e,_⟩=>by rw[e];rfl) λcdv A outer s H E ds d hr ⟨t,b,e,e2⟩=>?_
 subst e e2
 exact Ag (Ap (Cj (E_ (n:="int") (evv 0) rfl T.b_isinstance rfl T.b_int (by decide+kernel) (by rfl)) (λ_=>(Cj (Gs (E_ (n:="bool") (evv 0) rfl T.b_isinstance rfl T.b_bool (by decide+kernel) (by rfl))) (λ_=>(Dt (Od Ab (evv 0) (by walk_at"od") (evv 1) (by walk_at"od")))) (by walk_at"bf"))) (by walk_at"bf")))
def EF(ds:List PyData)(d:PyData):Prop:=∃i:Int,ds=[.int i]/\d=.bool (Ey (.int i) 4096)
theorem SQ{tg e:Expr}{ds ds':List PyData}(h:IV X G tg e ds)(q:ds=ds'):IV X G tg e ds':=q▸h
def pairD(q:Nat×Int):PyData:=.tuple [.str ⟨#[q.1]⟩,.int q.2]
theorem KN(l:List Nat)(nums:List Int):(l.zip (nums.map int)).map zipD=(l.zip nums).map pairD:=by
 rw[List.zip_map_right,map_map]
 rfl
def Fw(ds:List PyData)(d:PyData):Prop:=∃q nums,q∈kinds/\nums.length=q.2.cps.size/\ds=[rowD q.1 nums]/\d=.bool (CN q.2 nums)
theorem Nm(name:Str)(nums:List Int):cutD (.str name::nums.map int) (some 1) none=nums.map int:=by
 unfold cutD
 simp[HT.sIx]
 exact take_of_length_le (by simp)
theorem Fz(name:Str)(nums:List Int):¬(HT.sIx (str name::nums.map int).length 0 (some 1)=0/\HT.sIx (str name::nums.map int).length (str name::nums.map int).length none=(str name::nums.map int).length):=by
 intro h
 have:=h.1
 simp[HT.sIx]at this
theorem Pc(T:TxtR K mg w.params)(D_is_below:DFn P w K mg base 1 "is_below" CG)(F:Fun K "is_row" "is_row" HD f fd)(hm:mg "is_row"=some (.ref f)):DFn P w K mg base 2 "is_row" Fw:=by
 refine F.data hm (by walk_at"b1") sc_is_row (λds d ⟨_,_,_,_,e,_⟩=>by rw[e];rfl) λcdv A outer s H E ds d hr ⟨q,nums,hq,hl,e,e2⟩=>?_
 subst e e2
 have hn:q.1∈nameL:=mem_map.mpr ⟨q,hq,rfl⟩
 refine Ai (Ax (k:=false) (Am (Bn (BE (Ah (Au "len" (Aa (evv 0) Ad) (by walk_at"cd") rfl T.b_len (by decide+kernel)) Ab (by walk_at"od") (Af _)) (λ_=>By (Ah (AK (evv 0) Ab (AF (by decide) rfl)) (JD T.t_names rfl) (FK (.inr rfl) rfl (Kp _) (by rw[Kr hn])) (by with_unfolding_all rfl))))) ?_) nofun (λ_=>Ar)) ?_
 .simp[eqv]
  omega
 refine Ai (AE (i:=1) sc_is_row.nd rfl (inl rfl) (B_ T.t_parts rfl (AK (evv 0) Ab (AF (by decide) rfl)) (Ei hq))) ?_
 refine Ai (AE (i:=2) sc_is_row.nd rfl (inl rfl) (A2 (LA (evv 0) (Co Ab) GY (Fz q.1 nums)) (by rw[Nm]))) ?_
 have hs:=En q hq
 refine Ai (Ax (k:=false) (Ah (Au "len" (Aa (evv 2) Ad) (by walk_at"cd") rfl T.b_len (by decide+kernel)) (Au "len" (Aa (evv 1) Ad) (MB (by rw[sizeLine_eq];show q.2.cps.size<=_;omega)) rfl T.b_len (by decide+kernel)) (Eo (by walk_at"un") rfl rfl (by walk_at"dp") ?_) (Af _)) nofun (λ_=>Ar)) ?_
 .rw[length_map,hl]
  simp[eqv,Str.length]
 refine Ag (Ap (A2 (Au "all" (ds:=[.list (((q.2.cps.toList.zip nums).map λz=>decide (0<=z.2)&&decide (z.2<BC z.1)).map PyData.bool)]) (Aa (A2 (GX (ix:=[]) (N:=["part","number"]) (B:=QA) (as:=q.2.cps.toList.zip nums) (D:=pairD) (λ_=>true) (λz=>PyData.bool (decide (0<=z.2)&&decide (z.2<BC z.1))) rfl (of_decide_eq_true (by kernel_rfl)) (MJ (Fs (Ct (by decide)) (Fs (Ct (by decide)) Nv)))
  (SQ (Rg (evv 1) (evv 2) (Ek q hq) (by rw[length_map,hl]) rfl T.b_zip) (KN _ _)) (by rw[length_zip,sizeLine_eq,length_toList];omega) (λ_ _=>QF _ _) (λ_ _ _ _ _=>Dl rfl (A5 (Aw (i:=0) (show Nodup (["part","number"]:List Str) by decide+kernel) rfl (inl rfl)) (A5 (Aw (i:=1) (show Nodup (["part","number"]:List Str) by decide+kernel) rfl (inl rfl)) BT))) (λa ha cl C s H fp=>II)
  (λa ha hP cl C s H fp=>An D_is_below (by walk_at"rm") rfl (Aa (evv 1) (Aa (B_ T.t_bounds rfl (evv 0) (IQ (C7 q hq a.1 (of_mem_zip ha).1))) Ad)) ⟨_,_,rfl,rfl⟩)) ?_) Ad) (JV rfl) rfl T.b_all (by decide+kernel)) ?_))
 .rw[BP,map_map];rfl
 .unfold CN
  rw[all_map]
  rfl
def E5(ds:List PyData)(d:PyData):Prop:=∃(j:Nat) (q:Str×Str) (nums:List Int),kinds[j]?=some q/\nums.length=q.2.cps.size/\ds=[rowD q.1 nums]/\d=.int ((j:Int)*256+AL q.2 nums)
theorem DN{j:Nat}(h:kinds[j]?=some q):nameL[j]?=some q.1:=by
 unfold nameL
 rw[getElem?_map,h]
 rfl
theorem names_nodup:nameL.Nodup:=by decide+kernel
theorem K0{j:Nat}{s:Str}(h:nameL[j]?=some s):∀m,m<j->nameL[m]?≠some s:=by
 intro m hm e
 obtain⟨h1,e1⟩:=List.getElem?_eq_some_iff.mp h
 obtain⟨h2,e2⟩:=List.getElem?_eq_some_iff.mp e
 have:=(getElem_inj names_nodup).mp (e2.trans e1.symm)
 omega
theorem JB(T:TxtR K mg w.params)(F:Fun K "first_word" "first_word" Ee f fd)(hm:mg "first_word"=some (.ref f)):DFn P w K mg base 1 "first_word" E5:=by
 refine F.data hm (by walk_at"b1") sc_first_word (λds d ⟨_,_,_,_,_,e,_⟩=>by rw[e];rfl) λcdv A outer s H E ds d hr ⟨j,q,nums,hj,hl,e,e2⟩=>?_
 subst e e2
 have hq:q∈kinds:=mem_of_getElem? hj
 have hs:=En q hq
 refine Ai (AE (i:=1) sc_first_word.nd rfl (inl rfl) (AK (evv 0) Ab (AF (by decide) rfl))) ?_
 refine Ai (HK (ix:=[]) (N:=["part","number"]) (B:=QA) (as:=q.2.cps.toList.zip nums) (D:=pairD) (λ_=>true) (λz=>int (BW z.1*z.2)) rfl sc_first_word.nd (i:=2) rfl rfl (of_decide_eq_true (by kernel_rfl)) (MJ (Fs (Ct (by decide)) (Fs (Ct (by decide)) Nv)))
  (SQ (Rg (B_ T.t_parts rfl (evv 1) (Ei hq)) (A2 (LA (evv 0) (Co Ab) GY (Fz q.1 nums)) (by rw[Nm])) (Ek q hq) (by rw[length_map,hl]) rfl T.b_zip) (KN _ _)) (by rw[length_zip,sizeLine_eq,length_toList];omega) (λ_ _=>QF _ _) (λ_ _ _ _ _=>Dl rfl (A5 (Aw (i:=0) (show Nodup (["part","number"]:List Str) by decide+kernel) rfl (inl rfl)) (A5 (Aw (i:=1) (show Nodup (["part","number"]:List Str) by decide+kernel) rfl (inl rfl)) BT))) (λa ha cl C s H fp=>II)
  (λa ha hP cl C s H fp=>Ac (B_ T.t_weights rfl (evv 0) (Im (C7 q hq a.1 (of_mem_zip ha).1))) (evv 1) (Dw (inl ⟨by have:=FZ (c:=a.1);omega,by have:=FZ (c:=a.1);omega⟩)))) ?_
 refine Ag (Ap (Ac (Ac (Rl T.t_names rfl (evv 1) (DN hj) (K0 (DN hj))) Ab (by walk_at"od")) (Au "sum" (ds:=[.list (((q.2.cps.toList.zip nums).map λz=>BW z.1*z.2).map int)]) (Aa (A2 (evv 2) (by rw[BP,map_map];rfl)) Ad) (Q7 rfl) rfl T.b_sum (by decide+kernel)) (by walk_at"od")))
def Bd(c:Nat)(f s:Int):Int:=if c=110 then s else f/BW c%BC c
def HV(ds:List PyData)(d:PyData):Prop:=∃c f s,HQ c/\ds=[.str ⟨#[c]⟩,.int f,.int s]/\d=.int (Bd c f s)
theorem Lh(T:TxtR K mg w.params)(F:Fun K "number_in" "number_in" Ew f fd)(hm:mg "number_in"=some (.ref f)):DFn P w K mg base 1 "number_in" HV:=by
 refine F.data hm (by walk_at"b3") J7 (λds d ⟨_,_,_,_,e,_⟩=>by rw[e];rfl) λcdv A outer s H E ds d hr ⟨c,fi,se,hc,e,e2⟩=>?_
 subst e e2
 by_cases h110:c=110
 .subst h110
  exact Ag (Ax (k:=true) (Ah (evv 0) Ak (Bs (by walk_at"un") (by decide+kernel) (by decide+kernel) (by walk_at"dp") (by decide+kernel)) (Af _)) (λ_=>Ag (Ap (A2 (evv 2) rfl))) nofun)
 .have hw:CDiv fi (BW c):=by
   rcases hc with rfl|rfl|rfl|rfl|rfl
   .exact⟨by decide,by decide⟩
   .exact⟨by decide,by decide⟩
   .exact⟨by decide,by decide⟩
   .exact⟨by decide,by decide⟩
   .exact absurd rfl h110
  have hb:0<BC c:=by
   rcases hc with rfl|rfl|rfl|rfl|rfl<;>decide
  have hcl:canLay0 (.str ⟨#[c]⟩)=true:=by rcases hc with rfl|rfl|rfl|rfl|rfl<;>decide+kernel
  have hne:eqv (.str ⟨#[c]⟩) (.str "n")=false:=by
   rcases hc with rfl|rfl|rfl|rfl|rfl
   .decide+kernel
   .decide+kernel
   .decide+kernel
   .decide+kernel
   .exact absurd rfl h110
  refine Ai (Ax (k:=false) (Ah (evv 0) Ak (Bs (by walk_at"un") hcl (by decide+kernel) (by walk_at"dp") hne) (Af _)) nofun (λ_=>Ar)) (Ag (Ap (A2 (Ac (Ac (evv 1) (B_ T.t_weights rfl (evv 0) (Im hc)) (B8 hw)) (B_ T.t_bounds rfl (evv 0) (IQ hc)) (A1 hb)) ?_)))
  unfold Bd
  rw[if_neg h110]
theorem OF(D_is_below:DFn P w K mg base 1 "is_below" CG)(F:Fun K "is_word" "is_word" Gp f fd)(hm:mg "is_word"=some (.ref f)):DFn P w K mg base 2 "is_word" EF:=by
 refine F.data hm (by walk_at"b1") LL (λds d ⟨_,e,_⟩=>by rw[e];rfl) λcdv A outer s H E ds d hr ⟨t,e,e2⟩=>?_
 subst e e2
 exact Ag (Ap (An D_is_below (by walk_at"rm") rfl (Aa (evv 0) (Aa Ab Ad)) ⟨_,_,rfl,rfl⟩))
def kindOf(f:Int):Str×Str:=kinds.getD (f/256).toNat ("stop","")
def numsOf(f s:Int):List Int:=(kindOf f).2.cps.toList.map λc=>Bd c f s
def CV(f s:Int):PyData:=if 0<=f/\f<4096 then(if CN (kindOf f).2 (numsOf f s)=true/\(f/256)*256+AL (kindOf f).2 (numsOf f s)=f then rowD (kindOf f).1 (numsOf f s)else .none)else .none
def Hv(ds:List PyData)(d:PyData):Prop:=∃f s,ds=[.int f,.int s]/\d=CV f s
theorem Fr{f:Int}(h0:0<=f)(h1:f<4096):kinds[(f/256).toNat]?=some (kindOf f):=by
 have h:(f/256).toNat<kinds.length:=by
  have:kinds.length=16:=by decide
  omega
 unfold kindOf
 rw[getD_eq_getElem?_getD,getElem?_eq_getElem h]
 rfl
theorem Q6(T:TxtR K mg w.params)(D_is_word:DFn P w K mg base 2 "is_word" EF)(D_is_row:DFn P w K mg base 2 "is_row" Fw)(D_first_word:DFn P w K mg base 1 "first_word" E5)(D_number_in:DFn P w K mg base 1 "number_in" HV)
  (F:Fun K "row_in" "row_in" HG f fd)(hm:mg "row_in"=some (.ref f)):DFn P w K mg base 3 "row_in" Hv:=by
 refine F.data hm (by walk_at"b2") sc_row_in (λds d ⟨_,_,e,_⟩=>by rw[e];rfl) λcdv A outer s H E ds d hr ⟨fi,se,e,e2⟩=>?_
 subst e e2
 by_cases hw:¬(0<=fi/\fi<4096)
 .have hb:(decide (0<=fi)&&decide (fi<4096))=false:=by
   rw[Bool.eq_false_iff]
   intro z
   rw[and_eq_true]at z
   exact hw ⟨of_decide_eq_true z.1,of_decide_eq_true z.2⟩
  refine Ag (Ax (k:=true) (Am (AT (AM (An D_is_word (by walk_at"rm") rfl (Aa (evv 0) Ad) ⟨_,rfl,rfl⟩))) (by rw[show Ey (.int fi) 4096=(decide (0<=fi)&&decide (fi<4096))from rfl,hb];rfl)) (λ_=>Ag (Ap (A2 Gr ?_))) nofun)
  unfold CV
  rw[if_neg hw]
 obtain⟨h0,h1⟩:=Classical.not_not.mp hw
 have hk:=Fr h0 h1
 have hq:kindOf fi∈kinds:=mem_of_getElem? hk
 have hs:=En _ hq
 have hll:(numsOf fi se).length=(kindOf fi).2.cps.size:=by unfold numsOf;rw[length_map,length_toList]
 have hjc:(((fi/256).toNat:Nat):Int)=fi/256:=Int.toNat_of_nonneg (by omega)
 refine Ai (Ax (k:=false) (Am (AT (AM (An D_is_word (by walk_at"rm") rfl (Aa (evv 0) Ad) ⟨_,rfl,rfl⟩))) (by rw[show Ey (.int fi) 4096=(decide (0<=fi)&&decide (fi<4096))from rfl,decide_eq_true h0,decide_eq_true h1];rfl)) nofun (λ_=>Ar)) ?_
 refine Ai (AE (i:=2) sc_row_in.nd rfl (by first|exact inl rfl|exact Or.inr rfl) (AK (JD T.t_names rfl) (Ac (evv 0) Ab (by walk_at"od")) (AF (d:=.str (kindOf fi).1) (by omega) (by rw[getElem?_map,DN hk];rfl)))) ?_
 refine Ai (AE (i:=3) sc_row_in.nd rfl (by first|exact inl rfl|exact Or.inr rfl) (A2 (Ac (AW (Aa (evv 2) Ad) (by walk_at"sz")) (BM "tuple" (Aa (GX (ix:=[0,1]) (N:=["part","first","second"]) (B:=bind1) (as:=(kindOf fi).2.cps.toList) (D:=Q_) (λ_=>true) (λc=>int (Bd c fi se)) rfl (of_decide_eq_true (by kernel_rfl)) (Ct (by decide))
   (Ue (B_ T.t_parts rfl (evv 2) (Ei hq)) (Ek _ hq)) (by rw[sizeLine_eq,length_toList];omega) (λ_ _=>JO _) (λ_ _ _ _ _=>Aw (i:=0) (show Nodup (["part","first","second"]:List Str) by decide+kernel) rfl (inl rfl)) (λa ha cl C s H fp=>II)
   (λa ha hP cl C s H fp=>An D_number_in (by walk_at"rm") rfl (Aa (evv 0) (Aa (evv 1) (Aa (evv 2) Ad))) ⟨a,fi,se,C7 _ hq a ha,rfl,rfl⟩)) Ad) Ji rfl T.b_tuple (by decide+kernel)) (NE (by simp) (by rw[BP,sizeLine_eq];simp;omega))) (d':=rowD (kindOf fi).1 (numsOf fi se)) (by rw[BP];unfold rowD numsOf;rw[map_map];rfl))) ?_
 have hrow:∀ok:Bool,CN (kindOf fi).2 (numsOf fi se)=ok->Fw [rowD (kindOf fi).1 (numsOf fi se)] (.bool ok):=λok h=>⟨_,_,hq,hll,rfl,by rw[h]⟩
 cases hok:CN (kindOf fi).2 (numsOf fi se)with
 |false=>
  refine Ag (Ax (k:=true) (Am (Bn (BE (k':=true) (AT (AM (An D_is_row (by walk_at"rm") rfl (Aa (evv 3) Ad) (hrow false hok)))) nofun)) rfl) (λ_=>Ag (Ap (A2 Gr ?_))) nofun)
  unfold CV
  rw[if_pos ⟨h0,h1⟩,if_neg (by rw[hok];simp)]
 |true=>
  have hfw:E5 [rowD (kindOf fi).1 (numsOf fi se)] (.int (fi/256*256+AL (kindOf fi).2 (numsOf fi se))):=⟨_,_,_,hk,hll,rfl,by rw[hjc]⟩
  by_cases he:(fi/256)*256+AL (kindOf fi).2 (numsOf fi se)=fi
  .refine Ai (Ax (k:=false) (Am (Bn (BE (AT (AM (An D_is_row (by walk_at"rm") rfl (Aa (evv 3) Ad) (hrow true hok)))) (λ_=>By (Ah (An D_first_word (by walk_at"rm") rfl (Aa (evv 3) Ad) hfw) (evv 0) (Eo (k:=false) (by walk_at"un") rfl rfl (by walk_at"dp") (by rw[he];simp[eqv])) (Af _))))) rfl) nofun (λ_=>Ar)) (Ag (Ap (A2 (evv 3) ?_)))
   unfold CV
   rw[if_pos ⟨h0,h1⟩,if_pos ⟨hok,he⟩]
  .refine Ag (Ax (k:=true) (Am (Bn (BE (AT (AM (An D_is_row (by walk_at"rm") rfl (Aa (evv 3) Ad) (hrow true hok)))) (λ_=>By (Ah (An D_first_word (by walk_at"rm") rfl (Aa (evv 3) Ad) hfw) (evv 0) (Eo (k:=true) (by walk_at"un") rfl rfl (by walk_at"dp") (by simp[eqv];exact he)) (Af _))))) rfl) (λ_=>Ag (Ap (A2 Gr ?_))) nofun)
   unfold CV
   rw[if_pos ⟨h0,h1⟩,if_neg (λz=>he z.2)]
def hasN(ps:Str):Bool:=ps.cps.toList.any λc=>c==110
theorem Nq:∀q∈kinds,(!(occurrences q.2 "n" 0 q.2.length 1).isEmpty)=hasN q.2:=by decide+kernel
theorem OU:∀q∈kinds,hasN q.2=true->0<q.2.cps.size:=by decide+kernel
def wordsOf(j:Nat)(ps:Str)(nums:List Int):List Int:=if hasN ps=true then[(j:Int)*256+AL ps nums,nums.getLastD 0]else[(j:Int)*256+AL ps nums]
def JE(ds ws:List PyData):Prop:=∃(j:Nat) (q:Str×Str) (nums:List Int),kinds[j]?=some q/\nums.length=q.2.cps.size/\CN q.2 nums=true/\ds=[rowD q.1 nums]/\ws=(wordsOf j q.2 nums).map int
theorem Jy{name:Str}{nums:List Int}(h:0<nums.length):atI (str name::nums.map int) (-1)=some (.int (nums.getLastD 0)):=by
 obtain⟨l,z,rfl⟩:∃l z,nums=l++[z]:=⟨nums.dropLast,nums.getLast (by intro e;rw[e]at h;cases h),(List.dropLast_concat_getLast _).symm⟩
 have e:str name::(l++[z]).map int=(str name::l.map int)++[.int z]:=by simp
 rw[e,P7]
 simp
theorem LW(T:TxtR K mg w.params)(D_is_row:DFn P w K mg base 2 "is_row" Fw)(D_first_word:DFn P w K mg base 1 "first_word" E5)(F:Fun K "cells_of" "cells_of" ER f fd)(hm:mg "cells_of"=some (.ref f)):FFn P w K mg base 3 "cells_of" JE:=by
 refine F.dataF hm (by walk_at"b1") K5 (λds d ⟨_,_,_,_,_,_,e,_⟩=>by rw[e];rfl) λcdv A outer s H E ds ws hr ⟨j,q,nums,hj,hl,hok,e,e2⟩=>?_
 subst e e2
 have hq:q∈kinds:=mem_of_getElem? hj
 refine Bw (Ax (k:=false) (AT (k:=true) (AM (An D_is_row (by walk_at"rm") rfl (Aa (evv 0) Ad) ⟨_,_,hq,hl,rfl,by rw[hok]⟩))) nofun (λ_=>Ar)) ?_
 have hfw:E5 [rowD q.1 nums] (.int ((j:Int)*256+AL q.2 nums)):=⟨_,_,_,hj,hl,rfl,rfl⟩
 cases hn:hasN q.2 with
 |true=>
  have hp:=OU q hq hn
  refine EZ (Ah Ak (B_ T.t_parts rfl (AK (evv 0) Ab (AF (by decide) rfl)) (Ei hq)) (J8 ((Nq q hq).trans hn)) (by with_unfolding_all rfl)) ?_
  have e:(wordsOf j q.2 nums).map int=[.int ((j:Int)*256+AL q.2 nums),.int (nums.getLastD 0)]:=by unfold wordsOf;rw[if_pos hn];rfl
  rw[e]
  exact Ce (Aa (An D_first_word (by walk_at"rm") rfl (Aa (evv 0) Ad) hfw) (Aa (AK (evv 0) (QX Ab) (Jy (by omega))) Ad)) (by walk_at"sz")
 |false=>
  refine Bw (Ax (k:=false) (Ah Ak (B_ T.t_parts rfl (AK (evv 0) Ab (AF (by decide) rfl)) (Ei hq)) (J8 ((Nq q hq).trans hn)) (by with_unfolding_all rfl)) nofun (λ_=>Ar)) ?_
  have e:(wordsOf j q.2 nums).map int=[.int ((j:Int)*256+AL q.2 nums)]:=by unfold wordsOf;rw[if_neg (by rw[hn];simp)];rfl
  rw[e]
  exact Ce (Aa (An D_first_word (by walk_at"rm") rfl (Aa (evv 0) Ad) hfw) Ad) (by walk_at"sz")
abbrev Dd(f s:Int):Prop:=CN (kindOf f).2 (numsOf f s)=true/\(f/256)*256+AL (kindOf f).2 (numsOf f s)=f
theorem Fa{f s:Int}(h0:0<=f)(h1:f<4096)(h:Dd f s):CV f s=rowD (kindOf f).1 (numsOf f s):=by
 unfold CV
 rw[if_pos ⟨h0,h1⟩,if_pos h]
theorem OY{f s:Int}(h:¬(0<=f/\f<4096/\Dd f s)):CV f s=.none:=by
 unfold CV
 by_cases hw:0<=f/\f<4096
 .rw[if_pos hw,if_neg λz=>h ⟨hw.1,hw.2,z⟩]
 .rw[if_neg hw]
def Cf(f:Int):Int:=if 0<=f/\f<4096/\Dd f 0 then(if hasN (kindOf f).2=true then 2 else 1)else 0
def Q8(ds:List PyData)(d:PyData):Prop:=∃f,ds=[.int f]/\d=.int (Cf f)
theorem JM(T:TxtR K mg w.params)(D_row_in:DFn P w K mg base 3 "row_in" Hv)(D_cells_of:DFn P w K mg base 3 "cells_of" (λds d=>∃ws,JE ds ws/\d=.list ws))(F:Fun K "cells_from" "cells_from" DR f fd)(hm:mg "cells_from"=some (.ref f)):DFn P w K mg base 4 "cells_from" Q8:=by
 refine F.data hm (by walk_at"b1") sc_cells_from (λds d ⟨_,e,_⟩=>by rw[e];rfl) λcdv A outer s H E ds d hr ⟨fi,e,e2⟩=>?_
 subst e e2
 refine Ai (AE (i:=1) sc_cells_from.nd rfl (inl rfl) (An D_row_in (by walk_at"rm") rfl (Aa (evv 0) (Aa Ab Ad)) ⟨fi,0,rfl,rfl⟩)) ?_
 by_cases hg:0<=fi/\fi<4096/\Dd fi 0
 .obtain⟨h0,h1,h2⟩:=id hg
  rw[Fa h0 h1 h2]
  have hk:=Fr h0 h1
  have hll:(numsOf fi 0).length=(kindOf fi).2.cps.size:=by unfold numsOf;rw[length_map,length_toList]
  refine Ai (Ax (k:=false) (J9 (evv 1) rfl) nofun (λ_=>Ar)) (Ag (Ap (A2 (Au "len" (Aa (An D_cells_of (by walk_at"rm") rfl (Aa (evv 1) Ad) ⟨_,⟨_,_,_,hk,hll,h2.1,rfl,rfl⟩,rfl⟩) Ad) B1 rfl T.b_len (by decide+kernel)) ?_)))
  unfold Cf wordsOf
  rw[if_pos hg,length_map]
  cases hasN (kindOf fi).2<;>rfl
 .rw[OY hg]
  refine Ag (Ax (k:=true) (J9 (evv 1) rfl) (λ_=>Ag (Ap (A2 Ab ?_))) nofun)
  unfold Cf
  rw[if_neg hg]
def AI(q:Bool×Bool×Bool):PyData:=.tuple [.bool q.1,.bool q.2.1,.bool q.2.2]
def SU(q:Bool×Bool×Bool)(r:Int):Bool:=if r=0 then q.1 else if r=1 then q.2.1 else q.2.2
def Ay(ps:List (Bool×Bool×Bool))(c r:Int):Bool:=decide (0<=c)&&decide (c<16*(ps.length:Int))&&SU (ps.getD (c/16).toNat (false,false,false)) r
theorem Lc{ps:List (Bool×Bool×Bool)}{i:Int}(h0:0<=i)(h:i<ps.length):atI (ps.map AI) i=some (AI (ps.getD i.toNat (false,false,false))):=by
 have hi:i.toNat<ps.length:=by omega
 exact AF h0 (by simp[hi])
theorem MM{q:Bool×Bool×Bool}{r:Int}(h0:0<=r)(h1:r<3):atI [PyData.bool q.1,.bool q.2.1,.bool q.2.2] r=some (.bool (SU q r)):=by
 have h:r=0\/r=1\/r=2:=by omega
 rcases h with rfl|rfl|rfl<;>rfl
def Df(ds:List PyData)(d:PyData):Prop:=∃ps c r,ds=[.list (ps.map AI),.int c,.int r]/\ps.length<=8/\0<=r/\r<3/\d=.bool (Ay ps c r)
theorem K6(T:Txt mg)(D_is_below:DFn P w K mg base 1 "is_below" CG)(F:Fun K "has_right" "has_right" Ev f fd)(hm:mg "has_right"=some (.ref f)):DFn P w K mg base 2 "has_right" Df:=by
 refine F.data hm (by walk_at"b3") JU (λds d ⟨_,_,_,e,_⟩=>by rw[e];rfl) λcdv A outer s H E ds d hr ⟨ps,c,r,e,hp,h0,h1,e2⟩=>?_
 subst e e2
 have hlm:((map AI ps).length:Int)=ps.length:=by rw[length_map]
 by_cases hc:0<=c/\c<16*(ps.length:Int)
 .obtain⟨hc0,hc1⟩:=hc
  have i0:0<=c/16:=by omega
  have i1:c/16<ps.length:=by omega
  refine Ag (Ap (Cj (k:=true) (A2 (An D_is_below (by walk_at"rm") rfl (Aa (evv 1) (Aa (Ac (T.g_page_cells rfl) (Au "len" (Aa (evv 0) Ad) (by walk_at"cd") rfl T.b_len (by decide+kernel)) (by walk_at"od")) Ad)) (by walk_at"fn")) (by rw[hlm,show Ey (.int c) (16*(ps.length:Int))=(decide (0<=c)&&decide (c<16*(ps.length:Int)))from rfl,decide_eq_true hc0,decide_eq_true hc1];rfl)) (λ_=>Dt ?_) nofun))
  refine A2 (AK (A2 (As (evv 0) (Ac (evv 1) (T.g_page_cells rfl) (by walk_at"od")) (Lc i0 i1)) (show _=tuple [_,_,_]from rfl)) (evv 2) (MM h0 h1)) ?_
  unfold Ay
  rw[decide_eq_true hc0,decide_eq_true hc1]
  rfl
 .have hb:(decide (0<=c)&&decide (c<16*(ps.length:Int)))=false:=by
   rw[Bool.eq_false_iff]
   intro z
   rw[and_eq_true]at z
   exact hc ⟨of_decide_eq_true z.1,of_decide_eq_true z.2⟩
  refine Ag (Ap (Cj (k:=false) (A2 (An D_is_below (by walk_at"rm") rfl (Aa (evv 1) (Aa (Ac (T.g_page_cells rfl) (Au "len" (Aa (evv 0) Ad) (by walk_at"cd") rfl T.b_len (by decide+kernel)) (by walk_at"od")) Ad)) (by walk_at"fn")) (by rw[hlm,show Ey (.int c) (16*(ps.length:Int))=(decide (0<=c)&&decide (c<16*(ps.length:Int)))from rfl,hb])) nofun (λ_=>?_)))
  unfold Ay
  rw[hb]
  rfl
def HP(r:Int)(ds:List PyData)(d:PyData):Prop:=∃ps c,ds=[.list (ps.map AI),.int c]/\ps.length<=8/\d=.bool (Ay ps c r)
theorem LH(D_has_right:DFn P w K mg base 2 "has_right" Df)(F:Fun K "may_read" "may_read" Fj f fd)(hm:mg "may_read"=some (.ref f)):DFn P w K mg base 3 "may_read" (HP 0):=by
 refine F.data hm (by walk_at"b2") Lk (λds d ⟨_,_,e,_⟩=>by rw[e];rfl) λcdv A outer s H E ds d hr ⟨ps,c,e,hp,e2⟩=>?_
 subst e e2
 exact Ag (Ap (An D_has_right (by walk_at"rm") rfl (Aa (evv 0) (Aa (evv 1) (Aa Ab Ad))) ⟨ps,c,0,rfl,hp,by decide,by decide,rfl⟩))
theorem Lb(D_has_right:DFn P w K mg base 2 "has_right" Df)(F:Fun K "may_write" "may_write" Eh f fd)(hm:mg "may_write"=some (.ref f)):DFn P w K mg base 3 "may_write" (HP 1):=by
 refine F.data hm (by walk_at"b2") J1 (λds d ⟨_,_,e,_⟩=>by rw[e];rfl) λcdv A outer s H E ds d hr ⟨ps,c,e,hp,e2⟩=>?_
 subst e e2
 exact Ag (Ap (An D_has_right (by walk_at"rm") rfl (Aa (evv 0) (Aa (evv 1) (Aa Ab Ad))) ⟨ps,c,1,rfl,hp,by decide,by decide,rfl⟩))
theorem Oc(D_has_right:DFn P w K mg base 2 "has_right" Df)(F:Fun K "may_run" "may_run" G8 f fd)(hm:mg "may_run"=some (.ref f)):DFn P w K mg base 3 "may_run" (HP 2):=by
 refine F.data hm (by walk_at"b2") Md (λds d ⟨_,_,e,_⟩=>by rw[e];rfl) λcdv A outer s H E ds d hr ⟨ps,c,e,hp,e2⟩=>?_
 subst e e2
 exact Ag (Ap (An D_has_right (by walk_at"rm") rfl (Aa (evv 0) (Aa (evv 1) (Aa Ab Ad))) ⟨ps,c,2,rfl,hp,by decide,by decide,rfl⟩))
local macro_rules| `(tactic|walk_at"nk")=>`(tactic|first|decide|(simp only[map_append,map_cons,map_nil,nil_append,cons_append,length_append,length_cons,length_nil];decide))
def okW(l:List Int):Bool:=l.all λi=>decide (0<=i)&&decide (i<4096)
def S9(ds:List PyData)(d:PyData):Prop:=∃(l:List Int) (m:Int),l.length<=100000/\ds=[.list (l.map int),.int m]/\d=.bool (decide ((l.length:Int)=m)&&okW l)
theorem Bo(i j:Int):eqv (.int i) (.int j)=decide (i=j):=by
 simp only[eqv]
 rfl
theorem Kw(T:Txt mg)(D_is_word:DFn P w K mg base 2 "is_word" EF)(F:Fun K "are_words" "are_words" E3 f fd)(hm:mg "are_words"=some (.ref f)):DFn P w K mg base 3 "are_words" S9:=by
 refine F.data hm (by walk_at"b2") J2 (λds d ⟨_,_,_,e,_⟩=>by rw[e];rfl) λcdv A outer s H E ds d hr ⟨l,m,hl,e,e2⟩=>?_
 subst e e2
 refine Ag (Ap (Cj (k:=decide ((l.length:Int)=m)) (A2 (AX (Au "len" (Aa (evv 0) Ad) (by walk_at"cd") rfl T.b_len (by decide+kernel)) (evv 1) (by walk_at"od") (Af _)) (by rw[Bo,length_map])) (λh=>Dt (A2 (Au "all" (ds:=[.list ((l.map λi=>decide (0<=i)&&decide (i<4096)).map PyData.bool)]) (Aa (A2 (GX (ix:=[]) (N:=["thing"]) (B:=bind1) (as:=l) (D:=int) (λ_=>true) (λi=>PyData.bool (decide (0<=i)&&decide (i<4096))) rfl (of_decide_eq_true (by kernel_rfl)) (Ct (by decide)) (FA (evv 0)) (by rw[sizeLine_eq];omega) (λ_ _=>JO _) (λ_ _ _ _ _=>Aw (i:=0) (show Nodup (["thing"]:List Str) by decide+kernel) rfl (inl rfl)) (λa ha cl C s H fp=>II) (λa ha hP cl C s H fp=>An D_is_word (by walk_at"rm") rfl (Aa (evv 0) Ad) ⟨a,rfl,rfl⟩)) (by rw[BP,map_map];rfl)) Ad) (JV rfl) rfl T.b_all (by decide+kernel)) ?_)) ?_))
 .rw[h,Bool.true_and,all_map]
  rfl
 .intro h
  rw[h]
  rfl
theorem Kk(n:Nat):(decide ((1:Int)<=(n:Int))&&decide ((n:Int)<=8))=decide (1<=n/\n<=8):=by
 by_cases h1:1<=n<;>by_cases h2:n<=8<;>simp[h1,h2]<;>omega
structure MS where
 pg:List (Bool×Bool×Bool)
 mem:List Int
 bx:List Int
 here:Int
 tz:Bool
 tl:Bool
 told:List Int
 sto:List Int
 done:Int
structure MsOk(S:MS):Prop where
 p1:1<=S.pg.length
 p8:S.pg.length<=8
 ml:S.mem.length=16*S.pg.length
 mw:∀z∈S.mem,0<=z/\z<4096
 bl:S.bx.length=4
 bw:∀z∈S.bx,0<=z/\z<4096
 h:0<=S.here/\S.here<4096
def lfM(S:MS):LF:=[("rights",S.pg.map AI),("memory",S.mem.map int),("box_words",S.bx.map int),("told_words",S.told.map int),("stored_cells",S.sto.map int)]
def dfM(S:MS):DF:=[("here",.int S.here),("truth_pair",.tuple [.bool S.tz,.bool S.tl]),("done_count",.int S.done)]
abbrev mcD(C:Addr)(S:MS):PyData:=objD C (fldD (lfM S) (dfM S))
theorem Px{l:List Int}(h:∀z∈l,0<=z/\z<4096):okW l=true:=by
 unfold okW
 rw[all_eq_true]
 intro z hz
 rw[and_eq_true,decide_eq_true_iff,decide_eq_true_iff]
 exact h z hz
theorem IB(T:Txt mg)(F:Fun K "check_pages" "check_pages" Di f fd)(hm:mg "check_pages"=some (.ref f)):DFn P w K mg base 1 "check_pages" (λds d=>(∃ps:List PyData,1<=ps.length/\ps.length<=8/\ds=[.list ps])/\d=.none):=by
 refine F.dataN hm (by walk_at"b1") HU (λds ⟨_,_,_,e⟩=>by rw[e];rfl) λcdv A outer s H E ds hr ⟨ps,h1,h8,e⟩=>?_
 subst e
 refine⟨_,Ai (Ax (k:=false) (AT (k:=true) (Am (Gh Ef Ef Ab (Au "len" (Aa (evv 0) Ad) (by walk_at"cd") rfl T.b_len (by decide+kernel)) Ab) ?_)) nofun (λ_=>Ar)) Ar⟩
 rw[Kk]
 exact decide_eq_true ⟨h1,h8⟩
def SK(ds:List PyData):Prop:=∃S:MS,MsOk S/\ds=[.list (S.pg.map AI),.list (S.mem.map int),.list (S.bx.map int),.int S.here]
theorem IF(T:Txt mg)(D_check_pages:DFn P w K mg base 1 "check_pages" (λds d=>(∃ps:List PyData,1<=ps.length/\ps.length<=8/\ds=[.list ps])/\d=.none))(D_are_words:DFn P w K mg base 3 "are_words" S9)(D_is_word:DFn P w K mg base 2 "is_word" EF)(F:Fun K "check_state" "check_state" Dq f fd)(hm:mg "check_state"=some (.ref f)):DFn P w K mg base 4 "check_state" (λds d=>SK ds/\d=.none):=by
 refine F.dataN hm (F.binds λ_ _ _ _ _ _ us hl=>match us,hl with|[_,_,_,_],_=>rfl) Hr (λds ⟨_,_,e⟩=>by rw[e];rfl) λcdv A outer s H E ds hr ⟨S,ok,e⟩=>?_
 subst e
 have hlm:((S.pg.map AI).length:Int)=S.pg.length:=by rw[length_map]
 have h1:(decide ((S.mem.length:Int)=16*((S.pg.map AI).length:Int))&&okW S.mem)=true:=by rw[hlm,Px ok.mw,decide_eq_true (by have:=ok.ml;omega)];rfl
 have h2:(decide ((S.bx.length:Int)=4)&&okW S.bx)=true:=by rw[Px ok.bw,decide_eq_true (by have:=ok.bl;omega)];rfl
 have h3:Ey (.int S.here) 4096=true:=by simpa[Ey]using ok.h
 have l1:S.mem.length<=100000:=by have:=ok.ml;have:=ok.p8;omega
 have l2:S.bx.length<=100000:=by have:=ok.bl;omega
 refine⟨Bh ["pages","cells","boxes","place"] [.list (S.pg.map AI),.list (S.mem.map int),.list (S.bx.map int),.int S.here],Ai (Sf (An D_check_pages (d:=.none) (by walk_at"rm") rfl (Aa (evv 0) Ad) ⟨⟨_,by rw[length_map];exact ok.p1,by rw[length_map];exact ok.p8,rfl⟩,rfl⟩)) ?_⟩
 refine Ai (Ax (k:=false) (AT (k:=true) (AM (An D_are_words (by walk_at"rm") rfl (Aa (evv 1) (Aa (Ac (T.g_page_cells rfl) (Au "len" (Aa (evv 0) Ad) (by walk_at"cd") rfl T.b_len (by decide+kernel)) (by walk_at"od")) Ad)) ⟨S.mem,_,l1,rfl,by rw[h1]⟩))) nofun (λ_=>Ar)) ?_
 refine Ai (Ax (k:=false) (AT (k:=true) (AM (An D_are_words (by walk_at"rm") rfl (Aa (evv 2) (Aa Ab Ad)) ⟨S.bx,_,l2,rfl,by rw[h2]⟩))) nofun (λ_=>Ar)) ?_
 exact Ai (Ax (k:=false) (AT (k:=true) (AM (An D_is_word (by walk_at"rm") rfl (Aa (evv 3) Ad) ⟨_,rfl,by rw[h3]⟩))) nofun (λ_=>Ar)) Ar
structure ClsM(K:Frag)(mg:Str->Option Value)(C:Addr):Prop where
 cl:Cls K C
 n0:NoAttr K C "rights"
 n1:NoAttr K C "memory"
 n2:NoAttr K C "box_words"
 n3:NoAttr K C "here"
 n4:NoAttr K C "truth_pair"
 n5:NoAttr K C "told_words"
 n6:NoAttr K C "stored_cells"
 n7:NoAttr K C "done_count"
 at_:mg "Machine"=some (.ref C)
theorem A_:∀l:List Int,noLs (l.map int)=true
 |[]=>rfl
 |x::r=>by rw[map_cons];unfold noLs;rw[A_ r];rfl
theorem Jp:∀l:List (Bool×Bool×Bool),noLs (l.map AI)=true
 |[]=>rfl
 |x::r=>by rw[map_cons];unfold noLs;rw[Jp r];rfl
def R8(ds:List PyData)(lf:LF)(df:DF):Prop:=∃S:MS,MsOk S/\S.tz=false/\S.tl=false/\S.told=[]/\S.sto=[]/\S.done=0/\ds=[.list (S.pg.map AI),.list (S.mem.map int),.list (S.bx.map int),.int S.here]/\lf=lfM S/\df=dfM S
theorem Tr(T:Txt mg){C:Addr}(CM:ClsM K mg C)(D_check_state:DFn P w K mg base 4 "check_state" (λds d=>SK ds/\d=.none))(F:Fun K "__init__" "Machine.__init__" CO f fd)(hm:Mk K C f):OIFn P w K mg base 5 C R8:=by
 refine F.objI hm (F.binds λ_ _ _ _ _ _ us hl=>match us,hl with|[_,_,_,_,_],_=>rfl) GR (λds lf df ⟨_,_,_,_,_,_,_,e,_⟩=>by rw[e];rfl) λcdv A outer s H E a dx H0 ds lf df hr ⟨S,ok,e1,e2,e3,e4,e5,e,e6,e7⟩=>?_
 subst e e6 e7
 have ef:lfM S=([("rights",S.pg.map AI),("memory",S.mem.map int),("box_words",S.bx.map int),("told_words",[]),("stored_cells",[])]:LF):=by unfold lfM;rw[e3,e4];rfl
 have ed:dfM S=([("here",.int S.here),("truth_pair",.tuple [.bool false,.bool false]),("done_count",.int 0)]:DF):=by unfold dfM;rw[e1,e2,e5]
 rw[ef,ed]
 have l1:S.mem.length<=100000:=by have:=ok.ml;have:=ok.p8;omega
 refine BZ (Sx (An D_check_state (d:=.none) (by walk_at"rm") rfl (Aa (evv 1) (Aa (evv 2) (Aa (evv 3) (Aa (evv 4) Ad)))) ⟨⟨S,ok,rfl⟩,rfl⟩)) ?_
 refine BZ (HI CM.cl CM.n0 (pv 0) (AC (evv 1) rfl T.b_list) (Jp _) (by walk_at"nk") (by walk_at"nk") (by decide) (by walk_at"nk")) ?_
 refine BZ (HI CM.cl CM.n1 (pv 0) (AC (evv 2) rfl T.b_list) (A_ _) (by walk_at"nk") (by walk_at"nk") (by decide) (by walk_at"nk")) ?_
 refine BZ (HI CM.cl CM.n2 (pv 0) (AC (evv 3) rfl T.b_list) (A_ _) (by walk_at"nk") (by walk_at"nk") (by decide) (by walk_at"nk")) ?_
 refine BZ (LC CM.cl CM.n3 (pv 0) (evv 4) rfl (by walk_at"nk") (by walk_at"nk") (by decide) (by walk_at"nk")) ?_
 refine BZ (LC CM.cl CM.n4 (pv 0) (AW (ds:=[.bool false,.bool false]) (Aa EM (Aa EM Ad)) (by walk_at"sz")) rfl (by walk_at"nk") (by walk_at"nk") (by decide) (by walk_at"nk")) ?_
 refine BZ (HI CM.cl CM.n5 (pv 0) (DU (ws:=[]) Ad (by walk_at"sz")) rfl (by walk_at"nk") (by walk_at"nk") (by decide) (by walk_at"nk")) ?_
 refine BZ (HI CM.cl CM.n6 (pv 0) (DU (ws:=[]) Ad (by walk_at"sz")) rfl (by walk_at"nk") (by walk_at"nk") (by decide) (by walk_at"nk")) ?_
 exact BZ (LC CM.cl CM.n7 (pv 0) Ab rfl (by walk_at"nk") (by walk_at"nk") (by decide) (by walk_at"nk")) RH
end
variable{C:Addr}{S:MS}{x:Str}{pos2:Pos}{e:Expr}
section
theorem QT{i j:Int}:OD X (binaryOp .BitAnd) (.int i) (.int j) (.int (Builtin.bitAnd i j)):=E4 Ts λH=>.int _
theorem HW{α:Type}(l:List Nat)(g:Nat->α)(p:Nat×α->Bool):(l.zip (l.map g)).all p=l.all λc=>p (c,g c):=by
 induction l with
 |nil=>rfl
 |cons x r ih=>rw[map_cons,List.zip_cons_cons,all_cons,all_cons,ih]
theorem KO{α β:Type}(l:List Nat)(g:Nat->α)(p:Nat×α->β):(l.zip (l.map g)).map p=l.map λc=>p (c,g c):=by
 induction l with
 |nil=>rfl
 |cons x r ih=>rw[map_cons,List.zip_cons_cons,map_cons,map_cons,ih]
theorem GC{f s:Int}(s0:0<=s)(s1:s<4096)(h:Dd f 0):Dd f s:=by
 obtain⟨h1,h2⟩:=h
 refine⟨?_,?_⟩
 .rw[<-h1]
  unfold CN numsOf
  rw[HW,HW]
  congr 1
  funext c
  by_cases hc:c=110
  .subst hc
   show(decide (0<=s)&&decide (s<4096))=(decide ((0:Int)<=0)&&decide ((0:Int)<4096))
   rw[decide_eq_true s0,decide_eq_true s1]
   rfl
  .show(decide (0<=Bd c f s)&&decide (Bd c f s<BC c))=(decide (0<=Bd c f 0)&&decide (Bd c f 0<BC c))
   unfold Bd
   rw[if_neg hc,if_neg hc]
 .have e:AL (kindOf f).2 (numsOf f s)=AL (kindOf f).2 (numsOf f 0):=by
   unfold AL numsOf
   rw[KO,KO]
   congr 1
   refine map_congr_left λc _=>?_
   by_cases hc:c=110
   .subst hc
    show(0:Int)*s=0*0
    omega
   .show BW c*Bd c f s=BW c*Bd c f 0
    unfold Bd
    rw[if_neg hc,if_neg hc]
  rw[e]
  exact h2
def AB(m:List Int)(p:Int):Int:=m.getD p.toNat 0
def Bx(pg:List (Bool×Bool×Bool))(m:List Int)(p:Int):PyData:=
 if Ay pg p 2=false then .tuple [.str "run",.none]
 else if Cf (AB m p)=0 then .tuple [.str "row",.none]
 else if Cf (AB m p)=1 then .tuple [.str "",CV (AB m p) 0]
 else if Ay pg ((p+1)%4096) 2=false then .tuple [.str "run",.none]
 else .tuple [.str "",CV (AB m p) (AB m ((p+1)%4096))]
theorem DH{pg:List (Bool×Bool×Bool)}{c r:Int}(h:Ay pg c r=true):0<=c/\c<16*(pg.length:Int):=by
 unfold Ay at h
 rw[and_eq_true,and_eq_true,decide_eq_true_iff,decide_eq_true_iff]at h
 exact h.1
theorem Ie{S:MS}(ok:MsOk S)(p:Int):0<=AB S.mem p/\AB S.mem p<4096:=by
 unfold AB
 rw[getD_eq_getElem?_getD]
 cases e:S.mem[p.toNat]? with
 |none=>exact show(0:Int)<=0/\(0:Int)<4096 by decide
 |some y=>exact ok.mw y (mem_of_getElem? e)
theorem Oi{f:Int}(h:Cf f≠0):0<=f/\f<4096/\Dd f 0:=by
 unfold Cf at h
 by_cases g:0<=f/\f<4096/\Dd f 0
 .exact g
 .rw[if_neg g]at h;exact absurd rfl h
def IsRow(q:Str×Str)(nums:List Int)(j:Nat):Prop:=kinds[j]?=some q/\nums.length=q.2.cps.size/\CN q.2 nums=true
theorem IY{S:MS}(ok:MsOk S)(p:Int):(∃wd:Str,(wd="run"\/wd="row")/\Bx S.pg S.mem p=.tuple [.str wd,.none])\/∃j q nums,IsRow q nums j/\Bx S.pg S.mem p=.tuple [.str "",rowD q.1 nums]:=by
 unfold Bx
 split
 .exact .inl ⟨_,.inl rfl,rfl⟩
 .split
  .exact .inl ⟨_,.inr rfl,rfl⟩
  .rename_i hm
   obtain⟨f0,f1,fg⟩:=Oi hm
   have row:∀s,0<=s->s<4096->∃j q nums,IsRow q nums j/\tuple [.str "",CV (AB S.mem p) s]=.tuple [.str "",rowD q.1 nums]:=λs s0 s1=>by
    have g:=GC s0 s1 fg
    exact⟨_,_,_,⟨Fr f0 f1,by unfold numsOf;rw[length_map,length_toList],g.1⟩,by rw[Fa f0 f1 g]⟩
   split
   .exact .inr (row 0 (by decide) (by decide))
   .split
    .exact .inl ⟨_,.inl rfl,rfl⟩
    .exact .inr (row _ (Ie ok _).1 (Ie ok _).2)
def S8(ds:List PyData)(d:PyData):Prop:=∃S:MS,MsOk S/\ds=[.list (S.pg.map AI),.list (S.mem.map int),.int S.here]/\d=Bx S.pg S.mem S.here
theorem QP(T:Txt mg)(D_may_run:DFn P w K mg base 3 "may_run" (HP 2))(D_cells_from:DFn P w K mg base 4 "cells_from" Q8)(D_row_in:DFn P w K mg base 3 "row_in" Hv)(F:Fun K "row_at" "row_at" FL f fd)(hm:mg "row_at"=some (.ref f)):DFn P w K mg base 5 "row_at" S8:=by
 refine F.data hm (by walk_at"b3") sc_row_at (λds d ⟨_,_,e,_⟩=>by rw[e];rfl) λcdv A outer s H E ds d hr ⟨S,ok,e,e2⟩=>?_
 subst e
 have at_:∀{c:Int},Ay S.pg c 2=true->atI (S.mem.map int) c=some (.int (AB S.mem c)):=λ{c} h=>by
  have hh:=DH h
  exact Bf hh.1 (by have:=ok.ml;omega)
 have may:∀c:Int,∀b:Bool,Ay S.pg c 2=b->HP 2 [.list (S.pg.map AI),.int c] (.bool b):=λc b h=>⟨S.pg,c,rfl,ok.p8,by rw[h]⟩
 unfold Bx at e2
 cases hr1:Ay S.pg S.here 2 with
 |false=>
  rw[if_pos hr1]at e2
  subst e2
  exact Ag (Ax (k:=true) (AT (k:=false) (AM (An D_may_run (by walk_at"rm") rfl (Aa (evv 0) (Aa (evv 2) Ad)) (may _ _ hr1)))) (λ_=>Ag (Ap (AW (ds:=[.str "run",.none]) (Aa Ak (Aa Gr Ad)) (by walk_at"sz")))) nofun)
 |true=>
  rw[if_neg (by rw[hr1];decide)]at e2
  refine Ai (Ax (k:=false) (AT (k:=true) (AM (An D_may_run (by walk_at"rm") rfl (Aa (evv 0) (Aa (evv 2) Ad)) (may _ _ hr1)))) nofun (λ_=>Ar)) ?_
  refine Ai (AE (i:=3) (d:=.int (Cf (AB S.mem S.here))) sc_row_at.nd rfl (inl rfl) (An D_cells_from (by walk_at"rm") rfl (Aa (As (evv 1) (evv 2) (at_ hr1)) Ad) ⟨_,rfl,rfl⟩)) ?_
  have eqz:∀n m:Int,OD (cxOf CX0 P w K mg base ["pages","cells","place","many","second"] "row_at" (Ae FL) f cdv A outer s H E).nox (compareOp .Eq) (.int n) (.int m) (.bool (decide (n=m))):=λn m=>Bs (by walk_at"un") rfl rfl (by walk_at"dp") (Bo n m)
  by_cases h0:Cf (AB S.mem S.here)=0
  .rw[if_pos h0]at e2
   subst e2
   exact Ag (Ax (k:=true) (Am (Ah (evv 3) Ab (eqz _ _) (Af _)) (decide_eq_true h0)) (λ_=>Ag (Ap (AW (ds:=[.str "row",.none]) (Aa Ak (Aa Gr Ad)) (by walk_at"sz")))) nofun)
  .rw[if_neg h0]at e2
   refine Ai (Ax (k:=false) (Am (Ah (evv 3) Ab (eqz _ _) (Af _)) (decide_eq_false h0)) nofun (λ_=>Ar)) ?_
   by_cases h1:Cf (AB S.mem S.here)=1
   .rw[if_pos h1]at e2
    subst e2
    exact Ag (Ax (k:=true) (Am (Ah (evv 3) Ab (eqz _ _) (Af _)) (decide_eq_true h1)) (λ_=>Ag (Ap (AW (ds:=[.str "",CV (AB S.mem S.here) 0]) (Aa Ak (Aa (An D_row_in (by walk_at"rm") rfl (Aa (As (evv 1) (evv 2) (at_ hr1)) (Aa Ab Ad)) ⟨_,_,rfl,rfl⟩) Ad)) (by walk_at"sz")))) nofun)
   .rw[if_neg h1]at e2
    refine Ai (Ax (k:=false) (Am (Ah (evv 3) Ab (eqz _ _) (Af _)) (decide_eq_false h1)) nofun (λ_=>Ar)) ?_
    refine Ai (AE (i:=4) (d:=.int ((S.here+1)%4096)) sc_row_at.nd rfl (inl rfl) (Ac (Ac (evv 2) Ab (by walk_at"od")) Ab (by walk_at"od"))) ?_
    cases hr2:Ay S.pg ((S.here+1)%4096) 2 with
    |false=>
     rw[if_pos hr2]at e2
     subst e2
     exact Ag (Ax (k:=true) (AT (k:=false) (AM (An D_may_run (by walk_at"rm") rfl (Aa (evv 0) (Aa (evv 4) Ad)) (may _ _ hr2)))) (λ_=>Ag (Ap (AW (ds:=[.str "run",.none]) (Aa Ak (Aa Gr Ad)) (by walk_at"sz")))) nofun)
    |true=>
     rw[if_neg (by rw[hr2];decide)]at e2
     subst e2
     exact Ai (Ax (k:=false) (AT (k:=true) (AM (An D_may_run (by walk_at"rm") rfl (Aa (evv 0) (Aa (evv 4) Ad)) (may _ _ hr2)))) nofun (λ_=>Ar)) (Ag (Ap (AW (ds:=[.str "",CV (AB S.mem S.here) (AB S.mem ((S.here+1)%4096))]) (Aa Ak (Aa (An D_row_in (by walk_at"rm") rfl (Aa (As (evv 1) (evv 2) (at_ hr1)) (Aa (As (evv 1) (evv 4) (at_ hr2)) Ad)) ⟨_,_,rfl,rfl⟩) Ad)) (by walk_at"sz"))))
def rnames:List Str:=["add","sub","mul","and","xor","cmp"]
def resI(nm:Str)(x y:Int):Int:=if nm="add"then x+y else if nm="mul"then x*y else if nm="and"then Builtin.bitAnd x y else if nm="xor"then Builtin.bitXor x y else x-y
def lesI(nm:Str)(x y:Int):Bool:=if nm="add"then decide (x+y>4095)else(if nm="sub"\/nm="cmp"then decide (x<y)else false)
theorem Dh(a b:Str):eqv (.str a) (.str b)=decide (a=b):=by
 simp only[eqv]
 by_cases h:a=b
 .rw[decide_eq_true h,h];exact beq_self_eq_true b
 .rw[decide_eq_false h];exact beq_eq_false_iff_ne.mpr h
def P5(ds:List PyData)(d:PyData):Prop:=∃(nm:Str) (x y:Int),canLay0 (.str nm)=true/\0<=x/\x<4096/\0<=y/\y<4096/\ds=[.str nm,.int x,.int y]/\d=.int (resI nm x y)
theorem Kx(F:Fun K "result_of" "result_of" Dg f fd)(hm:mg "result_of"=some (.ref f)):DFn P w K mg base 1 "result_of" P5:=by
 refine F.data hm (by walk_at"b3") JR (λds d ⟨_,_,_,_,_,_,_,_,e,_⟩=>by rw[e];rfl) λcdv A outer s H E ds d hr ⟨nm,x,y,hcl,x0,x1,y0,y1,e,e2⟩=>?_
 subst e
 unfold resI at e2
 have eqz:∀m:Str,canLay0 (.str m)=true->OD (cxOf CX0 P w K mg base ["name","x","y"] "result_of" (Ae Dg) f cdv A outer s H E).nox (compareOp .Eq) (.str nm) (.str m) (.bool (decide (nm=m))):=λm hm=>Bs (by walk_at"un") hcl hm (by walk_at"dp") (Dh nm m)
 by_cases h1:nm="add"
 .rw[if_pos h1]at e2
  subst e2
  exact Ag (Ax (k:=true) (Am (Ah (evv 0) Ak (eqz _ (by decide+kernel)) (Af _)) (decide_eq_true h1)) (λ_=>Ag (Ap (Ac (evv 1) (evv 2) (by walk_at"od")))) nofun)
 rw[if_neg h1]at e2
 refine Ai (Ax (k:=false) (Am (Ah (evv 0) Ak (eqz _ (by decide+kernel)) (Af _)) (decide_eq_false h1)) nofun (λ_=>Ar)) ?_
 by_cases h2:nm="mul"
 .rw[if_pos h2]at e2
  subst e2
  exact Ag (Ax (k:=true) (Am (Ah (evv 0) Ak (eqz _ (by decide+kernel)) (Af _)) (decide_eq_true h2)) (λ_=>Ag (Ap (Ac (evv 1) (evv 2) (Dw (inl ⟨by omega,by omega⟩))))) nofun)
 rw[if_neg h2]at e2
 refine Ai (Ax (k:=false) (Am (Ah (evv 0) Ak (eqz _ (by decide+kernel)) (Af _)) (decide_eq_false h2)) nofun (λ_=>Ar)) ?_
 by_cases h3:nm="and"
 .rw[if_pos h3]at e2
  subst e2
  exact Ag (Ax (k:=true) (Am (Ah (evv 0) Ak (eqz _ (by decide+kernel)) (Af _)) (decide_eq_true h3)) (λ_=>Ag (Ap (Ac (evv 1) (evv 2) QT))) nofun)
 rw[if_neg h3]at e2
 refine Ai (Ax (k:=false) (Am (Ah (evv 0) Ak (eqz _ (by decide+kernel)) (Af _)) (decide_eq_false h3)) nofun (λ_=>Ar)) ?_
 by_cases h4:nm="xor"
 .rw[if_pos h4]at e2
  subst e2
  exact Ag (Ax (k:=true) (Am (Ah (evv 0) Ak (eqz _ (by decide+kernel)) (Af _)) (decide_eq_true h4)) (λ_=>Ag (Ap (Ac (evv 1) (evv 2) (by walk_at"od")))) nofun)
 rw[if_neg h4]at e2
 subst e2
 exact Ai (Ax (k:=false) (Am (Ah (evv 0) Ak (eqz _ (by decide+kernel)) (Af _)) (decide_eq_false h4)) nofun (λ_=>Ar)) (Ag (Ap (Ac (evv 1) (evv 2) (by walk_at"od"))))
def P0(ds:List PyData)(d:PyData):Prop:=∃(nm:Str) (x y:Int),canLay0 (.str nm)=true/\ds=[.str nm,.int x,.int y]/\d=.bool (lesI nm x y)
theorem R9(nm:Str):([str "sub",.str "cmp"].any λe=>eqv e (.str nm))=decide (nm="sub"\/nm="cmp"):=by
 simp only[any_cons,any_nil,Bool.or_false,Dh]
 by_cases h1:nm="sub"<;>by_cases h2:nm="cmp"<;>simp[h1,h2,eq_comm]
theorem OM(F:Fun K "less_of" "less_of" Dz f fd)(hm:mg "less_of"=some (.ref f)):DFn P w K mg base 1 "less_of" P0:=by
 refine F.data hm (by walk_at"b3") LG (λds d ⟨_,_,_,_,e,_⟩=>by rw[e];rfl) λcdv A outer s H E ds d hr ⟨nm,x,y,hcl,e,e2⟩=>?_
 subst e
 unfold lesI at e2
 have eqz:∀m:Str,canLay0 (.str m)=true->OD (cxOf CX0 P w K mg base ["name","x","y"] "less_of" (Ae Dz) f cdv A outer s H E).nox (compareOp .Eq) (.str nm) (.str m) (.bool (decide (nm=m))):=λm hm=>Bs (by walk_at"un") hcl hm (by walk_at"dp") (Dh nm m)
 by_cases h1:nm="add"
 .rw[if_pos h1]at e2
  subst e2
  exact Ag (Ax (k:=true) (Am (Ah (evv 0) Ak (eqz _ (by decide+kernel)) (Af _)) (decide_eq_true h1)) (λ_=>Ag (Ap (AX (Ac (evv 1) (evv 2) (by walk_at"od")) Ab (by walk_at"od") (Af _)))) nofun)
 rw[if_neg h1]at e2
 refine Ai (Ax (k:=false) (Am (Ah (evv 0) Ak (eqz _ (by decide+kernel)) (Af _)) (decide_eq_false h1)) nofun (λ_=>Ar)) ?_
 have hin:OD (cxOf CX0 P w K mg base ["name","x","y"] "less_of" (Ae Dz) f cdv A outer s H E).nox (compareOp .In) (.str nm) (.tuple [.str "sub",.str "cmp"]) (.bool (decide (nm="sub"\/nm="cmp"))):=R9 nm▸FV (.inr rfl) rfl rfl rfl
 by_cases h2:nm="sub"\/nm="cmp"
 .rw[if_pos h2]at e2
  subst e2
  exact Ag (Ap (Cj (k:=true) (A2 (AX (evv 0) (AW (ds:=[.str "sub",.str "cmp"]) (Aa Ak (Aa Ak Ad)) (by walk_at"sz")) hin (by with_unfolding_all rfl)) (by rw[decide_eq_true h2])) (λ_=>Dt (AX (evv 1) (evv 2) (by walk_at"od") (Af _))) nofun))
 .rw[if_neg h2]at e2
  subst e2
  exact Ag (Ap (Cj (k:=false) (A2 (AX (evv 0) (AW (ds:=[.str "sub",.str "cmp"]) (Aa Ak (Aa Ak Ad)) (by walk_at"sz")) hin (by with_unfolding_all rfl)) (by rw[decide_eq_false h2])) nofun (λ_=>rfl)))
def brB(k:Int)(z l:Bool):Bool:=if k=0 then z else if k=1 then !z else if k=2 then l else !l
def Uj(ds:List PyData)(d:PyData):Prop:=∃(k:Int) (z l:Bool),0<=k/\k<4/\ds=[.int k,.tuple [.bool z,.bool l]]/\d=.bool (brB k z l)
theorem SI{k:Int}{z l:Bool}(h0:0<=k)(h1:k<4):atI [PyData.bool z,.bool (!z),.bool l,.bool (!l)] k=some (.bool (brB k z l)):=by
 have h:k=0\/k=1\/k=2\/k=3:=by omega
 rcases h with rfl|rfl|rfl|rfl<;>rfl
theorem IG(F:Fun K "branch_goes" "branch_goes" Dm f fd)(hm:mg "branch_goes"=some (.ref f)):DFn P w K mg base 1 "branch_goes" Uj:=by
 refine F.data hm (by walk_at"b2") sc_branch_goes (λds d ⟨_,_,_,_,_,e,_⟩=>by rw[e];rfl) λcdv A outer s H E ds d hr ⟨k,z,l,k0,k1,e,e2⟩=>?_
 subst e e2
 refine Ai (G1:=[some (.int k),some (.tuple [.bool z,.bool l]),some (.bool z),some (.bool l)]) (Q0 (k:=0) (B:=Nu [2,3]) (evv 1) (Dl rfl (A5 (Aw (i:=2) sc_branch_goes.nd rfl (by first|exact inl rfl|exact Or.inr rfl)) (A5 (Aw (i:=3) sc_branch_goes.nd rfl (by first|exact inl rfl|exact Or.inr rfl)) BT))) (JW [2,3] _ rfl) rfl) ?_
 exact Ag (Ap (AK (AW (ds:=[.bool z,.bool (!z),.bool l,.bool (!l)]) (Aa (evv 2) (Aa (Gs (evv 2)) (Aa (evv 3) (Aa (Gs (evv 3)) Ad)))) (by walk_at"sz")) (evv 0) (SI k0 k1)))
theorem ET{nm:Str}{nums:List Int}{i:Nat}{k:Int}(hk:k=(i:Int)+1)(h:i<nums.length):atI (str nm::nums.map int) k=some (.int (nums.getD i 0)):=by
 subst hk
 refine AF (by omega) ?_
 rw[show((i:Int)+1).toNat=i+1 by omega,List.getElem?_cons_succ,getElem?_map,getD_eq_getElem?_getD,getElem?_eq_getElem h]
 rfl
theorem TB{ps:Str}{nums:List Int}{i:Nat}(h:CN ps nums=true)(hl:nums.length=ps.cps.size)(hc:ps.cps.toList[i]?=some c):i<nums.length/\0<=nums.getD i 0/\nums.getD i 0<BC c:=by
 have hi:i<ps.cps.toList.length:=(List.getElem?_eq_some_iff.mp hc).1
 have hi2:i<nums.length:=by rw[hl,<-length_toList];exact hi
 refine⟨hi2,?_⟩
 unfold CN at h
 rw[all_eq_true]at h
 have hm:(c,nums.getD i 0)∈ps.cps.toList.zip nums:=by
  refine mem_of_getElem? (i:=i) ?_
  rw[List.getElem?_zip_eq_some]
  refine⟨hc,?_⟩
  rw[getD_eq_getElem?_getD,getElem?_eq_getElem hi2]
  rfl
 have:=h _ hm
 rw[and_eq_true,decide_eq_true_iff,decide_eq_true_iff]at this
 exact this
theorem JX:∀q∈kinds,(q.1="load"\/q.1="store")->q.2="xym":=by decide+kernel
theorem Kq:∀q∈kinds,(q.1="set"\/q.1="call")->q.2="xn":=by decide+kernel
theorem M_:∀q∈kinds,q.1="jump"->q.2="n":=by decide+kernel
theorem IX:∀q∈kinds,q.1="branch"->q.2="kn":=by decide+kernel
theorem UE:∀q∈kinds,(q.1="back"\/q.1="out")->q.2="x":=by decide+kernel
theorem SZ:∀q∈kinds,(q.1="move"\/q.1∈rnames)->q.2="xy":=by decide+kernel
theorem HN:∀q∈kinds,canLay0 (.str q.1)=true:=by decide+kernel
theorem IsRow.mem{nums:List Int}{j:Nat}(h:IsRow q nums j):q∈kinds:=List.mem_of_getElem? h.1
theorem IsRow.num{nums:List Int}{j i:Nat}{ps:Str}(h:IsRow q nums j)(e:q.2=ps)(hc:ps.cps.toList[i]?=some c):i<nums.length/\0<=nums.getD i 0/\nums.getD i 0<BC c:=TB (e▸h.2.2) (e▸h.2.1) hc
def boxM(S:MS)(x:Int):Int:=S.bx.getD x.toNat 0
def Bt(S:MS)(nums:List Int):Int:=(boxM S (nums.getD 1 0)+nums.getD 2 0)%4096
def B3(S:MS)(nm:Str)(nums:List Int):Str:=if nm="stop"then "stop"else if nm="load"/\Ay S.pg (Bt S nums) 0=false then "read"else if nm="store"/\Ay S.pg (Bt S nums) 1=false then "write"else ""
def nextM(S:MS)(nm:Str)(nums:List Int)(b:Int):Int:=if nm="jump"\/nm="call"then nums.getLastD 0 else if nm="branch"/\brB (nums.getD 0 0) S.tz S.tl=true then nums.getD 1 0 else if nm="back"then boxM S (nums.getD 0 0)else b
theorem IS(S:MS):((.str "memory",.list (S.mem.map int)):PyData×PyData)∈fldD (lfM S) (dfM S):=mem_of_getElem? (i:=1) rfl
theorem FB(S:MS):((.str "box_words",.list (S.bx.map int)):PyData×PyData)∈fldD (lfM S) (dfM S):=mem_of_getElem? (i:=2) rfl
theorem P3(S:MS):((.str "told_words",.list (S.told.map int)):PyData×PyData)∈fldD (lfM S) (dfM S):=mem_of_getElem? (i:=3) rfl
theorem SN(S:MS):((.str "stored_cells",.list (S.sto.map int)):PyData×PyData)∈fldD (lfM S) (dfM S):=mem_of_getElem? (i:=4) rfl
theorem GH(S:MS):((.str "rights",.list (S.pg.map AI)):PyData×PyData)∈fldD (lfM S) (dfM S):=mem_of_getElem? (i:=0) rfl
theorem Ih(S:MS):((.str "here",.int S.here):PyData×PyData)∈fldD (lfM S) (dfM S):=mem_of_getElem? (i:=5) rfl
theorem Nj(S:MS):((.str "truth_pair",.tuple [.bool S.tz,.bool S.tl]):PyData×PyData)∈fldD (lfM S) (dfM S):=mem_of_getElem? (i:=6) rfl
theorem Cb(ok:MsOk S){z:Int}(h0:0<=z)(h1:z<4):atI (S.bx.map int) z=some (.int (boxM S z)):=Bf h0 (by have:=ok.bl;omega)
theorem Ca(ok:MsOk S)(z:Int):0<=boxM S z/\boxM S z<4096:=by
 unfold boxM
 rw[getD_eq_getElem?_getD]
 cases e:S.bx[z.toNat]? with
 |none=>exact show(0:Int)<=0/\(0:Int)<4096 by decide
 |some y=>exact ok.bw y (mem_of_getElem? e)
theorem AS{nm m:Str}{nums:List Int}{p2 p3 p4:Pos}{k0 ci:Nat}(hu:X.A.units+64<cLine)(he:EV X G e (rowD nm nums))(hcl:canLay0 (.str nm)=true)(hm:canLay0 (.str m)=true):TV X G (.Compare (.Subscript e (.Constant (.int 0) k0 p2) p3) [.Eq] [.Constant (.str m) ci p4] pos) (decide (nm=m)):=
 Ah (AK (ds:=.str nm::nums.map int) he Ab (AF (by decide) rfl)) Ak (Bs hu hcl hm (by walk_at"dp") (Dh nm m)) (Af _)
def KS(C:Addr)(ds:List PyData)(d:PyData):Prop:=∃(S:MS) (q:Str×Str) (nums:List Int) (j:Nat),MsOk S/\IsRow q nums j/\q.2="xym"/\ds=[mcD C S,rowD q.1 nums]/\d=.int (Bt S nums)
theorem OE(CM:ClsM K mg C)(F:Fun K "address" "Machine.address" BQ f fd)(hm:Meth K C "address" f):MFn P w K mg base 1 C "address" (KS C):=by
 refine F.dataM hm (by walk_at"b2") EU (λds d ⟨_,_,_,_,_,_,_,e,_⟩=>by rw[e];rfl) λcdv A outer s H E ds d hr ⟨S,q,nums,j,ok,hr2,e0,e,e2⟩=>?_
 subst e e2
 have n1:=hr2.num (i:=1) (c:=121) e0 rfl
 have n2:=hr2.num (i:=2) (c:=109) e0 rfl
 exact Ag (Ap (Ac (Ac (As (A6 CM.cl CM.n2 (evv 0) (FB S)) (AK (evv 1) Ab (ET (i:=1) rfl n1.1)) (Cb ok n1.2.1 n1.2.2)) (AK (evv 1) Ab (ET (i:=2) rfl n2.1)) AH) Ab (A1 (by decide))))
theorem RO(S:MS)(nums:List Int):0<=Bt S nums/\Bt S nums<4096:=by
 unfold Bt
 omega
def SR(C:Addr)(ds:List PyData)(d:PyData):Prop:=∃(S:MS) (q:Str×Str) (nums:List Int) (j:Nat),MsOk S/\IsRow q nums j/\ds=[mcD C S,rowD q.1 nums]/\d=.str (B3 S q.1 nums)
theorem KL(CM:ClsM K mg C)(D_may_read:DFn P w K mg base 3 "may_read" (HP 0))(D_may_write:DFn P w K mg base 3 "may_write" (HP 1))(D_address:MFn P w K mg base 1 C "address" (KS C))(F:Fun K "hindrance" "Machine.hindrance" BB f fd)(hm:Meth K C "hindrance" f):MFn P w K mg base 4 C "hindrance" (SR C):=by
 refine F.dataM hm (by walk_at"b2") Er (λds d ⟨_,_,_,_,_,_,e,_⟩=>by rw[e];rfl) λcdv A outer s H E ds d hr ⟨S,q,nums,j,ok,hr2,e,e2⟩=>?_
 subst e
 have hcl:=HN q hr2.mem
 unfold B3 at e2
 by_cases h1:q.1="stop"
 .rw[if_pos h1]at e2
  subst e2
  exact Ag (Ax (k:=true) (Am (AS (by walk_at"un") (evv 1) hcl (by decide+kernel)) (decide_eq_true h1)) (λ_=>Ag (Ap Ak)) nofun)
 rw[if_neg h1]at e2
 refine Ai (Ax (k:=false) (Am (AS (by walk_at"un") (evv 1) hcl (by decide+kernel)) (decide_eq_false h1)) nofun (λ_=>Ar)) ?_
 by_cases h2:q.1="load"
 .have e0:=JX q hr2.mem (.inl h2)
  have hns:¬(q.1="store"/\Ay S.pg (Bt S nums) 1=false):=λz=>by have:=z.1;rw[h2]at this;exact absurd this (by decide)
  cases hb:Ay S.pg (Bt S nums) 0 with
  |false=>
   rw[if_pos ⟨h2,hb⟩]at e2
   subst e2
   exact Ag (Ax (k:=true) (Am (Bn (AY (k:=true) (k':=true) (Am (AS (by walk_at"un") (evv 1) hcl (by decide+kernel)) (decide_eq_true h2)) (λ_=>Bg (AT (k:=false) (AM (An D_may_read (by walk_at"rm") rfl (Aa (A6 CM.cl CM.n0 (evv 0) (GH S)) (Aa (BF CM.cl D_address (by walk_at"rm") (evv 0) (Aa (evv 1) Ad) ⟨S,q,nums,j,ok,hr2,e0,rfl,rfl⟩) Ad)) ⟨S.pg,_,rfl,ok.p8,by rw[hb]⟩)))))) rfl) (λ_=>Ag (Ap Ak)) nofun)
  |true=>
   rw[if_neg (λz=>by rw[hb]at z;exact absurd z.2 (by decide)),if_neg hns]at e2
   subst e2
   refine Ai (Ax (k:=false) (Am (Bn (AY (k:=true) (k':=false) (Am (AS (by walk_at"un") (evv 1) hcl (by decide+kernel)) (decide_eq_true h2)) (λ_=>Bg (AT (k:=true) (AM (An D_may_read (by walk_at"rm") rfl (Aa (A6 CM.cl CM.n0 (evv 0) (GH S)) (Aa (BF CM.cl D_address (by walk_at"rm") (evv 0) (Aa (evv 1) Ad) ⟨S,q,nums,j,ok,hr2,e0,rfl,rfl⟩) Ad)) ⟨S.pg,_,rfl,ok.p8,by rw[hb]⟩)))))) rfl) nofun (λ_=>Ar)) ?_
   have h3:¬q.1="store":=λz=>by rw[h2]at z;exact absurd z (by decide)
   exact Ai (Ax (k:=false) (Am (Bn (AY (k:=false) (k':=false) (Am (AS (by walk_at"un") (evv 1) hcl (by decide+kernel)) (decide_eq_false h3)) nofun)) rfl) nofun (λ_=>Ar)) (Ag (Ap Ak))
 rw[if_neg (λz=>h2 z.1)]at e2
 refine Ai (Ax (k:=false) (Am (Bn (AY (k:=false) (k':=false) (Am (AS (by walk_at"un") (evv 1) hcl (by decide+kernel)) (decide_eq_false h2)) nofun)) rfl) nofun (λ_=>Ar)) ?_
 by_cases h3:q.1="store"
 .have e0:=JX q hr2.mem (.inr h3)
  cases hb:Ay S.pg (Bt S nums) 1 with
  |false=>
   rw[if_pos ⟨h3,hb⟩]at e2
   subst e2
   exact Ag (Ax (k:=true) (Am (Bn (AY (k:=true) (k':=true) (Am (AS (by walk_at"un") (evv 1) hcl (by decide+kernel)) (decide_eq_true h3)) (λ_=>Bg (AT (k:=false) (AM (An D_may_write (by walk_at"rm") rfl (Aa (A6 CM.cl CM.n0 (evv 0) (GH S)) (Aa (BF CM.cl D_address (by walk_at"rm") (evv 0) (Aa (evv 1) Ad) ⟨S,q,nums,j,ok,hr2,e0,rfl,rfl⟩) Ad)) ⟨S.pg,_,rfl,ok.p8,by rw[hb]⟩)))))) rfl) (λ_=>Ag (Ap Ak)) nofun)
  |true=>
   rw[if_neg (λz=>by rw[hb]at z;exact absurd z.2 (by decide))]at e2
   subst e2
   exact Ai (Ax (k:=false) (Am (Bn (AY (k:=true) (k':=false) (Am (AS (by walk_at"un") (evv 1) hcl (by decide+kernel)) (decide_eq_true h3)) (λ_=>Bg (AT (k:=true) (AM (An D_may_write (by walk_at"rm") rfl (Aa (A6 CM.cl CM.n0 (evv 0) (GH S)) (Aa (BF CM.cl D_address (by walk_at"rm") (evv 0) (Aa (evv 1) Ad) ⟨S,q,nums,j,ok,hr2,e0,rfl,rfl⟩) Ad)) ⟨S.pg,_,rfl,ok.p8,by rw[hb]⟩)))))) rfl) nofun (λ_=>Ar)) (Ag (Ap Ak))
 rw[if_neg (λz=>h3 z.1)]at e2
 subst e2
 exact Ai (Ax (k:=false) (Am (Bn (AY (k:=false) (k':=false) (Am (AS (by walk_at"un") (evv 1) hcl (by decide+kernel)) (decide_eq_false h3)) nofun)) rfl) nofun (λ_=>Ar)) (Ag (Ap Ak))
theorem Pf(nm:Str):([str "jump",.str "call"].any λe=>eqv e (.str nm))=decide (nm="jump"\/nm="call"):=by
 simp only[any_cons,any_nil,Bool.or_false,Dh]
 by_cases h1:nm="jump"<;>by_cases h2:nm="call"<;>simp[h1,h2,eq_comm]
def SA(C:Addr)(ds:List PyData)(d:PyData):Prop:=∃(S:MS) (q:Str×Str) (nums:List Int) (j:Nat) (b:Int),MsOk S/\IsRow q nums j/\ds=[mcD C S,rowD q.1 nums,.int b]/\d=.int (nextM S q.1 nums b)
theorem JJ(CM:ClsM K mg C)(D_branch_goes:DFn P w K mg base 1 "branch_goes" Uj)(F:Fun K "next_place" "Machine.next_place" B4 f fd)(hm:Meth K C "next_place" f):MFn P w K mg base 2 C "next_place" (SA C):=by
 refine F.dataM hm (by walk_at"b3") Eg (λds d ⟨_,_,_,_,_,_,_,e,_⟩=>by rw[e];rfl) λcdv A outer s H E ds d hr ⟨S,q,nums,j,b,ok,hr2,e,e2⟩=>?_
 subst e
 have hcl:=HN q hr2.mem
 unfold nextM at e2
 by_cases h1:q.1="jump"\/q.1="call"
 .rw[if_pos h1]at e2
  subst e2
  have hp:0<nums.length:=by
   rcases h1 with h1|h1
   .exact(hr2.num (i:=0) (c:=110) (M_ q hr2.mem h1) rfl).1
   .exact(hr2.num (i:=0) (c:=120) (Kq q hr2.mem (.inr h1)) rfl).1
  exact Ag (Ax (k:=true) (Am (Ah (AK (ds:=.str q.1::nums.map int) (evv 1) Ab (AF (by decide) rfl)) (AW (ds:=[.str "jump",.str "call"]) (Aa Ak (Aa Ak Ad)) (by walk_at"sz")) (Pf q.1▸FV (.inr rfl) rfl rfl rfl) (by with_unfolding_all rfl)) (decide_eq_true h1)) (λ_=>Ag (Ap (AK (ds:=.str q.1::nums.map int) (evv 1) (QX Ab) (Jy hp)))) nofun)
 rw[if_neg h1]at e2
 refine Ai (Ax (k:=false) (Am (Ah (AK (ds:=.str q.1::nums.map int) (evv 1) Ab (AF (by decide) rfl)) (AW (ds:=[.str "jump",.str "call"]) (Aa Ak (Aa Ak Ad)) (by walk_at"sz")) (Pf q.1▸FV (.inr rfl) rfl rfl rfl) (by with_unfolding_all rfl)) (decide_eq_false h1)) nofun (λ_=>Ar)) ?_
 by_cases h2:q.1="branch"
 .have e0:=IX q hr2.mem h2
  have n0:=hr2.num (i:=0) (c:=107) e0 rfl
  have n1:=hr2.num (i:=1) (c:=110) e0 rfl
  have hnb:¬q.1="back":=λz=>by rw[h2]at z;exact absurd z (by decide)
  cases hb:brB (nums.getD 0 0) S.tz S.tl with
  |true=>
   rw[if_pos ⟨h2,hb⟩]at e2
   subst e2
   exact Ag (Ax (k:=true) (Am (Bn (AY (k:=true) (k':=true) (Am (AS (by walk_at"un") (evv 1) hcl (by decide+kernel)) (decide_eq_true h2)) (λ_=>Bg (Am (AM (An D_branch_goes (by walk_at"rm") rfl (Aa (AK (ds:=.str q.1::nums.map int) (evv 1) Ab (ET (i:=0) rfl n0.1)) (Aa (A6 CM.cl CM.n4 (evv 0) (Nj S)) Ad)) ⟨_,_,_,n0.2.1,n0.2.2,rfl,rfl⟩)) hb)))) rfl) (λ_=>Ag (Ap (AK (ds:=.str q.1::nums.map int) (evv 1) Ab (ET (i:=1) rfl n1.1)))) nofun)
  |false=>
   rw[if_neg (λz=>by rw[hb]at z;exact absurd z.2 (by decide)),if_neg hnb]at e2
   subst e2
   refine Ai (Ax (k:=false) (Am (Bn (AY (k:=true) (k':=false) (Am (AS (by walk_at"un") (evv 1) hcl (by decide+kernel)) (decide_eq_true h2)) (λ_=>Bg (Am (AM (An D_branch_goes (by walk_at"rm") rfl (Aa (AK (ds:=.str q.1::nums.map int) (evv 1) Ab (ET (i:=0) rfl n0.1)) (Aa (A6 CM.cl CM.n4 (evv 0) (Nj S)) Ad)) ⟨_,_,_,n0.2.1,n0.2.2,rfl,rfl⟩)) hb)))) rfl) nofun (λ_=>Ar)) ?_
   exact Ai (Ax (k:=false) (Am (AS (by walk_at"un") (evv 1) hcl (by decide+kernel)) (decide_eq_false hnb)) nofun (λ_=>Ar)) (Ag (Ap (evv 2)))
 rw[if_neg (λz=>h2 z.1)]at e2
 refine Ai (Ax (k:=false) (Am (Bn (AY (k:=false) (k':=false) (Am (AS (by walk_at"un") (evv 1) hcl (by decide+kernel)) (decide_eq_false h2)) nofun)) rfl) nofun (λ_=>Ar)) ?_
 by_cases h3:q.1="back"
 .have n0:=hr2.num (i:=0) (c:=120) (UE q hr2.mem (.inl h3)) rfl
  rw[if_pos h3]at e2
  subst e2
  exact Ag (Ax (k:=true) (Am (AS (by walk_at"un") (evv 1) hcl (by decide+kernel)) (decide_eq_true h3)) (λ_=>Ag (Ap (As (A6 CM.cl CM.n2 (evv 0) (FB S)) (AK (ds:=.str q.1::nums.map int) (evv 1) Ab (ET (i:=0) rfl n0.1)) (Cb ok n0.2.1 n0.2.2)))) nofun)
 rw[if_neg h3]at e2
 subst e2
 exact Ai (Ax (k:=false) (Am (AS (by walk_at"un") (evv 1) hcl (by decide+kernel)) (decide_eq_false h3)) nofun (λ_=>Ar)) (Ag (Ap (evv 2)))
def NC(C:Addr)(ds:List PyData)(d:PyData):Prop:=∃(S:MS) (c:Int),0<=c/\c<S.mem.length/\ds=[mcD C S,.int c]/\d=.int (AB S.mem c)
theorem Tu(CM:ClsM K mg C)(F:Fun K "peek" "Machine.peek" C_ f fd)(hm:Meth K C "peek" f):MFn P w K mg base 1 C "peek" (NC C):=by
 refine F.dataM hm (by walk_at"b2") GP (λds d ⟨_,_,_,_,e,_⟩=>by rw[e];rfl) λcdv A outer s H E ds d hr ⟨S,c,c0,c1,e,e2⟩=>?_
 subst e e2
 exact Ag (Ap (As (A6 CM.cl CM.n1 (evv 0) (IS S)) (evv 1) (Bf c0 c1)))
def Vf(C:Addr)(ds:List PyData)(d:PyData):Prop:=∃S:MS,ds=[mcD C S]/\d=.list (S.sto.map int)
theorem Q1(T:Txt mg)(CM:ClsM K mg C)(F:Fun K "stored" "Machine.stored" Cd f fd)(hm:Meth K C "stored" f):MFn P w K mg base 1 C "stored" (Vf C):=by
 refine F.dataM hm (by walk_at"b1") FC (λds d ⟨_,e,_⟩=>by rw[e];rfl) λcdv A outer s H E ds d hr ⟨S,e,e2⟩=>?_
 subst e e2
 exact Ag (Ap (Dv (AC (A6 CM.cl CM.n6 (evv 0) (SN S)) rfl T.b_list)))
section
variable(S:MS)
theorem NT(v:Int):upD "here" (.int v) (dfM S)=dfM {S with here:=v}:=by
 unfold upD dfM
 simp only[map_cons,map_nil]
 rw[if_pos True.intro,if_neg (by decide),if_neg (by decide)]
theorem Ri(z l:Bool):upD "truth_pair" (.tuple [.bool z,.bool l]) (dfM S)=dfM {S with tz:=z,tl:=l}:=by
 unfold upD dfM
 simp only[map_cons,map_nil]
 rw[if_neg (by decide),if_pos True.intro,if_neg (by decide)]
theorem Nb(v:Int):upD "done_count" (.int v) (dfM S)=dfM {S with done:=v}:=by
 unfold upD dfM
 simp only[map_cons,map_nil]
 rw[if_neg (by decide),if_neg (by decide),if_pos True.intro]
theorem Qw(l:List Int):upL "memory" (l.map int) (lfM S)=lfM {S with mem:=l}:=by
 unfold upL lfM
 simp only[map_cons,map_nil]
 rw[if_neg (by decide),if_pos True.intro,if_neg (by decide),if_neg (by decide),if_neg (by decide)]
theorem Gg(l:List Int):upL "box_words" (l.map int) (lfM S)=lfM {S with bx:=l}:=by
 unfold upL lfM
 simp only[map_cons,map_nil]
 rw[if_neg (by decide),if_neg (by decide),if_pos True.intro,if_neg (by decide),if_neg (by decide)]
theorem MQ(l:List Int):upL "told_words" (l.map int) (lfM S)=lfM {S with told:=l}:=by
 unfold upL lfM
 simp only[map_cons,map_nil]
 rw[if_neg (by decide),if_neg (by decide),if_neg (by decide),if_pos True.intro,if_neg (by decide)]
theorem PL(l:List Int):upL "stored_cells" (l.map int) (lfM S)=lfM {S with sto:=l}:=by
 unfold upL lfM
 simp only[map_cons,map_nil]
 rw[if_neg (by decide),if_neg (by decide),if_neg (by decide),if_neg (by decide),if_pos True.intro]
theorem UH:(("memory":Str),S.mem.map int)∈lfM S:=mem_of_getElem? (i:=1) rfl
theorem Lj:(("box_words":Str),S.bx.map int)∈lfM S:=mem_of_getElem? (i:=2) rfl
theorem Uc:(("told_words":Str),S.told.map int)∈lfM S:=mem_of_getElem? (i:=3) rfl
theorem US:(("stored_cells":Str),S.sto.map int)∈lfM S:=mem_of_getElem? (i:=4) rfl
theorem QK:(("done_count":Str),int S.done)∈dfM S:=mem_of_getElem? (i:=2) rfl
theorem Pq:("here":Str)∈(dfM S).map (·.1):=mem_of_getElem? (i:=0) rfl
theorem SL:("truth_pair":Str)∈(dfM S).map (·.1):=mem_of_getElem? (i:=1) rfl
end
theorem Cq(l:List Int)(n:Nat)(v:Int):(l.map int).set n (.int v)=(l.set n v).map int:=by rw[map_set]
theorem FX(l:List Int)(v:Int):l.map int++[int v]=(l++[v]).map int:=by rw[map_append];rfl
def CL(S:MS)(c v:Int):MS:={S with mem:=S.mem.set c.toNat v,sto:=S.sto++[c]}
def DB(S:MS)(v:Int):MS:={S with told:=S.told++[v]}
def setB(S:MS)(x v:Int):MS:={S with bx:=S.bx.set x.toNat v}
def Ks(S:MS)(nm:Str)(nums:List Int):MS:=
 {S with tz:=decide (resI nm (boxM S (nums.getD 0 0)) (boxM S (nums.getD 1 0))%4096=0),tl:=lesI nm (boxM S (nums.getD 0 0)) (boxM S (nums.getD 1 0)),bx:=if nm="cmp"then S.bx else S.bx.set (nums.getD 0 0).toNat (resI nm (boxM S (nums.getD 0 0)) (boxM S (nums.getD 1 0))%4096)}
def HF(S:MS)(nm:Str)(nums:List Int)(b:Int):MS:=if nm="set"then setB S (nums.getD 0 0) (nums.getD 1 0)else if nm="move"then setB S (nums.getD 0 0) (boxM S (nums.getD 1 0))else if nm="load"then setB S (nums.getD 0 0) (AB S.mem (Bt S nums))else if nm="call"then setB S (nums.getD 0 0) b else S
abbrev FewM(S:MS):Prop:=S.sto.length<100000/\S.told.length<100000
def Nc(lf:LF)(df:DF)(ds:List PyData)(lf':LF)(df':DF):Prop:=∃(S:MS) (c v:Int),0<=c/\c<S.mem.length/\FewM S/\lf=lfM S/\df=dfM S/\ds=[.int c,.int v]/\lf'=lfM (CL S c v)/\df'=dfM (CL S c v)
abbrev De(F:LF->DF->List PyData->LF->DF->Prop):LF->DF->List PyData->PyData->LF->DF->Prop:=λlf df ds d lf' df'=>F lf df ds lf' df'/\d=.none
abbrev MZ(K:Frag)(R:OR)(S:MS):Hp->Prop:=Oz K R (lfM S) (dfM S)
theorem Bu{L:List Addr}{I I1 I2:Hp->Prop}{rs:List (Nat×Addr)}{G1:Gam}{st:Stmt}(h:PS X st (zN X.K L I rs G G1 I1))(e:I1=I2):PS X st (zN X.K L I rs G G1 I2):=e▸h
theorem Ut(CM:ClsM K mg C)(F:Fun K "poke" "Machine.poke" CK f fd)(hm:Meth K C "poke" f):OFn P w K mg base 1 C "poke" (De Nc):=by
 refine F.objN hm (by walk_at"b3") GL (λlf df ds lf' df' ⟨_,_,_,_,_,_,_,_,e,_⟩=>by rw[e];rfl) λcdv A outer s H E R lf df ds lf' df' hr hC ⟨S,c,v,c0,c1,few,e1,e2,e3,e4,e5⟩=>?_
 subst hC e1 e2 e3 e4 e5
 refine⟨none::Bh ["cell","word"] [.int c,.int v],At (Bu (I2:=MZ K R {S with mem:=S.mem.set c.toNat v}) (DJ CM.cl CM.n1 mem_cons_self (pv 0) (evv 2) rfl (evv 1) (UH S) c0 (by rw[length_map];exact c1)) (by rw[Cq,Qw];rfl)) ?_⟩
 exact At (Bu (I2:=MZ K R (CL S c v)) (IR CM.cl CM.n6 mem_cons_self (pv 0) (evv 1) rfl (US {S with mem:=S.mem.set c.toNat v}) (by rw[length_map,sizeLine_eq];have:=few.1;show S.sto.length<_;omega)) (by rw[FX,PL];rfl)) A7
def MX(lf:LF)(df:DF)(ds:List PyData)(lf':LF)(df':DF):Prop:=∃(S:MS) (v:Int),FewM S/\lf=lfM S/\df=dfM S/\ds=[.int v]/\lf'=lfM (DB S v)/\df'=dfM (DB S v)
theorem TD(CM:ClsM K mg C)(F:Fun K "tell" "Machine.tell" CH f fd)(hm:Meth K C "tell" f):OFn P w K mg base 1 C "tell" (De MX):=by
 refine F.objN hm (by walk_at"b2") GO (λlf df ds lf' df' ⟨_,_,_,_,_,e,_⟩=>by rw[e];rfl) λcdv A outer s H E R lf df ds lf' df' hr hC ⟨S,v,few,e1,e2,e3,e4,e5⟩=>?_
 subst hC e1 e2 e3 e4 e5
 exact⟨none::Bh ["word"] [.int v],At (Bu (I2:=MZ K R (DB S v)) (IR CM.cl CM.n5 mem_cons_self (pv 0) (evv 1) rfl (Uc S) (by rw[length_map,sizeLine_eq];have:=few.2;omega)) (by rw[FX,MQ];rfl)) A7⟩
theorem row3{nums:List Int}{j:Nat}(h:IsRow q nums j)(e:q.2="xy"):rowD q.1 nums=.tuple [.str q.1,.int (nums.getD 0 0),.int (nums.getD 1 0)]:=by
 have hl:nums.length=2:=by rw[h.2.1,e];rfl
 match nums,hl with
 |[a,b],_=>rfl
theorem RW(nm:Str):((rnames.map str).any λe=>eqv e (.str nm))=decide (nm∈rnames):=by
 rw[any_map]
 have:(λs:Str=>eqv (.str s) (.str nm))=λs=>decide (s=nm):=by funext s;exact Dh s nm
 show rnames.any (λs=>eqv (.str s) (.str nm))=_
 rw[this]
 induction rnames with
 |nil=>rfl
 |cons x r ih=>
  rw[any_cons,ih]
  by_cases h:x=nm
  .rw[decide_eq_true h,Bool.true_or,decide_eq_true (by rw[h];exact mem_cons_self)]
  .rw[decide_eq_false h,Bool.false_or]
   congr 1
   exact propext ⟨λz=>mem_cons_of_mem _ z,λz=>(mem_cons.mp z).resolve_left (λw=>h w.symm)⟩
theorem Em{nums:List Int}{j i:Nat}{ps:Str}{k:Int}(row:IsRow q nums j)(e0:q.2=ps)(hc:ps.cps.toList[i]?=some c)(hk:k=(i:Int)+1){k0:Nat}{p2 p3:Pos}(he:EV X G e (rowD q.1 nums)):EV X G (.Subscript e (.Constant (.int k) k0 p2) p3) (.int (nums.getD i 0)):=
 AK (ds:=.str q.1::nums.map int) he Ab (ET hk (row.num e0 hc).1)
def SB(lf:LF)(df:DF)(ds:List PyData)(lf':LF)(df':DF):Prop:=∃(S:MS) (q:Str×Str) (nums:List Int) (j:Nat),MsOk S/\IsRow q nums j/\q.1∈rnames/\lf=lfM S/\df=dfM S/\ds=[rowD q.1 nums]/\lf'=lfM (Ks S q.1 nums)/\df'=dfM (Ks S q.1 nums)
theorem P1(CM:ClsM K mg C)(D_result_of:DFn P w K mg base 1 "result_of" P5)(D_less_of:DFn P w K mg base 1 "less_of" P0)(F:Fun K "reckon" "Machine.reckon" Cm f fd)(hm:Meth K C "reckon" f):OFn P w K mg base 2 C "reckon" (De SB):=by
 refine F.objN hm (by walk_at"b2") sc_Machine_reckon (λlf df ds lf' df' ⟨_,_,_,_,_,_,_,_,_,e,_⟩=>by rw[e];rfl) λcdv A outer s H E R lf df ds lf' df' hr hC ⟨S,q,nums,j,ok,row,hq,e1,e2,e3,e4,e5⟩=>?_
 subst hC e1 e2 e3 e4 e5
 have e0:=SZ q row.mem (.inr hq)
 have n0:=row.num (i:=0) (c:=120) e0 rfl
 have n1:=row.num (i:=1) (c:=121) e0 rfl
 have hcl:=HN q row.mem
 have b0:=Ca ok (nums.getD 0 0)
 have b1:=Ca ok (nums.getD 1 0)
 have ne0:∀i:Nat,0<i->∀z∈[(0,R.a)],z.1≠i:=λi hi z hz=>by rw[mem_singleton.mp hz];exact ne_of_lt hi
 rw[row3 row e0]
 unfold Ks
 generalize nums.getD 0 0=x at n0 b0 ⊢
 generalize nums.getD 1 0=y at n1 b1 ⊢
 generalize q.1=nm at hcl ⊢
 generalize hrs:resI nm (boxM S x) (boxM S y)%4096=rs
 refine⟨[none,some (.tuple [.str nm,.int x,.int y]),some (.str nm),some (.int x),some (.int y),some (.int (boxM S x)),some (.int (boxM S y)),some (.int rs)],At (Sb (i:=2) (j:=3) (l:=4) (B2 oz_ok (evv 1) rfl) (Dl rfl (A5 (Aw (i:=2) sc_Machine_reckon.nd rfl (inl rfl)) (A5 (Aw (i:=3) sc_Machine_reckon.nd rfl (inl rfl)) (A5 (Aw (i:=4) sc_Machine_reckon.nd rfl (inl rfl)) BT)))) (ne0 2 (by decide)) (ne0 3 (by decide)) (ne0 4 (by decide))) ?_⟩
 refine At (B7 (i:=5) (d:=.int (boxM S x)) sc_Machine_reckon.nd rfl (by show 5∉[0];decide) (inl rfl) (E7 mem_cons_self (As (A6 CM.cl CM.n2 (evv 0) (FB S)) (evv 3) (Cb ok n0.2.1 n0.2.2)) rfl)) ?_
 refine At (B7 (i:=6) (d:=.int (boxM S y)) sc_Machine_reckon.nd rfl (by show 6∉[0];decide) (inl rfl) (E7 mem_cons_self (As (A6 CM.cl CM.n2 (evv 0) (FB S)) (evv 4) (Cb ok n1.2.1 n1.2.2)) rfl)) ?_
 refine At (B7 (i:=7) (d:=.int rs) sc_Machine_reckon.nd rfl (by show 7∉[0];decide) (inl rfl) (B2 oz_ok (A2 (Ac (An D_result_of (by walk_at"rm") rfl (Aa (evv 2) (Aa (evv 5) (Aa (evv 6) Ad))) ⟨nm,_,_,hcl,b0.1,b0.2,b1.1,b1.2,rfl,rfl⟩) Ab (A1 (by decide))) (by rw[hrs])) rfl)) ?_
 refine At (Bu (I2:=MZ K R {S with tz:=decide (rs=0),tl:=lesI nm (boxM S x) (boxM S y)}) (GW CM.cl CM.n4 mem_cons_self (pv 0) (AW (ds:=[.bool (decide (rs=0)),.bool (lesI nm (boxM S x) (boxM S y))]) (Aa (AX (evv 7) Ab (Bs (by walk_at"un") rfl rfl (by walk_at"dp") (Bo rs 0)) (Af _)) (Aa (An D_less_of (by walk_at"rm") rfl (Aa (evv 2) (Aa (evv 5) (Aa (evv 6) Ad))) ⟨nm,_,_,hcl,rfl,rfl⟩) Ad)) (by walk_at"sz")) rfl (SL S) (by decide)) (by rw[Ri];rfl)) ?_
 by_cases hc:nm="cmp"
 .rw[if_pos hc]
  exact At (Iu oz_ok (AQ oz_ok (Am (Ah (evv 2) Ak (Eo (by walk_at"un") hcl (by decide+kernel) (by walk_at"dp") (by rw[Dh])) (Af _)) (by rw[decide_eq_true hc];rfl)))) A7
 .rw[if_neg hc]
  refine At (Bm (k:=true) (AQ oz_ok (Am (Ah (evv 2) Ak (Eo (by walk_at"un") hcl (by decide+kernel) (by walk_at"dp") (by rw[Dh])) (Af _)) (by rw[decide_eq_false hc];rfl))) (λ_=>At (Bu (I2:=MZ K R {S with tz:=decide (rs=0),tl:=lesI nm (boxM S x) (boxM S y),bx:=S.bx.set x.toNat rs}) (DJ CM.cl CM.n2 mem_cons_self (pv 0) (evv 7) rfl (evv 3) (Lj {S with tz:=decide (rs=0),tl:=lesI nm (boxM S x) (boxM S y)}) n0.2.1 (by rw[length_map];have:=ok.bl;have:=n0.2.2;show x<(S.bx.length:Int);have h4:BC 120=4:=rfl;omega)) (by rw[Cq,Gg];rfl)) A7) nofun) A7
def SG(lf:LF)(df:DF)(ds:List PyData)(lf':LF)(df':DF):Prop:=∃(S:MS) (q:Str×Str) (nums:List Int) (j:Nat) (b:Int),MsOk S/\IsRow q nums j/\(q.1="load"->Ay S.pg (Bt S nums) 0=true)/\lf=lfM S/\df=dfM S/\ds=[rowD q.1 nums,.int b]/\lf'=lfM (HF S q.1 nums b)/\df'=dfM (HF S q.1 nums b)
theorem Uf(CM:ClsM K mg C)(D_peek:MFn P w K mg base 1 C "peek" (NC C))(D_address:MFn P w K mg base 1 C "address" (KS C))(F:Fun K "fill" "Machine.fill" CA f fd)(hm:Meth K C "fill" f):OFn P w K mg base 2 C "fill" (De SG):=by
 refine F.objN hm (by walk_at"b3") GQ (λlf df ds lf' df' ⟨_,_,_,_,_,_,_,_,_,_,e,_⟩=>by rw[e];rfl) λcdv A outer s H E R lf df ds lf' df' hr hC ⟨S,q,nums,j,b,ok,row,hld,e1,e2,e3,e4,e5⟩=>?_
 subst hC e1 e2 e3 e4 e5
 have hcl:=HN q row.mem
 have bl:=ok.bl
 have h4:BC 120=4:=rfl
 refine⟨none::Bh ["row","behind"] [rowD q.1 nums,.int b],?_⟩
 unfold HF
 by_cases h1:q.1="set"
 .rw[if_pos h1]
  have e0:=Kq q row.mem (.inl h1)
  have n0:=row.num (i:=0) (c:=120) e0 rfl
  refine At (Bm (k:=true) (AQ oz_ok (Am (AS (by walk_at"un") (evv 1) hcl (by decide+kernel)) (decide_eq_true h1))) (λ_=>At (Bu (I2:=MZ K R (setB S (nums.getD 0 0) (nums.getD 1 0))) (DJ CM.cl CM.n2 mem_cons_self (pv 0) (Em row (i:=1) (c:=110) e0 rfl rfl (evv 1)) rfl (Em row (i:=0) (c:=120) e0 rfl rfl (evv 1)) (Lj S) n0.2.1 (by rw[length_map];omega)) (by rw[Cq,Gg];rfl)) A7) nofun) A7
 rw[if_neg h1]
 refine At (Bm (k:=false) (AQ oz_ok (Am (AS (by walk_at"un") (evv 1) hcl (by decide+kernel)) (decide_eq_false h1))) nofun (λ_=>?_)) A7
 by_cases h2:q.1="move"
 .rw[if_pos h2]
  have e0:=SZ q row.mem (.inl h2)
  have n0:=row.num (i:=0) (c:=120) e0 rfl
  have n1:=row.num (i:=1) (c:=121) e0 rfl
  refine At (Bm (k:=true) (AQ oz_ok (Am (AS (by walk_at"un") (evv 1) hcl (by decide+kernel)) (decide_eq_true h2))) (λ_=>At (Bu (I2:=MZ K R (setB S (nums.getD 0 0) (boxM S (nums.getD 1 0)))) (DJ CM.cl CM.n2 mem_cons_self (pv 0) (As (A6 CM.cl CM.n2 (evv 0) (FB S)) (Em row (i:=1) (c:=121) e0 rfl rfl (evv 1)) (Cb ok n1.2.1 n1.2.2)) rfl (Em row (i:=0) (c:=120) e0 rfl rfl (evv 1)) (Lj S) n0.2.1 (by rw[length_map];omega)) (by rw[Cq,Gg];rfl)) A7) nofun) A7
 rw[if_neg h2]
 refine At (Bm (k:=false) (AQ oz_ok (Am (AS (by walk_at"un") (evv 1) hcl (by decide+kernel)) (decide_eq_false h2))) nofun (λ_=>?_)) A7
 by_cases h3:q.1="load"
 .rw[if_pos h3]
  have e0:=JX q row.mem (.inl h3)
  have n0:=row.num (i:=0) (c:=120) e0 rfl
  have ra:=DH (hld h3)
  have ml:=ok.ml
  refine At (Bm (k:=true) (AQ oz_ok (Am (AS (by walk_at"un") (evv 1) hcl (by decide+kernel)) (decide_eq_true h3))) (λ_=>At (Bu (I2:=MZ K R (setB S (nums.getD 0 0) (AB S.mem (Bt S nums)))) (DJ CM.cl CM.n2 mem_cons_self (pv 0) (BF CM.cl D_peek (by walk_at"rm") (evv 0) (Aa (BF CM.cl D_address (by walk_at"rm") (evv 0) (Aa (evv 1) Ad) ⟨S,q,nums,j,ok,row,e0,rfl,rfl⟩) Ad) ⟨S,_,ra.1,by omega,rfl,rfl⟩) rfl (Em row (i:=0) (c:=120) e0 rfl rfl (evv 1)) (Lj S) n0.2.1 (by rw[length_map];omega)) (by rw[Cq,Gg];rfl)) A7) nofun) A7
 rw[if_neg h3]
 refine At (Bm (k:=false) (AQ oz_ok (Am (AS (by walk_at"un") (evv 1) hcl (by decide+kernel)) (decide_eq_false h3))) nofun (λ_=>?_)) A7
 by_cases h4':q.1="call"
 .rw[if_pos h4']
  have e0:=Kq q row.mem (.inr h4')
  have n0:=row.num (i:=0) (c:=120) e0 rfl
  exact At (Bm (k:=true) (AQ oz_ok (Am (AS (by walk_at"un") (evv 1) hcl (by decide+kernel)) (decide_eq_true h4'))) (λ_=>At (Bu (I2:=MZ K R (setB S (nums.getD 0 0) b)) (DJ CM.cl CM.n2 mem_cons_self (pv 0) (evv 2) rfl (Em row (i:=0) (c:=120) e0 rfl rfl (evv 1)) (Lj S) n0.2.1 (by rw[length_map];omega)) (by rw[Cq,Gg];rfl)) A7) nofun) A7
 rw[if_neg h4']
 exact At (Iu oz_ok (AQ oz_ok (Am (AS (by walk_at"un") (evv 1) hcl (by decide+kernel)) (decide_eq_false h4')))) A7
def behM(S:MS)(q:Str×Str)(nums:List Int)(j:Nat):Int:=(S.here+(((wordsOf j q.2 nums).map int).length:Int))%4096
def goM(S:MS)(q:Str×Str)(nums:List Int)(j:Nat):MS:={S with here:=nextM S q.1 nums (behM S q nums j)}
def effM(S:MS)(q:Str×Str)(nums:List Int)(b:Int):MS:=if q.1∈rnames then Ks S q.1 nums else if q.1="store"then CL S (Bt S nums) (boxM S (nums.getD 0 0))else if q.1="out"then DB S (boxM S (nums.getD 0 0))else HF S q.1 nums b
def doM(S:MS)(q:Str×Str)(nums:List Int)(j:Nat):MS:={effM (goM S q nums j) q nums (behM S q nums j)with done:=(effM (goM S q nums j) q nums (behM S q nums j)).done+1}
theorem Hk(nm:Str)(nums:List Int):noL (rowD nm nums)=true:=by
 show(noL (.str nm)&&noLs (nums.map int))=true
 rw[A_]
 rfl
theorem Mw{nums:List Int}{n:Nat}(h:nums.length=n+1):nums.getLastD 0=nums.getD n 0:=by
 have h2:nums≠[]:=λz=>by rw[z]at h;cases h
 rw[List.getLastD_eq_getLast?,List.getLast?_eq_getElem?,getD_eq_getElem?_getD,h]
 rfl
theorem Se{nums:List Int}{j:Nat}(ok:MsOk S)(row:IsRow q nums j){b:Int}(hb:0<=b/\b<4096):0<=nextM S q.1 nums b/\nextM S q.1 nums b<4096:=by
 unfold nextM
 have h4:BC 110=4096:=rfl
 split
 .rename_i h
  rcases h with h|h
  .have e0:=M_ q row.mem h
   have n:=row.num (i:=0) (c:=110) e0 rfl
   rw[Mw (n:=0) (by rw[row.2.1,e0];rfl)]
   omega
  .have e0:=Kq q row.mem (.inr h)
   have n:=row.num (i:=1) (c:=110) e0 rfl
   rw[Mw (n:=1) (by rw[row.2.1,e0];rfl)]
   omega
 .split
  .rename_i h
   have n:=row.num (i:=1) (c:=110) (IX q row.mem h.1) rfl
   omega
  .split
   .exact Ca ok _
   .exact hb
theorem QC(S:MS)(q:Str×Str)(nums:List Int)(j:Nat):0<=behM S q nums j/\behM S q nums j<4096:=by
 unfold behM
 omega
theorem SO{nums:List Int}{j:Nat}(ok:MsOk S)(row:IsRow q nums j):MsOk (goM S q nums j):=⟨ok.p1,ok.p8,ok.ml,ok.mw,ok.bl,ok.bw,Se ok row (QC S q nums j)⟩
theorem Ot{nm:Str}{nums:List Int}(h:B3 S nm nums="")(e:nm="load"):Ay S.pg (Bt S nums) 0=true:=by
 unfold B3 at h
 rw[if_neg (λz=>by rw[e]at z;exact absurd z (by decide))]at h
 cases hb:Ay S.pg (Bt S nums) 0 with
 |true=>rfl
 |false=>rw[if_pos ⟨e,hb⟩]at h;exact absurd h (by decide)
theorem Mq{nm:Str}{nums:List Int}(h:B3 S nm nums="")(e:nm="store"):Ay S.pg (Bt S nums) 1=true:=by
 unfold B3 at h
 rw[if_neg (λz=>by rw[e]at z;exact absurd z (by decide)),if_neg (λz=>by have:=z.1;rw[e]at this;exact absurd this (by decide))]at h
 cases hb:Ay S.pg (Bt S nums) 1 with
 |true=>rfl
 |false=>rw[if_pos ⟨e,hb⟩]at h;exact absurd h (by decide)
theorem NN{nm:Str}{nums:List Int}{p2 p3 p4:Pos}{k0:Nat}(T:GTup X.K X.mg "RECKONING" ["add","sub","mul","and","xor","cmp"])(hg:Gl X "RECKONING")(he:EV X G e (rowD nm nums)):TV X G (.Compare (.Subscript e (.Constant (.int 0) k0 p2) p3) [.In] [.Name "RECKONING" p4] pos) (decide (nm∈rnames)):=
 Ah (AK (ds:=.str nm::nums.map int) he Ab (AF (by decide) rfl)) (JD T hg) (FV (.inr rfl) rfl rfl (RW nm)) (by with_unfolding_all rfl)
def UA(lf:LF)(df:DF)(ds:List PyData)(lf':LF)(df':DF):Prop:=∃(S:MS) (q:Str×Str) (nums:List Int) (j:Nat),MsOk S/\FewM S/\IsRow q nums j/\B3 S q.1 nums=""/\lf=lfM S/\df=dfM S/\ds=[rowD q.1 nums]/\lf'=lfM (doM S q nums j)/\df'=dfM (doM S q nums j)
theorem Vz(T:TxtR K mg w.params)(CM:ClsM K mg C)(D_cells_of:DFn P w K mg base 3 "cells_of" (λds d=>∃ws,JE ds ws/\d=.list ws))(D_next:MFn P w K mg base 2 C "next_place" (SA C))(D_address:MFn P w K mg base 1 C "address" (KS C))(D_reckon:OFn P w K mg base 2 C "reckon" (De SB))(D_poke:OFn P w K mg base 1 C "poke" (De Nc))(D_tell:OFn P w K mg base 1 C "tell" (De MX))(D_fill:OFn P w K mg base 2 C "fill" (De SG))(F:Fun K "do" "Machine.do" Ea f fd)(hm:Meth K C "do" f):OFn P w K mg base 4 C "do" (De UA):=by
 refine F.objN hm (by walk_at"b2") sc_Machine_do (λlf df ds lf' df' ⟨_,_,_,_,_,_,_,_,_,_,e,_⟩=>by rw[e];rfl) λcdv A outer s H E R lf df ds lf' df' hr hC ⟨S,q,nums,j,ok,few,row,hh,e1,e2,e3,e4,e5⟩=>?_
 subst hC e1 e2 e3 e4 e5
 have hcl:=HN q row.mem
 have ok1:=SO ok row
 have ml:=ok.ml
 refine⟨[none,some (rowD q.1 nums),some (.int (behM S q nums j))],At (B7 (i:=2) (d:=.int (behM S q nums j)) sc_Machine_do.nd rfl (by show 2∉[0];decide) (inl rfl) (E7 mem_cons_self (Ac (Ac (A6 CM.cl CM.n3 (evv 0) (Ih S)) (Au "len" (Aa (An D_cells_of (by walk_at"rm") rfl (Aa (evv 1) Ad) ⟨_,⟨j,q,nums,row.1,row.2.1,row.2.2,rfl,rfl⟩,rfl⟩) Ad) B1 rfl T.b_len (by decide+kernel)) AH) Ab (A1 (by decide))) rfl)) ?_⟩
 refine At (Bu (I2:=MZ K R (goM S q nums j)) (GW CM.cl CM.n3 mem_cons_self (pv 0) (BF CM.cl D_next (by walk_at"rm") (evv 0) (Aa (evv 1) (Aa (evv 2) Ad)) ⟨S,q,nums,j,_,ok,row,rfl,rfl⟩) rfl (Pq S) (by decide)) (by rw[NT];rfl)) ?_
 have few1:FewM (goM S q nums j):=few
 have ea:Bt (goM S q nums j) nums=Bt S nums:=rfl
 have eb:∀x,boxM (goM S q nums j) x=boxM S x:=λ_=>rfl
 refine At (I1:=MZ K R (effM (goM S q nums j) q nums (behM S q nums j))) ?mid (At (Bu (I2:=MZ K R (doM S q nums j)) (PY CM.cl CM.n7 mem_cons_self (pv 0) Ab (QK _) (by decide)) (by rw[Nb];rfl)) A7)
 unfold effM
 generalize hS:goM S q nums j=S1 at ok1 few1 ea eb
 have hpg:S1.pg=S.pg:=by rw[<-hS];rfl
 have hml:S1.mem.length=16*S1.pg.length:=ok1.ml
 by_cases h1:q.1∈rnames
 .rw[if_pos h1]
  exact Bm (k:=true) (AQ oz_ok (Am (NN T.t_reck rfl (evv 1)) (decide_eq_true h1))) (λ_=>At (Eb (DT CM.cl D_reckon (by walk_at"rm") mem_cons_self (pv 0) (BY (B2 oz_ok (evv 1) (Hk _ _)) Ga) ⟨⟨S1,q,nums,j,ok1,row,h1,rfl,rfl,rfl,rfl,rfl⟩,rfl⟩)) A7) nofun
 rw[if_neg h1]
 refine Bm (k:=false) (AQ oz_ok (Am (NN T.t_reck rfl (evv 1)) (decide_eq_false h1))) nofun (λ_=>?_)
 by_cases h2:q.1="store"
 .rw[if_pos h2]
  have e0:=JX q row.mem (.inr h2)
  have n0:=row.num (i:=0) (c:=120) e0 rfl
  have ra:=DH (Mq hh h2)
  exact At (Bm (k:=true) (AQ oz_ok (Am (AS (by walk_at"un") (evv 1) hcl (by decide+kernel)) (decide_eq_true h2))) (λ_=>At (Eb (DT CM.cl D_poke (by walk_at"rm") mem_cons_self (pv 0) (ND (ds:=[.int (Bt S1 nums),.int (boxM S1 (nums.getD 0 0))]) mem_cons_self (Aa (BF CM.cl D_address (by walk_at"rm") (evv 0) (Aa (evv 1) Ad) ⟨S1,q,nums,j,ok1,row,e0,rfl,rfl⟩) (Aa (As (A6 CM.cl CM.n2 (evv 0) (FB S1)) (Em row (i:=0) (c:=120) e0 rfl rfl (evv 1)) (Cb ok1 n0.2.1 n0.2.2)) Ad)) rfl) ⟨⟨S1,Bt S1 nums,boxM S1 (nums.getD 0 0),by rw[ea];exact ra.1,by rw[ea,hml,hpg];omega,few1,rfl,rfl,rfl,rfl,rfl⟩,rfl⟩)) A7) nofun) A7
 rw[if_neg h2]
 refine At (Bm (k:=false) (AQ oz_ok (Am (AS (by walk_at"un") (evv 1) hcl (by decide+kernel)) (decide_eq_false h2))) nofun (λ_=>?_)) A7
 by_cases h3:q.1="out"
 .rw[if_pos h3]
  have e0:=UE q row.mem (.inr h3)
  have n0:=row.num (i:=0) (c:=120) e0 rfl
  exact At (Bm (k:=true) (AQ oz_ok (Am (AS (by walk_at"un") (evv 1) hcl (by decide+kernel)) (decide_eq_true h3))) (λ_=>At (Eb (DT CM.cl D_tell (by walk_at"rm") mem_cons_self (pv 0) (ND (ds:=[.int (boxM S1 (nums.getD 0 0))]) mem_cons_self (Aa (As (A6 CM.cl CM.n2 (evv 0) (FB S1)) (Em row (i:=0) (c:=120) e0 rfl rfl (evv 1)) (Cb ok1 n0.2.1 n0.2.2)) Ad) rfl) ⟨⟨S1,boxM S1 (nums.getD 0 0),few1,rfl,rfl,rfl,rfl,rfl⟩,rfl⟩)) A7) nofun) A7
 rw[if_neg h3]
 exact At (Bm (k:=false) (AQ oz_ok (Am (AS (by walk_at"un") (evv 1) hcl (by decide+kernel)) (decide_eq_false h3))) nofun (λ_=>At (Eb (DT CM.cl D_fill (by walk_at"rm") mem_cons_self (pv 0) (BY (B2 oz_ok (evv 1) (Hk _ _)) (BY (B2 oz_ok (evv 2) rfl) Ga)) ⟨⟨S1,q,nums,j,behM S q nums j,ok1,row,λz=>by rw[ea,hpg];exact Ot hh z,rfl,rfl,rfl,rfl,rfl⟩,rfl⟩)) A7)) A7
def DI(S:MS)(wd:Str)(S':MS):Prop:=(Bx S.pg S.mem S.here=.tuple [.str wd,.none]/\S'=S)\/∃j q nums,IsRow q nums j/\Bx S.pg S.mem S.here=.tuple [.str "",rowD q.1 nums]/\wd=B3 S q.1 nums/\S'=if B3 S q.1 nums=""then doM S q nums j else S
theorem R4(ok:MsOk S):∃wd S',DI S wd S':=by
 rcases IY ok S.here with⟨wd,_,e⟩|⟨j,q,nums,row,e⟩
 .exact⟨wd,S,.inl ⟨e,rfl⟩⟩
 .exact⟨_,_,.inr ⟨j,q,nums,row,e,rfl,rfl⟩⟩
theorem K8(S:MS)(nm:Str)(nums:List Int):canLay0 (.str (B3 S nm nums))=true:=by
 unfold B3
 repeat' split
 all_goals decide+kernel
def P4(lf:LF)(df:DF)(ds:List PyData)(d:PyData)(lf':LF)(df':DF):Prop:=∃(S:MS) (wd:Str) (S':MS),MsOk S/\FewM S/\DI S wd S'/\lf=lfM S/\df=dfM S/\ds=[]/\d=.str wd/\lf'=lfM S'/\df'=dfM S'
theorem Uy(CM:ClsM K mg C)(D_row_at:DFn P w K mg base 5 "row_at" S8)(D_hind:MFn P w K mg base 4 C "hindrance" (SR C))(D_do:OFn P w K mg base 4 C "do" (De UA))(F:Fun K "step" "Machine.step" CB f fd)(hm:Meth K C "step" f):OFn P w K mg base 6 C "step" P4:=by
 refine F.objM hm (by walk_at"b1") sc_Machine_step (λlf df ds d lf' df' ⟨_,_,_,_,_,_,_,_,e,_⟩=>by rw[e];rfl) λcdv A outer s H E R lf df ds d lf' df' hr hC ⟨S,wd,S',ok,few,st,e1,e2,e3,e4,e5,e6⟩=>?_
 subst hC e1 e2 e3 e4 e5 e6
 have ne0:∀i:Nat,0<i->∀z∈[(0,R.a)],z.1≠i:=λi hi z hz=>by rw[mem_singleton.mp hz];exact ne_of_lt hi
 rcases st with⟨e,e'⟩|⟨j,q,nums,row,e,ew,e'⟩
 .subst e'
  refine BJ (NL (i:=1) (j:=2) (E7 (d:=.tuple [.str wd,.none]) mem_cons_self (An D_row_at (by walk_at"rm") rfl (Aa (A6 CM.cl CM.n0 (evv 0) (GH S')) (Aa (A6 CM.cl CM.n1 (evv 0) (IS S')) (Aa (A6 CM.cl CM.n3 (evv 0) (Ih S')) Ad))) ⟨S',ok,rfl,e.symm⟩) rfl) (Dl rfl (A5 (Aw (i:=1) sc_Machine_step.nd rfl (inl rfl)) (A5 (Aw (i:=2) sc_Machine_step.nd rfl (inl rfl)) BT))) (ne0 1 (by decide)) (ne0 2 (by decide))) ?_
  exact Kg (k:=true) (AQ oz_ok (J9 (evv 2) rfl)) (λ_=>Gb (B2 oz_ok (evv 1) rfl)) nofun
 .subst ew
  refine BJ (NL (i:=1) (j:=2) (E7 (d:=.tuple [.str "",rowD q.1 nums]) mem_cons_self (An D_row_at (by walk_at"rm") rfl (Aa (A6 CM.cl CM.n0 (evv 0) (GH S)) (Aa (A6 CM.cl CM.n1 (evv 0) (IS S)) (Aa (A6 CM.cl CM.n3 (evv 0) (Ih S)) Ad))) ⟨S,ok,rfl,e.symm⟩) (by show(noL (.str "")&&(noL (rowD q.1 nums)&&true))=true;rw[Hk];rfl)) (Dl rfl (A5 (Aw (i:=1) sc_Machine_step.nd rfl (inl rfl)) (A5 (Aw (i:=2) sc_Machine_step.nd rfl (inl rfl)) BT))) (ne0 1 (by decide)) (ne0 2 (by decide))) ?_
  refine Kg (k:=false) (AQ oz_ok (J9 (evv 2) rfl)) nofun (λ_=>?_)
  refine BJ (B7 (i:=1) (d:=.str (B3 S q.1 nums)) sc_Machine_step.nd rfl (by show 1∉[0];decide) (inl rfl) (E7 mem_cons_self (BF CM.cl D_hind (by walk_at"rm") (evv 0) (Aa (evv 2) Ad) ⟨S,q,nums,j,ok,row,rfl,rfl⟩) rfl)) ?_
  have hly:=K8 S q.1 nums
  by_cases hh:B3 S q.1 nums=""
  .rw[if_pos hh]at e'
   subst e'
   exact BJ (Bm (k:=true) (AQ oz_ok (Am (Ah (evv 1) Ak (Bs (by walk_at"un") hly (by decide+kernel) (by walk_at"dp") (Dh _ _)) (Af _)) (decide_eq_true hh))) (λ_=>At (Eb (DT CM.cl D_do (by walk_at"rm") mem_cons_self (pv 0) (BY (B2 oz_ok (evv 2) (Hk _ _)) Ga) ⟨⟨S,q,nums,j,ok,few,row,hh,rfl,rfl,rfl,rfl,rfl⟩,rfl⟩)) A7) nofun) (Gb (B2 oz_ok (evv 1) rfl))
  .rw[if_neg hh]at e'
   subst e'
   exact BJ (Iu oz_ok (AQ oz_ok (Am (Ah (evv 1) Ak (Bs (by walk_at"un") hly (by decide+kernel) (by walk_at"dp") (Dh _ _)) (Af _)) (decide_eq_false hh)))) (Gb (B2 oz_ok (evv 1) rfl))
def Vl(many:Nat)(d:PyData):Prop:=∃rs:List Int,rs.length=many/\(∀r∈rs,0<=r/\r<1000000)/\d=.list (rs.map .int)
def JG(ds:List PyData):Prop:=∃(ns:List Int) (a:Int) (many:Nat),ns.length<=63/\many<=1000/\ds=[.list (ns.map .int),.int a,.int many]
def numF(ds:List PyData)(d:PyData):Prop:=∃(s a:PyData) (many:Nat),ds=[s,a,.int many]/\Vl many d
theorem Pw{α:Type}(f:α->PyData)(l:List α)(o u:Option Int):∃c:List α,c.length<=l.length/\cutD (l.map f) o u=c.map f:=by
 refine⟨(l.drop (HT.sIx l.length 0 o)).take (HT.sIx l.length l.length u-HT.sIx l.length 0 o),by rw[length_take,length_drop];omega,?_⟩
 unfold cutD
 rw[length_map,map_take,map_drop]
def someInts(lo hi:Int)(ds:List PyData)(n:Nat):Prop:=∃rs:List Int,rs.length=n/\(∀r∈rs,lo<=r/\r<hi)/\ds=rs.map int
theorem someInts.snoc{lo hi r:Int}{ds:List PyData}{n:Nat}(h:someInts lo hi ds n)(h1:lo<=r)(h2:r<hi):someInts lo hi (ds++[.int r]) (n+1):=by
 obtain⟨rs,e1,e2,e3⟩:=h
 refine⟨rs++[r],by simp[e1],λx hx=>?_,by simp[e3]⟩
 rcases List.mem_append.mp hx with z|z
 .exact e2 x z
 .have:=List.mem_singleton.mp z
  subst this
  exact⟨h1,h2⟩
theorem someInts.len{lo hi:Int}{ds:List PyData}{n:Nat}(h:someInts lo hi ds n):ds.length=n:=by
 obtain⟨rs,e1,e2,e3⟩:=h
 rw[e3,List.length_map,e1]
theorem Ol{k:Int}(h0:0<=k)(h1:k<=1000):0<=1009*k*k/\1009*k*k<=1009000000:=by
 have a:0<=1009*k:=by omega
 have b:1009*k<=1009000:=by omega
 refine⟨Int.mul_nonneg a h0,?_⟩
 have c:1009*k*k<=1009000*1000:=Int.mul_le_mul b h1 h0 (by decide)
 exact c
def GN(s a:Option PyData)(many:Nat)(zs:List Int)(G:Gam)(c r t k n:Option PyData):Prop:=G=[s,a,some (.int many),some (.list (zs.map int)),none,c,r,t,k,n]
theorem IC(T:Txt mg)(F:Fun K "_law_numbers" "_law_numbers" Dp f fd)(hm:mg "_law_numbers"=some (.ref f)):RFn P w K mg base 1 "_law_numbers" numF JG:=by
 refine F.dataR hm (by walk_at"b3") sc_law_numbers (λds ⟨ns,a,many,_,_,e⟩=>by rw[e];rfl) λcdv A outer s H E ds hr ⟨ns,a,many,hns,hmany,e⟩=>?_
 subst e
 obtain⟨cs,hcs,ecs⟩:=Pw int ns (some a) none
 refine Dy (HK (ix:=[]) (N:=["cell"]) (B:=bind1) (as:=cs) (D:=int) (λ_=>true) (λz=>int (z%10^60)) rfl sc_law_numbers.nd (i:=3) rfl rfl (of_decide_eq_true (by kernel_rfl)) (Ct (by decide))
  (FA (A2 (by first|exact JC (evv 0) (Co (evv 1)) GY|exact LA (evv 0) (Co (evv 1)) GY (by walk_at"sl")) (congrArg list ecs))) (by rw[sizeLine_eq];omega) (λ_ _=>JO _) (λ_ _ _ _ _=>Aw (i:=0) (show Nodup (["cell"]:List Str) by decide+kernel) rfl (inl rfl)) (λa ha cl C s H fp=>II)
  (λa ha hP cl C s H fp=>(Ac (evv 0) (Ac Ab Ab (by walk_at"od")) (by walk_at"od")))) ?_
 rw[BP]
 have ez:cs.map (λz=>int (z%10^60))=(cs.map λz=>z%10^60).map int:=by rw[map_map];rfl
 rw[ez]
 have hzl:(cs.map λz=>z%10^60).length<=63:=by rw[length_map];omega
 generalize (cs.map λz=>z%10^60)=zs at hzl
 refine Jx (i:=4) sc_law_numbers.nd rfl (inl rfl) (by simp[Bh]) λH0 p=>?_
 refine C9 (Mid:=λG ds=>∃c r t k n m,GN (some (.list (ns.map int))) (some (.int a)) many zs G c r t k n/\m<=many/\someInts 0 1000000 ds m) ?_ ?_
 ·
  refine Ph (PreA:=λG ds=>GN (some (.list (ns.map int))) (some (.int a)) many zs G none none none none none/\ds=[]) (PreB:=λG ds=>GN (some (.list (ns.map int))) (some (.int a)) many zs G none none none none none/\ds=[]) ?_ ?_ (BI ?_)
  .rintro G ds ⟨rfl,rfl⟩
   cases zs with
   |nil=>exact .inr ⟨Am (Bn (AY (k':=false) (Ah (Au "len" (Aa (evv 3) Ad) (by walk_at"cd") rfl T.b_len (by decide+kernel)) Ab (by walk_at"od") (Af _)) (λh=>by simp at h))) (by simp),rfl,rfl⟩
   |cons z zs=>
    cases hq:(z%2==0)with
    |true=>exact .inl ⟨Am (Bn (AY (Ah (Au "len" (Aa (evv 3) Ad) (by walk_at"cd") rfl T.b_len (by decide+kernel)) Ab (by walk_at"od") (Af _)) (λ_=>(Bg (Ah (Ac (by first|exact As (evv 3) Ab (by walk_at"at")|exact AK (evv 3) Ab (by walk_at"at")) Ab (by walk_at"od")) Ab (by walk_at"od") (Af _)))))) (by rw[show(int (z%2)).eqv (.int 0)=(z%2==0)from rfl,hq];simp),rfl,rfl⟩
    |false=>exact .inr ⟨Am (Bn (AY (Ah (Au "len" (Aa (evv 3) Ad) (by walk_at"cd") rfl T.b_len (by decide+kernel)) Ab (by walk_at"od") (Af _)) (λ_=>(Bg (Ah (Ac (by first|exact As (evv 3) Ab (by walk_at"at")|exact AK (evv 3) Ab (by walk_at"at")) Ab (by walk_at"od")) Ab (by walk_at"od") (Af _)))))) (by rw[show(int (z%2)).eqv (.int 0)=(z%2==0)from rfl,hq];simp),rfl,rfl⟩
  ·
   refine AU (Mid:=λG ds=>∃c r t k n m,GN (some (.list (ns.map int))) (some (.int a)) many zs G c r t k n/\m<=many/\someInts 0 1000000 ds m) ?_ (BI λ_ _ h=>h)
   refine RG (j:=5) (m:=3) (xs:=zs.map int) (λ_ G ds=>∃c r t k n m,GN (some (.list (ns.map int))) (some (.int a)) many zs G c r t k n/\m<=many/\someInts 0 1000000 ds m) never rfl (by decide) (Aw (i:=5) sc_law_numbers.nd rfl (inl rfl)) (pv 3) ?_ ?_ λ_ _ h=>h
   .rintro G ds ⟨rfl,rfl⟩
    exact⟨⟨_,_,_,_,_,0,rfl,zero_le _,[],rfl,by simp,rfl⟩,rfl⟩
   .intro H1 i d hd
    obtain⟨z,rfl⟩:∃z,d=int z:=by
     rw[getElem?_map]at hd
     cases q:zs[i]? with
     |none=>rw[q]at hd;cases hd
     |some z=>rw[q]at hd;exact⟨z,(Option.some.inj hd).symm⟩
    refine AU (Mid:=λG ds=>∃r t k n m,GN (some (.list (ns.map int))) (some (.int a)) many zs G (some (.int z)) (some (.int r)) t k n/\m<=many/\someInts 0 1000000 ds m) (DY (j:=6) sc_law_numbers.nd rfl (by decide) (inl rfl) ?_) ?_
    .rintro G ds ⟨G',⟨c,r,t,k,n,m,rfl,hm,hd⟩,rfl⟩
     exact⟨_,(Ac (evv 5) Ab (by walk_at"od")),rfl,_,_,_,_,m,rfl,hm,hd⟩
    .refine AU (Mid:=λG ds=>∃c r t k n m,GN (some (.list (ns.map int))) (some (.int a)) many zs G c r t k n/\m<=many/\someInts 0 1000000 ds m) ?_ (BI λ_ _ h=>h)
     refine FD (j:=7) (lo:=0) (n:=(10:Int).toNat) (λ_ G ds=>∃r t k n m,GN (some (.list (ns.map int))) (some (.int a)) many zs G (some (.int z)) (some (.int r)) t k n/\m<=many/\someInts 0 1000000 ds m) never rfl (by decide) (Aw (i:=7) sc_law_numbers.nd rfl (inl rfl)) ?_ ?_ ?_
     .rintro G ds ⟨r,t,k,n,m,rfl,hm,hd⟩
      exact⟨⟨r,t,k,n,m,rfl,hm,hd⟩,NO Ab (by decide) (by decide) rfl T.b_range⟩
     .intro j hj
      refine AU (Mid:=λG ds=>∃r t k n m,GN (some (.list (ns.map int))) (some (.int a)) many zs G (some (.int z)) (some (.int r)) t k n/\m<=many/\someInts 0 1000000 ds m) ?_ (BI λ_ _ h=>h)
      refine Ph (PreA:=λG ds=>∃r t k n m,GN (some (.list (ns.map int))) (some (.int a)) many zs G (some (.int z)) (some (.int r)) t k n/\m<many/\someInts 0 1000000 ds m) (PreB:=λG ds=>∃r t k n m,GN (some (.list (ns.map int))) (some (.int a)) many zs G (some (.int z)) (some (.int r)) t k n/\m<=many/\someInts 0 1000000 ds m) ?_ ?_ (BI λ_ _ h=>h)
      .rintro G ds ⟨G',⟨r,t,k,n,m,rfl,hm,hd⟩,rfl⟩
       have hl:=hd.len
       by_cases hlt:m<many
       .by_cases hor:(0:Int)+(j:Nat)=0\/0<r
        .exact .inl ⟨Am (Bn (AY (Ah (Au "len" (Aa (evv 4) Ad) (by walk_at"cd") rfl T.b_len (by decide+kernel)) (evv 2) (by walk_at"od") (Af _)) (λ_=>(Bg (Bn (BE (Ah (evv 7) Ab (by walk_at"od") (Af _)) (λ_=>(By (Ah (evv 6) Ab (by walk_at"od") (Af _)))))))))) (by
          rw[show(int (0+(j:Nat))).eqv (.int 0)=((0:Int)+(j:Nat)==0)from rfl]
          have e1:decide ((ds.length:Int)<(many:Nat))=true:=by simp;omega
          rw[e1]
          rcases hor with z|z
          .rw[z];rfl
          .rw[decide_eq_true z];simp),_,_,_,_,m,rfl,hlt,hd⟩
        .exact .inr ⟨Am (Bn (AY (Ah (Au "len" (Aa (evv 4) Ad) (by walk_at"cd") rfl T.b_len (by decide+kernel)) (evv 2) (by walk_at"od") (Af _)) (λ_=>(Bg (Bn (BE (Ah (evv 7) Ab (by walk_at"od") (Af _)) (λ_=>(By (Ah (evv 6) Ab (by walk_at"od") (Af _)))))))))) (by
          rw[show(int (0+(j:Nat))).eqv (.int 0)=((0:Int)+(j:Nat)==0)from rfl]
          have e1:((0:Int)+(j:Nat)==0)=false:=by simp;omega
          have e2:decide (0<r)=false:=by simp;omega
          rw[e1,e2];simp),_,_,_,_,m,rfl,hm,hd⟩
       .exact .inr ⟨Am (Bn (AY (k':=false) (Ah (Au "len" (Aa (evv 4) Ad) (by walk_at"cd") rfl T.b_len (by decide+kernel)) (evv 2) (by walk_at"od") (Af _)) (λh=>by simp at h;omega))) (by simp),_,_,_,_,m,rfl,hm,hd⟩
      ·
       refine AU (Mid:=λG ds=>∃r t k n m,GN (some (.list (ns.map int))) (some (.int a)) many zs G (some (.int z)) (some (.int r)) t k n/\m<=many/\someInts 0 1000000 ds m) (EE ?_ (pv 4)) (AU (DY (j:=6) sc_law_numbers.nd rfl (by decide) (inl rfl) ?_) (BI λ_ _ h=>h))
       .rintro G ds ⟨r,t,k,n,m,rfl,hlt,hd⟩
        have hl:=hd.len
        exact⟨.int (r%1000000),A2 (Ac (evv 6) (Ac Ab Ab (by walk_at"od")) (by walk_at"od")) rfl,rfl,by rw[hl,sizeLine_eq];omega,_,_,_,_,m+1,rfl,hlt,hd.snoc (by omega) (by omega)⟩
       .rintro G ds ⟨r,t,k,n,m,rfl,hm,hd⟩
        exact⟨_,(Ac (evv 6) (Ac Ab Ab (by walk_at"od")) (by walk_at"od")),rfl,_,_,_,_,m,rfl,hm,hd⟩
     .rintro G ds ⟨r,t,k,n,m,h,hm,hd⟩
      exact⟨_,_,_,_,_,m,h,hm,hd⟩
  .rintro G ds ⟨rfl,rfl⟩
   exact⟨_,_,_,_,_,0,rfl,zero_le _,[],rfl,by simp,rfl⟩
 ·
  refine C9 (Mid:=λG ds=>someInts 0 1000000 ds many) ?_ (Sz (pv 4) λG ds ⟨rs,h1,h2,h3⟩=>⟨_,_,many,rfl,rs,h1,h2,congrArg list h3⟩)
  refine UG (Pr:=λ(q:Option PyData×Option PyData×Option PyData×Option PyData×Option PyData×Nat) G ds=>GN (some (.list (ns.map int))) (some (.int a)) many zs G q.1 q.2.1 q.2.2.1 q.2.2.2.1 q.2.2.2.2.1/\q.2.2.2.2.2<=many/\someInts 0 1000000 ds q.2.2.2.2.2) ?_ |>.imp λD σ H ⟨⟨G,ds,⟨c,r,t,k,n,m,h⟩,o⟩,q⟩=>⟨⟨G,ds,⟨(c,r,t,k,n,m),h⟩,o⟩,q⟩
  rintro⟨c,r,t,k,n,m⟩
  refine FD (j:=8) (lo:=m) (n:=((many:Int)- (m:Int)).toNat) (λi G ds=>(∃c r t k n,GN (some (.list (ns.map int))) (some (.int a)) many zs G c r t k n)/\m<=many/\someInts 0 1000000 ds (m+i)) never rfl (by decide) (Aw (i:=8) sc_law_numbers.nd rfl (inl rfl)) ?_ ?_ ?_
  .rintro G ds ⟨rfl,hm,hd⟩
   have hm:m<=many:=hm
   have hl:ds.length=m:=hd.len
   refine⟨⟨⟨_,_,_,_,_,rfl⟩,hm,hd⟩,?_⟩
   exact Vj (m:=(m:Int)) (n:=(many:Int)) (A2 (Au "len" (Aa (evv 4) Ad) (by walk_at"cd") rfl T.b_len (by decide+kernel)) (by rw[hl])) (evv 2) ⟨by omega,by omega,by omega,by omega⟩ rfl T.b_range
  .intro i hi
   refine AU (Mid:=λG ds=>(∃c r t v,GN (some (.list (ns.map int))) (some (.int a)) many zs G c r t (some (.int ((m:Int)+(i:Nat)))) (some (.int v))/\0<=v/\v<=1009008000)/\m<=many/\someInts 0 1000000 ds (m+i)) (DY (j:=9) sc_law_numbers.nd rfl (by decide) (inl rfl) ?_) ?_
   .rintro G ds ⟨G',⟨⟨c,r,t,k,n,rfl⟩,hm,hd⟩,rfl⟩
    have hk0:0<=(m:Int)+(i:Nat):=by omega
    have hk1:(m:Int)+(i:Nat)<=1000:=by omega
    obtain⟨q0,q1⟩:=Ol hk0 hk1
    exact⟨_,(Ac (Ac (Ac (Ac Ab (evv 8) (by walk_at"od")) (evv 8) (by walk_at"od")) (Ac Ab (evv 8) (by walk_at"od")) (by walk_at"od")) Ab (by walk_at"od")),rfl,⟨_,_,_,_,rfl,by omega,by omega⟩,hm,hd⟩
   refine AU (Mid:=λG ds=>(∃c r t v,GN (some (.list (ns.map int))) (some (.int a)) many zs G c r t (some (.int ((m:Int)+(i:Nat)))) (some (.int v))/\0<=v/\v<=4000000000)/\m<=many/\someInts 0 1000000 ds (m+i)) ?_ ?_
   .refine Ph (PreA:=λG ds=>0<zs.length/\(∃c r t v,GN (some (.list (ns.map int))) (some (.int a)) many zs G c r t (some (.int ((m:Int)+(i:Nat)))) (some (.int v))/\0<=v/\v<=1009008000)/\m<=many/\someInts 0 1000000 ds (m+i)) (PreB:=λG ds=>(∃c r t v,GN (some (.list (ns.map int))) (some (.int a)) many zs G c r t (some (.int ((m:Int)+(i:Nat)))) (some (.int v))/\0<=v/\v<=1009008000)/\m<=many/\someInts 0 1000000 ds (m+i)) ?_ ?_ (BI ?_)
    .rintro G ds ⟨⟨c,r,t,v,rfl,h1,h2⟩,hm,hd⟩
     by_cases hz:0<zs.length
     .exact .inl ⟨Am (Ah (Au "len" (Aa (evv 3) Ad) (by walk_at"cd") rfl T.b_len (by decide+kernel)) Ab (by walk_at"od") (Af _)) (by simp;omega),hz,⟨_,_,_,_,rfl,h1,h2⟩,hm,hd⟩
     .exact .inr ⟨Am (Ah (Au "len" (Aa (evv 3) Ad) (by walk_at"cd") rfl T.b_len (by decide+kernel)) Ab (by walk_at"od") (Af _)) (by simp;exact List.eq_nil_of_length_eq_zero (by omega)),⟨_,_,_,_,rfl,h1,h2⟩,hm,hd⟩
    .refine AU (DY (j:=9) sc_law_numbers.nd rfl (by decide) (inl rfl) ?_) (BI λ_ _ h=>h)
     rintro G ds ⟨hz,⟨c,r,t,v,rfl,h1,h2⟩,hm,hd⟩
     have hlm:((map int zs).length:Int)=zs.length:=by rw[length_map]
     have hp:0<((map int zs).length:Int):=by omega
     have hi0:0<=((m:Int)+(i:Nat))%((map int zs).length:Int):=emod_nonneg _ (by omega)
     have hi1:((m:Int)+(i:Nat))%((map int zs).length:Int)<zs.length:=by rw[<-hlm];exact emod_lt_of_pos _ hp
     have hz':(0:Int)<zs.length:=by omega
     exact⟨_,(Ac (Ac (evv 9) (Ac (by first|exact As (evv 3) (Ac (evv 8) (Au "len" (Aa (evv 3) Ad) (by walk_at"cd") rfl T.b_len (by decide+kernel)) (by walk_at"od")) (by walk_at"at")|exact AK (evv 3) (Ac (evv 8) (Au "len" (Aa (evv 3) Ad) (by walk_at"cd") rfl T.b_len (by decide+kernel)) (by walk_at"od")) (by walk_at"at")) Ab (by walk_at"od")) (by walk_at"od")) (Ac (by first|exact As (evv 3) Ab (by walk_at"at")|exact AK (evv 3) Ab (by walk_at"at")) Ab (by walk_at"od")) (by walk_at"od")),rfl,⟨_,_,_,_,rfl,by omega,by omega⟩,hm,hd⟩
    .rintro G ds ⟨⟨c,r,t,v,rfl,h1,h2⟩,hm,hd⟩
     exact⟨⟨_,_,_,_,rfl,h1,by omega⟩,hm,hd⟩
   refine AU (Mid:=λG ds=>(∃c r t v,GN (some (.list (ns.map int))) (some (.int a)) many zs G c r t (some (.int ((m:Int)+(i:Nat)))) (some (.int v))/\0<=v/\v<=4000000000)/\m<=many/\someInts 0 1000000 ds (m+i)) (DY (j:=9) sc_law_numbers.nd rfl (by decide) (inl rfl) ?_) ?_
   .rintro G ds ⟨⟨c,r,t,v,rfl,h1,h2⟩,hm,hd⟩
    exact⟨_,(Ac (Ac (evv 9) (evv 9) (by walk_at"od")) Ab (by walk_at"od")),rfl,⟨_,_,_,_,rfl,by omega,by omega⟩,hm,hd⟩
   refine AU (Mid:=λG ds=>(∃c r t v,GN (some (.list (ns.map int))) (some (.int a)) many zs G c r t (some (.int ((m:Int)+(i:Nat)))) (some (.int v))/\0<=v/\v<=4000000000)/\m<=many/\someInts 0 1000000 ds (m+i)) (DY (j:=9) sc_law_numbers.nd rfl (by decide) (inl rfl) ?_) ?_
   .rintro G ds ⟨⟨c,r,t,v,rfl,h1,h2⟩,hm,hd⟩
    exact⟨_,(Ac (Ac (Ac (evv 9) Ab (by walk_at"od")) (Ac Ab (evv 8) (by walk_at"od")) (by walk_at"od")) Ab (by walk_at"od")),rfl,⟨_,_,_,_,rfl,by omega,by omega⟩,hm,hd⟩
   refine AU (EE ?_ (pv 4)) (BI λ_ _ h=>h)
   rintro G ds ⟨⟨c,r,t,v,rfl,h1,h2⟩,hm,hd⟩
   have hl:=hd.len
   exact⟨.int (v*v%998244353%1000000),A2 (Ac (Ac (Ac (evv 9) (evv 9) (by walk_at"od")) Ab (by walk_at"od")) (Ac Ab Ab (by walk_at"od")) (by walk_at"od")) rfl,rfl,by rw[hl,sizeLine_eq];omega,⟨_,_,_,_,_,rfl⟩,hm,hd.snoc (by omega) (by omega)⟩
  .rintro G ds ⟨_,hm,hd⟩
   have e:m+((many:Int)- (m:Int)).toNat=many:=by omega
   rw[e]at hd
   exact hd
local macro_rules| `(tactic|walk_at"rt")=>`(tactic|repeat' (first|with_reducible exact Ab|with_reducible exact Ak|with_reducible exact Ad|with_reducible refine Aa ?_ ?_ EJ|with_reducible refine AR ?_ ?_|(rw[sizeLine_eq];decide)|(rw[sizeLine_eq];simp;done)))
def kL24:List Str:=["set","set","set","move","add","add","sub","sub","mul","and","xor","cmp","cmp","load","load","store","store","jump","branch","branch","branch","call","back","out"]
def kL(n:Int):Str:=kL24.getD (n%24).toNat ""
theorem MP{l:List Str}{i:Int}(h0:0<=i)(h:i<l.length):atI (l.map str) i=some (.str (l.getD i.toNat "")):=by
 have hi:i.toNat<l.length:=by omega
 refine AF h0 ?_
 rw[getElem?_map,getD_eq_getElem?_getD,getElem?_eq_getElem hi]
 rfl
theorem Th(n:Int):kL n∈kL24:=by
 unfold kL
 have h:(n%24).toNat<kL24.length:=by show(n%24).toNat<24;omega
 rw[getD_eq_getElem?_getD,getElem?_eq_getElem h]
 exact getElem_mem h
def LI(ds:List PyData)(d:PyData):Prop:=∃n:Int,ds=[.int n]/\d=.str (kL n)
theorem Mh(F:Fun K "_law_kind" "_law_kind" Fl f fd)(hm:mg "_law_kind"=some (.ref f)):DFn P w K mg base 1 "_law_kind" LI:=by
 refine F.data hm (by walk_at"b1") sc_law_kind (λds d ⟨_,e,_⟩=>by rw[e];rfl) λcdv A outer s H E ds d hr ⟨n,e,e2⟩=>?_
 subst e e2
 have hz1:((kL24.take 15).map str).length+((kL24.drop 15).map str).length<=sizeLine:=by rw[sizeLine_eq];exact(by decide:15+9<=16777216)
 refine HA (i:=1) (R:=λz=>z=.list ((kL24.take 15).map str)) ?a1 ?a2 ?a3 ?a4 ?a5 (hs:=?a6) (hf:=?a7)
 case a1=>exact sc_law_kind.nd
 case a2=>exact rfl
 case a3=>exact inl rfl
 case a6=>exact rfl
 case a7=>first|exact .inl rfl|exact .inr rfl
 case a4=>
  with_reducible refine JN (d:=.list [.str "set",.str "set",.str "set",.str "move",.str "add",.str "add",.str "sub",.str "sub",.str "mul",.str "and",.str "xor",.str "cmp",.str "cmp",.str "load",.str "load"]) ?_ ?_
  .walk_at"rt"
  .exact rfl
 intro d1 hd1
 subst hd1
 refine HA (i:=1) (R:=λz=>z=.list ((kL24.take 15).map str++(kL24.drop 15).map str)) ?b1 ?b2 ?b3 ?b4 ?b5 (hs:=?b6) (hf:=?b7)
 case b1=>exact sc_law_kind.nd
 case b2=>exact rfl
 case b3=>exact inl rfl
 case b6=>exact rfl
 case b7=>first|exact .inl rfl|exact .inr rfl
 case b4=>
  with_reducible refine JN (d:=.list ((kL24.take 15).map str++(kL24.drop 15).map str)) ?_ ?_
  .with_reducible refine Ac (da:=.list ((kL24.take 15).map str)) (db:=.list ((kL24.drop 15).map str)) ?_ ?_ (C6 hz1)
   .exact JF 1 (by rfl) (pv 1)
   .show EV _ _ _ (.list [.str "store",.str "store",.str "jump",.str "branch",.str "branch",.str "branch",.str "call",.str "back",.str "out"])
    walk_at"rt"
  .exact rfl
 intro d2 hd2
 subst hd2
 exact Ag (Ap (As (ds:=kL24.map str) (A2 (evv 1) rfl) (Ac (evv 0) Ab (A1 (by decide))) (MP (by omega) (by show n%24<24;omega))))
def wdL:List Str:=["set","jump","branch","call"]
def B5(wd:Str):Int:=if wd∈wdL then 2 else 1
theorem Su(l:List Str)(nm:Str):((l.map str).any λe=>eqv e (.str nm))=decide (nm∈l):=by
 rw[any_map]
 have:(λs:Str=>eqv (.str s) (.str nm))=λs=>decide (s=nm):=by funext s;exact Dh s nm
 show l.any (λs=>eqv (.str s) (.str nm))=_
 rw[this]
 induction l with
 |nil=>rfl
 |cons x r ih=>
  rw[any_cons,ih]
  by_cases h:x=nm
  .rw[decide_eq_true h,Bool.true_or,decide_eq_true (by rw[h];exact mem_cons_self)]
  .rw[decide_eq_false h,Bool.false_or]
   congr 1
   exact propext ⟨λz=>mem_cons_of_mem _ z,λz=>(mem_cons.mp z).resolve_left (λw=>h w.symm)⟩
def Ma(ds:List PyData)(d:PyData):Prop:=∃wd:Str,ds=[.str wd]/\d=.int (B5 wd)
theorem Lw(T:Txt mg)(F:Fun K "_law_wide" "_law_wide" Fd f fd)(hm:mg "_law_wide"=some (.ref f)):DFn P w K mg base 1 "_law_wide" Ma:=by
 refine F.data hm (by walk_at"b1") J_ (λds d ⟨_,e,_⟩=>by rw[e];rfl) λcdv A outer s H E ds d hr ⟨wd,e,e2⟩=>?_
 subst e e2
 refine Ag (Ap (A2 (Ac Ab (BM "int" (Aa (AX (d:=.bool (decide (wd∈wdL))) (evv 0) (AR (ds:=wdL.map str) (Aa Ak (Aa Ak (Aa Ak (Aa Ak Ad)))) (by rw[sizeLine_eq];decide)) (FV (.inl rfl) rfl rfl (Su wdL wd)) (by with_unfolding_all rfl)) Ad) E6 rfl T.b_int (by decide+kernel)) AH) ?_))
 unfold B5
 by_cases h:wd∈wdL
 .rw[decide_eq_true h,if_pos h];rfl
 .rw[decide_eq_false h,if_neg h];rfl
def n16:List Str:=["stop","set","move","add","sub","mul","and","xor","cmp","load","store","jump","branch","call","back","out"]
def opN(wd:Str):Nat:=n16.findIdx (·==wd)
theorem Ix:∀wd∈kL24,n16[opN wd]?=some wd/\(∀m,m<opN wd->n16[m]?≠some wd)/\opN wd<16/\canLay0 (.str wd)=true:=by
 have h1:∀wd∈kL24,n16[opN wd]?=some wd/\(∀m,m<16->m<opN wd->n16[m]?≠some wd)/\opN wd<16/\canLay0 (.str wd)=true:=by decide+kernel
 intro wd hw
 obtain⟨a,b,c,d⟩:=h1 wd hw
 exact⟨a,λm hm=>b m (by omega) hm,c,d⟩
def rowW(wd:Str)(n to:Int):List Int:=
 if wd="branch"then[(opN wd:Int)*256+n/24%4,to]else if wd="jump"then[(opN wd:Int)*256,to]else if wd="set"\/wd="call"then[(opN wd:Int)*256+n/24%4*64,to]
 else if wd="load"\/wd="store"then[(opN wd:Int)*256+n/24%4*64+n/96%4*16+n/384%16]else if wd="back"\/wd="out"then[(opN wd:Int)*256+n/24%4*64]else[(opN wd:Int)*256+n/24%4*64+n/96%4*16]
def Tt(ds:List PyData)(d:PyData):Prop:=∃(wd:Str) (n to:Int),wd∈kL24/\ds=[.str wd,.int n,.int to]/\d=.list ((rowW wd n to).map int)
theorem GJ(F:Fun K "_law_row_words" "_law_row_words" Bi f fd)(hm:mg "_law_row_words"=some (.ref f)):DFn P w K mg base 1 "_law_row_words" Tt:=by
 refine F.data hm (by walk_at"b3") sc_law_row_words (λds d ⟨_,_,_,_,e,_⟩=>by rw[e];rfl) λcdv A outer s H E ds d hr ⟨wd,n,to,hw,e,e2⟩=>?_
 subst e
 obtain⟨o1,o2,o3,hcl⟩:=Ix wd hw
 have hz1:((n16.take 14).map str).length+((n16.drop 14).map str).length<=sizeLine:=by rw[sizeLine_eq];exact(by decide:14+2<=16777216)
 refine HA (i:=3) (R:=λz=>z=.list ((n16.take 14).map str)) ?a1 ?a2 ?a3 ?a4 ?a5 (hs:=?a6) (hf:=?a7)
 case a1=>exact sc_law_row_words.nd
 case a2=>exact rfl
 case a3=>exact inl rfl
 case a6=>exact rfl
 case a7=>first|exact .inl rfl|exact .inr rfl
 case a4=>
  with_reducible refine JN (d:=.list [.str "stop",.str "set",.str "move",.str "add",.str "sub",.str "mul",.str "and",.str "xor",.str "cmp",.str "load",.str "store",.str "jump",.str "branch",.str "call"]) ?_ ?_
  .walk_at"rt"
  .exact rfl
 intro d1 hd1
 subst hd1
 refine Ai (AE (i:=4) (d:=.int (opN wd)) sc_law_row_words.nd rfl (inl rfl) (OG (ss:=n16) (A2 (Ac (da:=.list ((n16.take 14).map str)) (db:=.list ((n16.drop 14).map str)) (evv 3) (A2 (AR (ds:=[.str "back",.str "out"]) (Aa Ak (Aa Ak Ad)) (by rw[sizeLine_eq];decide)) rfl) (C6 hz1)) rfl) (evv 0) o1 o2)) ?_
 refine Ai (AE (i:=5) (d:=.int (n/24%4)) sc_law_row_words.nd rfl (inl rfl) (Ac (Ac (evv 1) Ab (by walk_at"od")) Ab (by walk_at"od"))) ?_
 refine Ai (AE (i:=6) (d:=.int (n/96%4)) sc_law_row_words.nd rfl (inl rfl) (Ac (Ac (evv 1) Ab (by walk_at"od")) Ab (by walk_at"od"))) ?_
 refine Ai (AE (i:=7) (d:=.int (n/384%16)) sc_law_row_words.nd rfl (inl rfl) (Ac (Ac (evv 1) Ab (by walk_at"od")) Ab (by walk_at"od"))) ?_
 have ev1:∀m:Str,canLay0 (.str m)=true->OD (cxOf CX0 P w K mg base ["word","number","to","names","op","x","y","m"] "_law_row_words" (Ae Bi) f cdv A outer s H E).nox (compareOp .Eq) (.str wd) (.str m) (.bool (decide (wd=m))):=λm hm=>Bs (by walk_at"un") hcl hm (by walk_at"dp") (Dh wd m)
 have m256:∀z:Int,0<=z->z<1000->OD (cxOf CX0 P w K mg base ["word","number","to","names","op","x","y","m"] "_law_row_words" (Ae Bi) f cdv A outer s H E).nox (binaryOp .Mult) (.int (opN wd)) (.int z) (.int (opN wd*z)):=λz z0 z1=>Dw (inl ⟨by omega,by omega⟩)
 have mx:∀x z:Int,0<=x->x<1000->0<=z->z<1000->OD (cxOf CX0 P w K mg base ["word","number","to","names","op","x","y","m"] "_law_row_words" (Ae Bi) f cdv A outer s H E).nox (binaryOp .Mult) (.int x) (.int z) (.int (x*z)):=λx z x0 x1 z0 z1=>Dw (inl ⟨by omega,by omega⟩)
 have x0:0<=n/24%4/\n/24%4<4:=by omega
 have y0:0<=n/96%4/\n/96%4<4:=by omega
 unfold rowW at e2
 by_cases h1:wd="branch"
 .rw[if_pos h1]at e2
  subst e2
  exact Ag (Ax (k:=true) (Am (Ah (evv 0) Ak (ev1 _ (by decide+kernel)) (Af _)) (decide_eq_true h1)) (λ_=>Ag (Ap (AR (ds:=[.int ((opN wd:Int)*256+n/24%4),.int to]) (Aa (Ac (Ac (evv 4) Ab (m256 256 (by decide) (by decide))) (Ac (Ac (evv 1) Ab (by walk_at"od")) Ab (by walk_at"od")) AH) (Aa (evv 2) Ad)) (by walk_at"sz")))) nofun)
 rw[if_neg h1]at e2
 refine Ai (Ax (k:=false) (Am (Ah (evv 0) Ak (ev1 _ (by decide+kernel)) (Af _)) (decide_eq_false h1)) nofun (λ_=>Ar)) ?_
 by_cases h2:wd="jump"
 .rw[if_pos h2]at e2
  subst e2
  exact Ag (Ax (k:=true) (Am (Ah (evv 0) Ak (ev1 _ (by decide+kernel)) (Af _)) (decide_eq_true h2)) (λ_=>Ag (Ap (AR (ds:=[.int ((opN wd:Int)*256),.int to]) (Aa (Ac (evv 4) Ab (m256 256 (by decide) (by decide))) (Aa (evv 2) Ad)) (by walk_at"sz")))) nofun)
 rw[if_neg h2]at e2
 refine Ai (Ax (k:=false) (Am (Ah (evv 0) Ak (ev1 _ (by decide+kernel)) (Af _)) (decide_eq_false h2)) nofun (λ_=>Ar)) ?_
 have or_:∀(a b:Str),canLay0 (.str a)=true->canLay0 (.str b)=true->∀(k:Bool),decide (wd=a\/wd=b)=k->(decide (wd=a)||decide (wd=b))=k:=λa b _ _ k hk=>by rw[<-hk];by_cases ha:wd=a<;>by_cases hb:wd=b<;>simp[ha,hb]
 by_cases h3:wd="set"\/wd="call"
 .rw[if_pos h3]at e2
  subst e2
  exact Ag (Ax (k:=true) (Am (Bn (BE (Ah (evv 0) Ak (ev1 _ (by decide+kernel)) (Af _)) (λ_=>By (Ah (evv 0) Ak (ev1 _ (by decide+kernel)) (Af _))))) (or_ "set" "call" (by decide+kernel) (by decide+kernel) true (decide_eq_true h3))) (λ_=>Ag (Ap (AR (ds:=[.int ((opN wd:Int)*256+n/24%4*64),.int to]) (Aa (Ac (Ac (evv 4) Ab (m256 256 (by decide) (by decide))) (Ac (evv 5) Ab (mx _ 64 (by omega) (by omega) (by decide) (by decide))) AH) (Aa (evv 2) Ad)) (by walk_at"sz")))) nofun)
 rw[if_neg h3]at e2
 refine Ai (Ax (k:=false) (Am (Bn (BE (Ah (evv 0) Ak (ev1 _ (by decide+kernel)) (Af _)) (λ_=>By (Ah (evv 0) Ak (ev1 _ (by decide+kernel)) (Af _))))) (or_ "set" "call" (by decide+kernel) (by decide+kernel) false (decide_eq_false h3))) nofun (λ_=>Ar)) ?_
 by_cases h4:wd="load"\/wd="store"
 .rw[if_pos h4]at e2
  subst e2
  exact Ag (Ax (k:=true) (Am (Bn (BE (Ah (evv 0) Ak (ev1 _ (by decide+kernel)) (Af _)) (λ_=>By (Ah (evv 0) Ak (ev1 _ (by decide+kernel)) (Af _))))) (or_ "load" "store" (by decide+kernel) (by decide+kernel) true (decide_eq_true h4))) (λ_=>Ag (Ap (AR (ds:=[.int ((opN wd:Int)*256+n/24%4*64+n/96%4*16+n/384%16)]) (Aa (Ac (Ac (Ac (Ac (evv 4) Ab (m256 256 (by decide) (by decide))) (Ac (evv 5) Ab (mx _ 64 (by omega) (by omega) (by decide) (by decide))) AH) (Ac (evv 6) Ab (mx _ 16 (by omega) (by omega) (by decide) (by decide))) AH) (evv 7) AH) Ad) (by walk_at"sz")))) nofun)
 rw[if_neg h4]at e2
 refine Ai (Ax (k:=false) (Am (Bn (BE (Ah (evv 0) Ak (ev1 _ (by decide+kernel)) (Af _)) (λ_=>By (Ah (evv 0) Ak (ev1 _ (by decide+kernel)) (Af _))))) (or_ "load" "store" (by decide+kernel) (by decide+kernel) false (decide_eq_false h4))) nofun (λ_=>Ar)) ?_
 by_cases h5:wd="back"\/wd="out"
 .rw[if_pos h5]at e2
  subst e2
  exact Ag (Ax (k:=true) (Am (Bn (BE (Ah (evv 0) Ak (ev1 _ (by decide+kernel)) (Af _)) (λ_=>By (Ah (evv 0) Ak (ev1 _ (by decide+kernel)) (Af _))))) (or_ "back" "out" (by decide+kernel) (by decide+kernel) true (decide_eq_true h5))) (λ_=>Ag (Ap (AR (ds:=[.int ((opN wd:Int)*256+n/24%4*64)]) (Aa (Ac (Ac (evv 4) Ab (m256 256 (by decide) (by decide))) (Ac (evv 5) Ab (mx _ 64 (by omega) (by omega) (by decide) (by decide))) AH) Ad) (by walk_at"sz")))) nofun)
 rw[if_neg h5]at e2
 subst e2
 exact Ai (Ax (k:=false) (Am (Bn (BE (Ah (evv 0) Ak (ev1 _ (by decide+kernel)) (Af _)) (λ_=>By (Ah (evv 0) Ak (ev1 _ (by decide+kernel)) (Af _))))) (or_ "back" "out" (by decide+kernel) (by decide+kernel) false (decide_eq_false h5))) nofun (λ_=>Ar)) (Ag (Ap (AR (ds:=[.int ((opN wd:Int)*256+n/24%4*64+n/96%4*16)]) (Aa (Ac (Ac (Ac (evv 4) Ab (m256 256 (by decide) (by decide))) (Ac (evv 5) Ab (mx _ 64 (by omega) (by omega) (by decide) (by decide))) AH) (Ac (evv 6) Ab (mx _ 16 (by omega) (by omega) (by decide) (by decide))) AH) Ad) (by walk_at"sz"))))
theorem wide_set{wd:Str}:wd∈wdL↔wd="set"\/wd="jump"\/wd="branch"\/wd="call":=by
 unfold wdL
 simp only[mem_cons,not_mem_nil,or_false]
theorem K4(wd:Str)(n to:Int):((rowW wd n to).length:Int)=B5 wd:=by
 have h0:¬(wd="branch")->¬(wd="jump")->¬(wd="set"\/wd="call")->B5 wd=1:=λa b c=>by
  unfold B5
  rw[if_neg λz=>?_]
  rcases wide_set.mp z with z|z|z|z
  .exact c (.inl z)
  .exact b z
  .exact a z
  .exact c (.inr z)
 unfold rowW
 split
 .rename_i h;unfold B5;rw[if_pos (wide_set.mpr (.inr (.inr (.inl h))))];rfl
 .split
  .rename_i h;unfold B5;rw[if_pos (wide_set.mpr (.inr (.inl h)))];rfl
  .split
   .rename_i h;unfold B5;rw[if_pos (wide_set.mpr (h.elim .inl λz=>.inr (.inr (.inr z))))];rfl
   .rename_i a b c
    rw[h0 a b c]
    split
    .rfl
    .split<;>rfl
theorem LU{wd:Str}(hw:wd∈kL24){n to:Int}(t0:0<=to/\to<4096):∀z∈rowW wd n to,0<=z/\z<4096:=by
 have o3:=(Ix wd hw).2.2.1
 unfold rowW
 repeat' split
 all_goals
  intro z hz
  simp only[mem_cons,not_mem_nil,or_false]at hz
  first
   |(rcases hz with rfl|rfl<;>omega)
   |(subst hz;omega)
def FR(wd:Str)(n:Int)(ps:List Int)(size:Int):Int:=if wd≠"set"then ps.getD (n/6144%(ps.length:Int)).toNat 0 else[n/6144%16,n/6144%size,ps.getD (n/6144%(ps.length:Int)).toNat 0,ps.getD 0 0+n/6144%8,n/6144*25%4096].getD (n/384%5).toNat 0
def Mu(ds:List PyData)(d:PyData):Prop:=∃(wd:Str) (n:Int) (ps:List Int) (size:Int),wd∈kL24/\0<=n/\n<1000000/\0<ps.length/\0<size/\size<1000/\ds=[.str wd,.int n,.list (ps.map int),.int size]/\d=.int (FR wd n ps size)
theorem LX(T:Txt mg)(F:Fun K "_law_goal" "_law_goal" Fh f fd)(hm:mg "_law_goal"=some (.ref f)):DFn P w K mg base 1 "_law_goal" Mu:=by
 refine F.data hm (F.binds λ_ _ _ _ _ _ us hl=>match us,hl with|[_,_,_,_],_=>rfl) sc_law_goal (λds d ⟨_,_,_,_,_,_,_,_,_,_,e,_⟩=>by rw[e];rfl) λcdv A outer s H E ds d hr ⟨wd,n,ps,size,hw,n0,n1,hp,s0,s1,e,e2⟩=>?_
 subst e
 have hcl:=(Ix wd hw).2.2.2
 have hlp:((ps.map int).length:Int)=ps.length:=by rw[length_map]
 have m0:0<=n/6144%(ps.length:Int)/\n/6144%(ps.length:Int)<ps.length:=⟨emod_nonneg _ (by omega),emod_lt_of_pos _ (by omega)⟩
 refine Ai (AE (i:=4) (d:=.int (n/6144)) sc_law_goal.nd rfl (inl rfl) (Ac (evv 1) Ab (by walk_at"od"))) ?_
 unfold FR at e2
 by_cases h1:wd="set"
 .rw[if_neg (λz=>z h1)]at e2
  refine Ai (Ax (k:=false) (Am (Ah (evv 0) Ak (Eo (by walk_at"un") hcl (by decide+kernel) (by walk_at"dp") (by rw[Dh])) (Af _)) (by rw[decide_eq_true h1];rfl)) nofun (λ_=>Ar)) ?_
  subst e2
  have q0:0<=n/6144/\n/6144<1000:=by omega
  have k0:0<=n/384%5/\n/384%5<5:=by omega
  refine Ai (AE (i:=5) (d:=.list ([n/6144%16,n/6144%size,ps.getD (n/6144%(ps.length:Int)).toNat 0,ps.getD 0 0+n/6144%8,n/6144*25%4096].map int)) sc_law_goal.nd rfl (inl rfl) (AR (ds:=[.int (n/6144%16),.int (n/6144%size),.int (ps.getD (n/6144%(ps.length:Int)).toNat 0),.int (ps.getD 0 0+n/6144%8),.int (n/6144*25%4096)]) (Aa (Ac (evv 4) Ab (A1 (by decide))) (Aa (Ac (evv 4) (evv 3) (A1 s0)) (Aa (As (evv 2) (Ac (evv 4) (A2 (Au "len" (Aa (evv 2) Ad) B1 rfl T.b_len (by decide+kernel)) (by rw[hlp])) (A1 (by omega))) (Bf m0.1 m0.2)) (Aa (Ac (As (evv 2) Ab (Bf (by decide) (by omega))) (Ac (evv 4) Ab (A1 (by decide))) AH) (Aa (Ac (Ac (evv 4) Ab (Dw (inl ⟨by omega,by omega⟩))) Ab (A1 (by decide))) Ad))))) (by walk_at"sz"))) ?_
  exact Ag (Ap (As (evv 5) (Ac (Ac (evv 1) Ab (by walk_at"od")) Ab (by walk_at"od")) (Bf k0.1 k0.2)))
 .rw[if_pos h1]at e2
  subst e2
  exact Ag (Ax (k:=true) (Am (Ah (evv 0) Ak (Eo (by walk_at"un") hcl (by decide+kernel) (by walk_at"dp") (by rw[Dh])) (Af _)) (by rw[decide_eq_false h1];rfl)) (λ_=>Ag (Ap (As (evv 2) (Ac (evv 4) (A2 (Au "len" (Aa (evv 2) Ad) B1 rfl T.b_len (by decide+kernel)) (by rw[hlp])) (A1 (by omega))) (Bf m0.1 m0.2)))) nofun)
theorem Rq{wd:Str}{n:Int}{ps:List Int}{size:Int}(n0:0<=n)(s0:0<size)(s1:size<1000)(hp:∀z∈ps,0<=z/\z<1000):0<=FR wd n ps size/\FR wd n ps size<4096:=by
 have g:∀i:Nat,0<=ps.getD i 0/\ps.getD i 0<1000:=λi=>by
  rw[getD_eq_getElem?_getD]
  cases e:ps[i]? with
  |none=>exact show(0:Int)<=0/\(0:Int)<1000 by decide
  |some y=>exact hp y (mem_of_getElem? e)
 unfold FR
 split
 .have:=g (n/6144%(ps.length:Int)).toNat;omega
 .have h5:(n/384%5).toNat=0\/(n/384%5).toNat=1\/(n/384%5).toNat=2\/(n/384%5).toNat=3\/(n/384%5).toNat=4:=by omega
  have g1:=g (n/6144%(ps.length:Int)).toNat
  have g2:=g 0
  have m1:=emod_nonneg (n/6144) (show size≠0 by omega)
  have m2:=emod_lt_of_pos (n/6144) s0
  rcases h5 with h|h|h|h|h<;>rw[h]
  .show 0<=n/6144%16/\n/6144%16<4096;omega
  .show 0<=n/6144%size/\n/6144%size<4096;omega
  .show 0<=ps.getD (n/6144%(ps.length:Int)).toNat 0/\ps.getD (n/6144%(ps.length:Int)).toNat 0<4096;omega
  .show 0<=ps.getD 0 0+n/6144%8/\ps.getD 0 0+n/6144%8<4096;omega
  .show 0<=n/6144*25%4096/\n/6144*25%4096<4096;omega
end
def pgI(ns:List Int)(k:Nat):Bool×Bool×Bool:=(decide (0<ns.getD k 0%7),decide (0<ns.getD k 0/7%6),decide (k=0)||decide (0<ns.getD k 0/42%4))
def B6(ns:List Int)(m:Nat):List (Bool×Bool×Bool):=(range m).map (pgI ns)
theorem E9(ns:List Int)(m:Nat):(B6 ns m).length=m:=by unfold B6;rw[length_map,List.length_range]
theorem LV(ns:List Int)(m:Nat):B6 ns (m+1)=B6 ns m++[pgI ns m]:=by unfold B6;rw[List.range_succ,map_append];rfl
def N9(ds:List PyData)(d:PyData):Prop:=∃(ns:List Int) (m:Nat),m<=8/\m<=ns.length/\ds=[.list (ns.map int),.int m]/\d=.list ((B6 ns m).map AI)
theorem KH(T:Txt mg)(F:Fun K "_law_pages" "_law_pages" Ep f fd)(hm:mg "_law_pages"=some (.ref f)):DFn P w K mg base 1 "_law_pages" N9:=by
 refine F.data hm (by walk_at"b2") sc_law_pages (λds d ⟨_,_,_,_,e,_⟩=>by rw[e];rfl) λcdv A outer s H E ds d hr ⟨ns,m,m8,ml,e,e2⟩=>?_
 subst e e2
 refine Rv (i:=2) sc_law_pages.nd rfl (inl rfl) (by show 2<5;decide) λH0 p=>?_
 refine C9 (Mid:=λG ds=>(∃a b,G=[some (.list (ns.map int)),some (.int m),none,a,b])/\ds=(B6 ns ((m:Nat):Int).toNat).map AI)
  (FD (j:=3) (lo:=0) (n:=((m:Nat):Int).toNat) (λk G ds=>(∃a b,G=[some (.list (ns.map int)),some (.int m),none,a,b])/\ds=(B6 ns k).map AI) never rfl (by decide) (Aw (i:=3) sc_law_pages.nd rfl (inl rfl)) ?pre ?body (λ_ _ h=>h)) (S6 ?out)
 case pre=>
  rintro G ds ⟨rfl,rfl⟩
  exact⟨⟨⟨_,_,rfl⟩,rfl⟩,NO (evv 1) (by omega) (by omega) rfl T.b_range⟩
 case body=>
  intro k hk
  have hk2:k<ns.length:=by omega
  refine AU (Mid:=λG ds=>(G=[some (.list (ns.map int)),some (.int m),none,some (.int (0+(k:Int))),some (.int (ns.getD k 0))])/\ds=(B6 ns k).map AI) (DY (j:=4) sc_law_pages.nd rfl (by decide) (inl rfl) ?_) (AU (EE ?_ (pv 2)) (BI λ_ _ h=>h))
  .rintro G ds ⟨G',⟨⟨a,b,rfl⟩,rfl⟩,rfl⟩
   exact⟨.int (ns.getD k 0),As (evv 0) (A2 (d':=.int (k:Int)) (evv 3) (by rw[zero_add])) (by have:=Bf (zs:=ns) (i:=(k:Int)) (by omega) (by omega);rw[toNat_natCast]at this;exact this),rfl,rfl,rfl⟩
  .rintro G ds ⟨rfl,rfl⟩
   refine⟨AI (pgI ns k),?_,rfl,by rw[length_map,E9,sizeLine_eq];omega,⟨_,_,rfl⟩,by rw[LV,map_append];rfl⟩
   refine AW (ds:=[.bool (decide (0<ns.getD k 0%7)),.bool (decide (0<ns.getD k 0/7%6)),.bool (decide (k=0)||decide (0<ns.getD k 0/42%4))]) (Aa (AX (Ac (evv 4) Ab (by walk_at"od")) Ab (by walk_at"od") (Af _)) (Aa (AX (Ac (Ac (evv 4) Ab (by walk_at"od")) Ab (by walk_at"od")) Ab (by walk_at"od") (Af _)) (Aa ?_ Ad))) (by walk_at"sz")
   refine UP (k:=decide (k=0)) (A2 (AX (evv 3) Ab (Bs (by walk_at"un") rfl rfl (by walk_at"dp") (Bo _ _)) (Af _)) (by congr 1;congr 1;exact propext (by omega))) (λh=>Dt (A2 (AX (Ac (Ac (evv 4) Ab (by walk_at"od")) Ab (by walk_at"od")) Ab (by walk_at"od") (Af _)) (by rw[h,Bool.false_or]))) (λh=>by rw[h,Bool.true_or])
 case out=>
  rintro G ds ⟨⟨a,b,rfl⟩,rfl⟩
  rw[toNat_natCast]
  exact Ag (Ap (evv 2))
abbrev LT:=List Int×List (Str×Int)×Int
def Jj(size:Int)(t:LT)(n:Int):LT:=if t.2.2+B5 (kL n)+2<=size then(t.1++[t.2.2],t.2.1++[(kL n,n)],t.2.2+B5 (kL n))else t
def Bv(ns:List Int)(base size:Int)(k:Nat):LT:=(ns.take k).foldl (Jj size) ([],[],base)
theorem Gf{ns:List Int}{base size n:Int}{k:Nat}(h:ns[k]?=some n):Bv ns base size (k+1)=Jj size (Bv ns base size k) n:=by
 unfold Bv
 rw[take_add_one,h,List.foldl_append]
 rfl
def kD(q:Str×Int):PyData:=.tuple [.str q.1,.int q.2]
theorem JS(wd:Str):B5 wd=1\/B5 wd=2:=by unfold B5;split<;>simp
structure LtOk(ns:List Int)(base size:Int)(t:LT):Prop where
 ge:base<=t.2.2
 le:t.2.1≠[]->t.2.2+2<=size
 len:t.1.length=t.2.1.length
 pl:∀p∈t.1,base<=p/\p<size
 ks:∀q∈t.2.1,q.1∈kL24/\q.2∈ns
 sum:(t.2.1.map λq=>B5 q.1).sum=t.2.2-base
theorem R5{ns:List Int}{base size n:Int}{t:LT}(ok:LtOk ns base size t)(hn:n∈ns):LtOk ns base size (Jj size t n):=by
 unfold Jj
 have hw:=JS (kL n)
 split
 .rename_i h
  refine⟨by show base<=t.2.2+B5 (kL n);have:=ok.ge;omega,λ_=>by show t.2.2+B5 (kL n)+2<=size;exact h,by show(t.1++[t.2.2]).length=(t.2.1++[(kL n,n)]).length;rw[length_append,length_append,ok.len];rfl,λp hp=>?_,λq hq=>?_,?_⟩
  .rcases mem_append.mp hp with hp|hp
   .exact ok.pl p hp
   .rw[mem_singleton.mp hp];have:=ok.ge;omega
  .rcases mem_append.mp hq with hq|hq
   .exact ok.ks q hq
   .rw[mem_singleton.mp hq];exact⟨Th n,hn⟩
  .show((t.2.1++[(kL n,n)]).map λq=>B5 q.1).sum=t.2.2+B5 (kL n)-base
   rw[map_append,List.sum_append,ok.sum]
   simp
   omega
 .exact ok
theorem Ff{ns:List Int}{base size:Int}:∀k,LtOk ns base size (Bv ns base size k)
 |0=>by
  unfold Bv
  rw[List.take_zero]
  exact⟨Int.le_refl _,(λh=>absurd rfl h),rfl,(λp hp=>by cases hp),(λq hq=>by cases hq),by simp[List.foldl_nil]⟩
 |k+1=>by
  cases h:ns[k]? with
  |none=>
   have e:Bv ns base size (k+1)=Bv ns base size k:=by
    unfold Bv
    rw[take_add_one,h]
    simp
   rw[e]
   exact Ff k
  |some n=>
   rw[Gf h]
   exact R5 (Ff k) (mem_of_getElem? h)
def Ck(ps:List Int)(size:Int)(ks:List (Str×Int)):List Int:=ks.flatMap λq=>rowW q.1 q.2 (FR q.1 q.2 ps size)
def FH(ns:List Int)(base size:Int):List Int:=(Bv ns base size ns.length).1
def FM(ns:List Int)(base size:Int):List (Str×Int):=(Bv ns base size ns.length).2.1
def GG(ns:List Int)(base size:Int):Int:=(Bv ns base size ns.length).2.2
def GF(ns:List Int)(base size:Int):List Int:=Ck (FH ns base size) size (FM ns base size)++if GG ns base size+2<=size/\0<ns.getD 0 0/24%3 then[2816,base]else[]
theorem Hq(ps:List Int)(size:Int)(ks:List (Str×Int)):((Ck ps size ks).length:Int)=(ks.map λq=>B5 q.1).sum:=by
 unfold Ck
 induction ks with
 |nil=>rfl
 |cons q r ih=>
  rw[List.flatMap_cons,length_append,map_cons,sum_cons]
  push_cast
  rw[ih,K4]
theorem Ld{ns:List Int}{base size:Int}(k:Nat):(Bv ns base size k).1.length<=k/\(Bv ns base size k).2.1.length<=k:=by
 have h:(Bv ns base size k).1.length<=k:=by
  induction k with
  |zero=>unfold Bv;rw[List.take_zero];exact le_refl 0
  |succ k ih=>
   cases h:ns[k]? with
   |none=>
    have e:Bv ns base size (k+1)=Bv ns base size k:=by
     unfold Bv
     rw[take_add_one,h]
     simp
    rw[e]
    omega
   |some n=>
    rw[Gf h]
    unfold Jj
    split
    .show((Bv ns base size k).1++_).length<=_;rw[length_append];show _+1<=_;omega
    .omega
 exact⟨h,by rw[<-(Ff k).len];exact h⟩
structure LaidOk(ns:List Int)(base size:Int):Prop where
 n0:0<ns.length
 n60:ns.length<=60
 nw:∀n∈ns,0<=n/\n<1000000
 b0:0<=base
 b5:base<=5
 s0:16<=size
 s1:size<=128
theorem O8{ns:List Int}{base size:Int}(ok:LaidOk ns base size):base+((GF ns base size).length:Int)<=size:=by
 have h:=Ff (ns:=ns) (base:=base) (size:=size) ns.length
 have hw:=Hq (FH ns base size) size (FM ns base size)
 have hs:((FM ns base size).map λq=>B5 q.1).sum=GG ns base size-base:=h.sum
 rw[hs]at hw
 have hb:=ok.b5
 have hs0:=ok.s0
 unfold GF
 rw[length_append]
 push_cast
 rw[hw]
 split
 .rename_i c
  show base+(GG ns base size-base+2)<=size
  have:=c.1
  omega
 .show base+(GG ns base size-base+0)<=size
  by_cases hk:FM ns base size=[]
  .rw[hk]at hs
   have:GG ns base size=base:=by simp at hs;omega
   omega
  .have:GG ns base size+2<=size:=h.le hk
   omega
theorem Mj{ns:List Int}{base size:Int}(ok:LaidOk ns base size):∀z∈GF ns base size,0<=z/\z<4096:=by
 have h:=Ff (ns:=ns) (base:=base) (size:=size) ns.length
 have b0:=ok.b0
 have b5:=ok.b5
 have s1:=ok.s1
 have s0:=ok.s0
 intro z hz
 unfold GF at hz
 rcases mem_append.mp hz with hz|hz
 .unfold Ck at hz
  obtain⟨q,hq,hz⟩:=List.mem_flatMap.mp hz
  have hk:=h.ks q hq
  refine LU hk.1 (Rq (ok.nw q.2 hk.2).1 (by omega) (by omega) λp hp=>?_) z hz
  have:=h.pl p hp
  omega
 .split at hz
  .simp only[mem_cons,not_mem_nil,or_false]at hz
   rcases hz with rfl|rfl<;>omega
  .cases hz
theorem Le{ns:List Int}{base size:Int}(ok:LaidOk ns base size):∀p∈FH ns base size,0<=p/\p<128:=λp hp=>by
 have:=(Ff (ns:=ns) (base:=base) (size:=size) ns.length).pl p hp
 have:=ok.b0
 have:=ok.s1
 omega
def Pp(ds:List PyData)(d:PyData):Prop:=∃(ns:List Int) (base size:Int),LaidOk ns base size/\ds=[.list (ns.map int),.int base,.int size]/\d=.tuple [.list ((FH ns base size).map int),.list ((GF ns base size).map int)]
theorem L9(T:Txt mg)(D_law_kind:DFn P w K mg base 1 "_law_kind" LI)(D_law_wide:DFn P w K mg base 1 "_law_wide" Ma)(D_law_row_words:DFn P w K mg base 1 "_law_row_words" Tt)(D_law_goal:DFn P w K mg base 1 "_law_goal" Mu)(F:Fun K "_law_laid" "_law_laid" Fg f fd)(hm:mg "_law_laid"=some (.ref f)):DFn P w K mg base 2 "_law_laid" Pp:=by
 refine F.data hm (by walk_at"b3") sc_law_laid (λds d ⟨_,_,_,_,e,_⟩=>by rw[e];rfl) λcdv A outer s H E ds d hr ⟨ns,bs,size,ok,e,e2⟩=>?_
 subst e e2
 refine PN (i:=3) (j:=4) (ws1:=[]) (ws2:=[]) sc_law_laid.nd rfl rfl (by decide) (inl rfl) (inl rfl) (by show 3<9;decide) (by show 4<9;decide) (DU Ad (zero_le _)) (DU Ad (zero_le _)) rfl rfl λH0 p q=>?_
 refine Ko (Mid:=λG ds es=>G=[some (.list (ns.map int)),some (.int bs),some (.int size),none,none,some (.int bs),none,none,none]/\ds=[]/\es=[]) (Mb (m:=5) sc_law_laid.nd rfl (by decide) (by decide) (inl rfl) λG ds es ⟨a,b,c⟩=>?at0) ?_
 case at0=>
  subst a b c
  exact⟨.int bs,JF 1 (by rfl) (pv 1),rfl,rfl,rfl,rfl⟩
 refine Ko (Mid:=λG ds es=>(∃a b,G=[some (.list (ns.map int)),some (.int bs),some (.int size),none,none,some (.int (GG ns bs size)),a,b,none])/\ds=(FH ns bs size).map int/\es=(FM ns bs size).map kD)
  (Uw (is:=[6]) (g:=BO 6) (B:=Hy 6) (xs:=ns.map int) (λk G ds es=>(∃a b,G=[some (.list (ns.map int)),some (.int bs),some (.int size),none,none,some (.int (Bv ns bs size k).2.2),a,b,none])/\ds=(Bv ns bs size k).1.map int/\es=(Bv ns bs size k).2.1.map kD) never rfl (by decide) (by decide) (Aw (i:=6) sc_law_laid.nd rfl (inl rfl)) ?bd ?nl ?pre ?st ?post) (S3 ?out)
 case bd=>exact λd _=>LQ 6 d
 case nl=>
  intro d hd
  obtain⟨n,_,rfl⟩:=mem_map.mp hd
  rfl
 case pre=>
  rintro G ds es ⟨rfl,rfl,rfl⟩
  exact⟨⟨⟨none,none,rfl⟩,rfl,rfl⟩,Rn (pv 0) rfl⟩
 case post=>
  rintro G ds es ⟨⟨a,b,rfl⟩,rfl,rfl⟩
  rw[length_map]
  exact⟨⟨a,b,rfl⟩,rfl,rfl⟩
 case st=>
  intro H1 k d hd
  rw[getElem?_map]at hd
  obtain⟨n,hn,rfl⟩:=Option.map_eq_some_iff.mp hd
  have fw:=Ld (ns:=ns) (base:=bs) (size:=size) k
  have hkl:k<ns.length:=(List.getElem?_eq_some_iff.mp hn).1
  have n60:=ok.n60
  refine DG (Mid:=λG ds es=>G=[some (.list (ns.map int)),some (.int bs),some (.int size),none,none,some (.int (Bv ns bs size k).2.2),some (.int n),some (.str (kL n)),none]/\ds=(Bv ns bs size k).1.map int/\es=(Bv ns bs size k).2.1.map kD) (Mb (m:=7) sc_law_laid.nd rfl (by decide) (by decide) (inl rfl) λG ds es ⟨G',⟨⟨a,b,e1⟩,e2,e3⟩,e4⟩=>?w0) ?_
  case w0=>
   subst e1 e2 e3 e4
   exact⟨.str (kL n),An D_law_kind (by walk_at"rm") rfl (Aa (evv 6) Ad) ⟨n,rfl,rfl⟩,rfl,rfl,rfl,rfl⟩
  rw[Gf hn]
  generalize Bv ns bs size k=t at fw
  unfold Jj
  by_cases hc:t.2.2+B5 (kL n)+2<=size
  .rw[if_pos hc]
   refine DG (SM (PreA:=λG ds es=>G=[some (.list (ns.map int)),some (.int bs),some (.int size),none,none,some (.int t.2.2),some (.int n),some (.str (kL n)),none]/\ds=t.1.map int/\es=t.2.1.map kD) (PreB:=λ_ _ _=>False) (λG ds es ⟨a,b,c⟩=>.inl ⟨?tt,a,b,c⟩) ?A (FO λ_ _ _ z=>z.elim)) (FO λ_ _ _ h=>h)
   case tt=>
    subst a b c
    exact Am (Ah (Ac (Ac (evv 5) (An D_law_wide (by walk_at"rm") rfl (Aa (evv 7) Ad) ⟨_,rfl,rfl⟩) AH) Ab AH) (evv 2) Ef (Af _)) (decide_eq_true hc)
   case A=>
    refine DG (Mid:=λG ds es=>G=[some (.list (ns.map int)),some (.int bs),some (.int size),none,none,some (.int t.2.2),some (.int n),some (.str (kL n)),none]/\ds=(t.1++[t.2.2]).map int/\es=t.2.1.map kD) (Jg (λG ds es ⟨a,b,c⟩=>?p1) (pv 3)) ?_
    case p1=>
     subst a b c
     exact⟨.int t.2.2,JF 5 (by rfl) (pv 5),rfl,by rw[length_map,sizeLine_eq];omega,rfl,FX _ _,rfl⟩
    refine DG (Mid:=λG ds es=>G=[some (.list (ns.map int)),some (.int bs),some (.int size),none,none,some (.int t.2.2),some (.int n),some (.str (kL n)),none]/\ds=(t.1++[t.2.2]).map int/\es=(t.2.1++[(kL n,n)]).map kD) (S4 (Jg (λG es ds ⟨a,b,c⟩=>?p2) (pv 4))) ?_
    case p2=>
     subst a b c
     exact⟨kD (kL n,n),AW (ds:=[.str (kL n),.int n]) (Aa (evv 7) (Aa (evv 6) Ad)) (by walk_at"sz"),rfl,by rw[length_map,sizeLine_eq];omega,rfl,rfl,by rw[map_append];rfl⟩
    refine DG (Mb (m:=5) sc_law_laid.nd rfl (by decide) (by decide) (inl rfl) λG ds es ⟨a,b,c⟩=>?p3) (FO λ_ _ _ h=>h)
    case p3=>
     subst a b c
     exact⟨.int (t.2.2+B5 (kL n)),Ac (evv 5) (An D_law_wide (by walk_at"rm") rfl (Aa (evv 7) Ad) ⟨_,rfl,rfl⟩) AH,rfl,⟨_,_,rfl⟩,rfl,rfl⟩
  .rw[if_neg hc]
   refine DG (SM (PreA:=λ_ _ _=>False) (PreB:=λG ds es=>(∃a b,G=[some (.list (ns.map int)),some (.int bs),some (.int size),none,none,some (.int t.2.2),a,b,none])/\ds=t.1.map int/\es=t.2.1.map kD) (λG ds es ⟨a,b,c⟩=>.inr ⟨?tf,⟨_,_,a⟩,b,c⟩) (λpins s σ H D I ⟨⟨_,_,_,z,_⟩,_⟩=>z.elim) (FO λ_ _ _ h=>h)) (FO λ_ _ _ h=>h)
   case tf=>
    subst a b c
    exact Am (Ah (Ac (Ac (evv 5) (An D_law_wide (by walk_at"rm") rfl (Aa (evv 7) Ad) ⟨_,rfl,rfl⟩) AH) Ab AH) (evv 2) Ef (Af _)) (decide_eq_false hc)
 case out=>
  rintro G ds es ⟨⟨a,b,rfl⟩,rfl,rfl⟩
  have lt:=Ff (ns:=ns) (base:=bs) (size:=size) ns.length
  have few:=Ld (ns:=ns) (base:=bs) (size:=size) ns.length
  have n60:=ok.n60
  have s0:=ok.s0
  have s1:=ok.s1
  have hlp:(FH ns bs size).length=(FM ns bs size).length:=lt.len
  have hks:∀q∈FM ns bs size,q.1∈kL24/\q.2∈ns:=lt.ks
  have hkf:(FM ns bs size).length<=ns.length:=few.2
  unfold GF
  generalize FH ns bs size=ps at hlp ⊢
  generalize FM ns bs size=ks at hlp hks hkf ⊢
  generalize GG ns bs size=tt
  have wl:∀k,(Ck ps size (ks.take k)).length<=2*k:=λk=>by
   have h1:=Hq ps size (ks.take k)
   have h2:∀l:List (Str×Int),(l.map λq=>B5 q.1).sum<=2*(l.length:Int):=by
    intro l
    induction l with
    |nil=>exact Int.le_refl 0
    |cons q r ih=>rw[map_cons,sum_cons,length_cons];push_cast;have:=JS q.1;omega
   have h3:=h2 (ks.take k)
   have h4:(ks.take k).length<=k:=by rw[length_take];omega
   omega
  refine QD (G:=[some (.list (ns.map int)),some (.int bs),some (.int size),some (.list (ps.map int)),some (.list (ks.map kD)),some (.int tt),none,none,none]) ?_ rfl ?fr
  case fr=>
   intro m d e
   match m,e with
   |0,e=>exact e
   |1,e=>exact e
   |2,e=>exact e
   |3,e=>exact e
   |4,e=>exact e
   |5,e=>exact e
   |6,e=>cases e
   |7,e=>cases e
   |8,e=>cases e
   |n+9,e=>cases e
  refine Ai (AE (i:=8) (d:=.list []) sc_law_laid.nd rfl (inl rfl) (AR (ds:=[]) Ad (by walk_at"sz"))) ?_
  refine Ai (Lv (k:=0) (as:=ks) (D:=kD) (g:=gTup K 2 (Ds [7,6])) (B:=Nu [7,6]) (λk=>[some (.list (ns.map int)),some (.int bs),some (.int size),some (.list (ps.map int)),some (.list (ks.map kD)),some (.int tt),none,none,some (.list ((Ck ps size (ks.take k)).map int))]) never rfl
   (FA (evv 4)) (Dl rfl (A5 (Aw (i:=7) sc_law_laid.nd rfl (inl rfl)) (A5 (Aw (i:=6) sc_law_laid.nd rfl (inl rfl)) BT))) (λq _=>JW [7,6] [.str q.1,.int q.2] rfl) ?lp) ?_
  case lp=>
   intro k q hq
   have hm:=hks q (mem_of_getElem? hq)
   have hn:=ok.nw q.2 hm.2
   have hk:k<ks.length:=(List.getElem?_eq_some_iff.mp hq).1
   have ew:Ck ps size (ks.take (k+1))=Ck ps size (ks.take k)++rowW q.1 q.2 (FR q.1 q.2 ps size):=by
    unfold Ck
    rw[take_add_one,hq,List.flatMap_append]
    simp
   have hz:((Ck ps size (ks.take k)).map int).length+((rowW q.1 q.2 (FR q.1 q.2 ps size)).map int).length<=sizeLine:=by
    rw[length_map,length_map,sizeLine_eq]
    have h1:=wl k
    have h2:=K4 q.1 q.2 (FR q.1 q.2 ps size)
    have h3:=JS q.1
    omega
   refine Fk (G1:=[some (.list (ns.map int)),some (.int bs),some (.int size),some (.list (ps.map int)),some (.list (ks.map kD)),some (.int tt),some (.int q.2),some (.str q.1),some (.list ((Ck ps size (ks.take (k+1))).map int))]) (Ai (AE (i:=8) (d:=.list ((Ck ps size (ks.take (k+1))).map int)) sc_law_laid.nd rfl (inl rfl) (A2 (Ac (evv 8) (An D_law_row_words (by walk_at"rm") rfl (Aa (evv 7) (Aa (evv 6) (Aa (An D_law_goal (by walk_at"rm") rfl (Aa (evv 7) (Aa (evv 6) (Aa (evv 3) (Aa (evv 2) Ad)))) ⟨q.1,q.2,ps,size,hm.1,hn.1,hn.2,by omega,by omega,by omega,rfl,rfl⟩) Ad))) ⟨q.1,q.2,_,hm.1,rfl,rfl⟩) (C6 hz)) (by rw[ew,map_append]))) Ar) rfl ?fg
   case fg=>
    intro m d e
    match m,e with
    |0,e=>exact e
    |1,e=>exact e
    |2,e=>exact e
    |3,e=>exact e
    |4,e=>exact e
    |5,e=>exact e
    |6,e=>cases e
    |7,e=>cases e
    |8,e=>exact e
    |n+9,e=>cases e
  rw[take_of_length_le (le_refl _)]
  have wl2:=wl ks.length
  rw[take_of_length_le (le_refl _)]at wl2
  generalize Ck ps size ks=ws at wl2 ⊢
  have hn0:(0:Int)<ns.length:=by have:=ok.n0;omega
  have hz2:(ws.map int).length+[int (11*256),.int bs].length<=sizeLine:=by rw[length_map,sizeLine_eq];show ws.length+2<=_;omega
  have t1:decide (tt+2<=size)=true->decide (0<ns.getD 0 0/24%3)=true->tt+2<=size/\0<ns.getD 0 0/24%3:=λa b=>⟨of_decide_eq_true a,of_decide_eq_true b⟩
  by_cases c1:tt+2<=size
  .by_cases c2:0<ns.getD 0 0/24%3
   .rw[if_pos ⟨c1,c2⟩]
    refine Ai (G1:=[some (.list (ns.map int)),some (.int bs),some (.int size),some (.list (ps.map int)),some (.list (ks.map kD)),some (.int tt),none,none,some (.list ((ws++[2816,bs]).map int))]) (Ax (k:=true) (Am (Bn (AY (k:=true) (k':=true) (Am (Ah (Ac (evv 5) Ab AH) (evv 2) Ef (Af _)) (decide_eq_true c1)) (λ_=>Bg (Am (Ah (Ac (Ac (As (evv 0) Ab (Bf (by decide) hn0)) Ab (by walk_at"od")) Ab (by walk_at"od")) Ab FN (Af _)) (decide_eq_true c2))))) rfl) (λ_=>Ai (AE (i:=8) (d:=.list ((ws++[2816,bs]).map int)) sc_law_laid.nd rfl (inl rfl) (A2 (Ac (evv 8) (AR (ds:=[.int (11*256),.int bs]) (Aa (Ac Ab Ab (by walk_at"od")) (Aa (evv 1) Ad)) (by walk_at"sz")) (C6 hz2)) (by rw[map_append];rfl))) Ar) nofun) ?_
    exact Ag (Ap (AW (ds:=[.list (ps.map int),.list ((ws++[2816,bs]).map int)]) (Aa (evv 3) (Aa (evv 8) Ad)) (by walk_at"sz")))
   .rw[if_neg (λz=>c2 z.2),append_nil]
    refine Ai (Ax (k:=false) (Am (Bn (AY (k:=true) (k':=false) (Am (Ah (Ac (evv 5) Ab AH) (evv 2) Ef (Af _)) (decide_eq_true c1)) (λ_=>Bg (Am (Ah (Ac (Ac (As (evv 0) Ab (Bf (by decide) hn0)) Ab (by walk_at"od")) Ab (by walk_at"od")) Ab FN (Af _)) (decide_eq_false c2))))) rfl) nofun (λ_=>Ar)) ?_
    exact Ag (Ap (AW (ds:=[.list (ps.map int),.list (ws.map int)]) (Aa (evv 3) (Aa (evv 8) Ad)) (by walk_at"sz")))
  .rw[if_neg (λz=>c1 z.1),append_nil]
   refine Ai (Ax (k:=false) (Am (Bn (AY (k:=false) (k':=false) (Am (Ah (Ac (evv 5) Ab AH) (evv 2) Ef (Af _)) (decide_eq_false c1)) nofun)) rfl) nofun (λ_=>Ar)) ?_
   exact Ag (Ap (AW (ds:=[.list (ps.map int),.list (ws.map int)]) (Aa (evv 3) (Aa (evv 8) Ad)) (by walk_at"sz")))
theorem Ki{l:List Int}{a b:Nat}(h1:a<=b)(h2:b<=l.length):cutD (l.map int) (some (a:Int)) (some (b:Int))=((l.drop a).take (b-a)).map int:=by
 unfold cutD
 rw[HT.sIx_nat,HT.sIx_nat,length_map,Nat.min_eq_left h2,Nat.min_eq_left (le_trans h1 h2),map_take,map_drop]
def NW(ds:List PyData)(d:PyData):Prop:=∃S:MS,MsOk S/\d=.tuple [.list (S.pg.map AI),.list (S.mem.map int),.list (S.bx.map int),.int S.here]
def MD(ds:List PyData):Prop:=∃(ns:List Int) (a:Int),ns.length<=63/\ds=[.list (ns.map .int),.int a]
def frP(sc at_:PyData)(rs:List Int)(M:Nat)(a b c d e f g:Option PyData):Gam:=[some sc,some at_,some (.list (rs.map int)),some (.int (rs.getD 0 0)),some (.int M),some (.int (16*(M:Int))),none,a,b,c,d,e,f,g]
theorem EL{p q:Prop} [Decidable p] [Decidable q](h:¬(p/\q)):(decide p&&decide q)=false:=by
 cases Decidable.em p with
 |inl x=>rw[decide_eq_false (λy=>h ⟨x,y⟩),Bool.and_false]
 |inr x=>rw[decide_eq_false x,Bool.false_and]
theorem IE(T:Txt mg)(R_law_numbers:RFn P w K mg base 1 "_law_numbers" numF JG)(D_law_laid:DFn P w K mg base 2 "_law_laid" Pp)(D_law_pages:DFn P w K mg base 1 "_law_pages" N9)(F:Fun K "_law_program" "_law_program" BD f fd)(hm:mg "_law_program"=some (.ref f)):RFn P w K mg base 3 "_law_program" NW MD:=by
 refine F.dataR hm (by walk_at"b2") sc_law_program (λds ⟨_,_,_,e⟩=>by rw[e];rfl) λcdv A outer s H E ds hr ⟨ns,a0,hns,e⟩=>?_
 subst e
 refine QJ (i:=2) sc_law_program.nd rfl (inl rfl) (Ij R_law_numbers (by walk_at"rm") rfl (Aa (evv 0) (Aa (evv 1) (Aa Ab Ad))) ⟨ns,a0,80,hns,by decide,rfl⟩) λd hd=>?_
 obtain⟨_,_,many,e,rs,hl,hw,rfl⟩:=hd
 have em:many=80:=by
  injection e with _ e
  injection e with _ e
  injection e with e _
  injection e with e
  omega
 subst em
 clear e
 have at_:∀i:Nat,i<80->atI (rs.map int) (i:Int)=some (.int (rs.getD i 0)):=λi hi=>by
  have:=Bf (zs:=rs) (i:=(i:Int)) (by omega) (by omega)
  rw[toNat_natCast]at this
  exact this
 have in_:∀i:Nat,0<=rs.getD i 0/\rs.getD i 0<1000000:=λi=>by
  rw[getD_eq_getElem?_getD]
  cases e:rs[i]? with
  |none=>exact show(0:Int)<=0/\(0:Int)<1000000 by decide
  |some y=>exact hw y (mem_of_getElem? e)
 have h0:=in_ 0
 refine Dy (AE (i:=3) (d:=.int (rs.getD 0 0)) sc_law_program.nd rfl (inl rfl) (As (evv 2) Ab (at_ 0 (by decide)))) ?_
 refine Dy (AE (i:=4) (d:=.int (1+rs.getD 0 0%4)) sc_law_program.nd rfl (inl rfl) (Ac Ab (Ac (evv 3) Ab (A1 (by decide))) AH)) ?_
 have rest:∀M:Nat,1<=M->M<=8->RVs (cxOf CX0 P w K mg base ["script","at","numbers","head","many","size","cells","k","draw","base","places","words","boxes","place"] "_law_program" (Ae BD) f cdv A outer s H E).nox [some (.list (ns.map int)),some (.int a0),some (.list (rs.map int)),some (.int (rs.getD 0 0)),some (.int M),none,none,none,none,none,none,none,none,none] ((AN BD).drop 4) (NW [.list (ns.map int),.int a0]):=by
  intro M M1 M8
  refine Dy (AE (i:=5) (d:=.int (16*(M:Int))) sc_law_program.nd rfl (inl rfl) (Ac Ab (evv 4) (Dw (inl ⟨by omega,by omega⟩)))) ?_
  refine Jx (i:=6) sc_law_program.nd rfl (inl rfl) (by show 6<14;decide) λH0 p=>?_
  have hS:(16*(M:Int)).toNat=16*M:=by omega
  refine C9 (Mid:=λG ds=>(∃a b,G=frP (.list (ns.map int)) (.int a0) rs M a b none none none none none)/\∃cs:List Int,cs.length=16*M/\(∀z∈cs,0<=z/\z<4096)/\ds=cs.map int)
   (FD (j:=7) (lo:=0) (n:=(16*(M:Int)).toNat) (λk G ds=>(∃a b,G=frP (.list (ns.map int)) (.int a0) rs M a b none none none none none)/\∃cs:List Int,cs.length=k/\(∀z∈cs,0<=z/\z<4096)/\ds=cs.map int) never rfl (by decide) (Aw (i:=7) sc_law_program.nd rfl (inl rfl)) ?pre ?body (λG ds h=>by rw[hS]at h;exact h)) ?_
  case pre=>
   rintro G ds ⟨rfl,rfl⟩
   exact⟨⟨⟨none,none,rfl⟩,[],rfl,(λz hz=>by cases hz),rfl⟩,NO (evv 5) (by omega) (by omega) rfl T.b_range⟩
  case body=>
   intro k hk
   have k1:0<=(k:Int)%60/\(k:Int)%60<60:=by omega
   have hi:((10+(k:Int)%60).toNat:Int)=10+(k:Int)%60:=by omega
   have hv:=in_ (10+(k:Int)%60).toNat
   refine AU (Mid:=λG ds=>(∃z:Int,0<=z/\z<2000000/\G=frP (.list (ns.map int)) (.int a0) rs M (some (.int (0+(k:Int)))) (some (.int z)) none none none none none)/\∃cs:List Int,cs.length=k/\(∀z∈cs,0<=z/\z<4096)/\ds=cs.map int) (DY (j:=8) sc_law_program.nd rfl (by decide) (inl rfl) ?_) (AU (EE ?_ (pv 6)) (BI λ_ _ h=>h))
   .rintro G ds ⟨G',⟨⟨a,b,rfl⟩,cs,c1,c2,rfl⟩,rfl⟩
    refine⟨.int (rs.getD (10+(k:Int)%60).toNat 0+37*(k:Int)),A2 (Ac (As (evv 2) (Ac Ab (Ac (A2 (d':=.int (k:Int)) (evv 7) (by rw[zero_add])) Ab (A1 (by decide))) AH) (hi▸at_ _ (by omega))) (Ac Ab (A2 (d':=.int (k:Int)) (evv 7) (by rw[zero_add])) (Dw (inl ⟨by omega,by omega⟩))) AH) rfl,rfl,⟨_,by omega,by omega,rfl⟩,cs,c1,c2,rfl⟩
   .rintro G ds ⟨⟨z,z0,z1,rfl⟩,cs,c1,c2,rfl⟩
    have q0:0<=z/16%4/\z/16%4<4:=by omega
    have vs:∃v:Int,(0<=v/\v<4096)/\atI ([0,z%16,z%(16*(M:Int)),z%4096].map int) (z/16%4)=some (.int v):=by
     refine⟨_,?_,Bf q0.1 q0.2⟩
     have m1:=emod_nonneg z (show 16*(M:Int)≠0 by omega)
     have m2:=emod_lt_of_pos z (show 0<16*(M:Int) by omega)
     have:(z/16%4).toNat=0\/(z/16%4).toNat=1\/(z/16%4).toNat=2\/(z/16%4).toNat=3:=by omega
     rcases this with h|h|h|h<;>rw[h]
     .exact show(0:Int)<=0/\(0:Int)<4096 by decide
     .show 0<=z%16/\z%16<4096;omega
     .show 0<=z%(16*(M:Int))/\z%(16*(M:Int))<4096;omega
     .show 0<=z%4096/\z%4096<4096;omega
    obtain⟨v,hv2,hat⟩:=vs
    refine⟨.int v,As (AR (ds:=[.int 0,.int (z%16),.int (z%(16*(M:Int))),.int (z%4096)]) (Aa Ab (Aa (Ac (evv 8) Ab (A1 (by decide))) (Aa (Ac (evv 8) (evv 5) (A1 (by omega))) (Aa (Ac (evv 8) Ab (A1 (by decide))) Ad)))) (by walk_at"sz")) (Ac (Ac (evv 8) Ab (by walk_at"od")) Ab (by walk_at"od")) hat,rfl,by rw[length_map,sizeLine_eq];omega,⟨_,_,rfl⟩,cs++[v],by rw[length_append,c1];rfl,λy hy=>?_,FX cs v⟩
    rcases mem_append.mp hy with hy|hy
    .exact c2 y hy
    .rw[mem_singleton.mp hy];exact hv2
  have b0:0<=rs.getD 0 0/36%6/\rs.getD 0 0/36%6<=5:=by omega
  refine C9 (Mid:=λG ds=>(∃a b,G=frP (.list (ns.map int)) (.int a0) rs M a b (some (.int (rs.getD 0 0/36%6))) none none none none)/\∃cs:List Int,cs.length=16*M/\(∀z∈cs,0<=z/\z<4096)/\ds=cs.map int) (DY (j:=9) sc_law_program.nd rfl (by decide) (inl rfl) ?_) ?_
  .rintro G ds ⟨⟨a,b,rfl⟩,cs,c1,c2,rfl⟩
   exact⟨.int (rs.getD 0 0/36%6),Ac (Ac (evv 3) Ab (by walk_at"od")) Ab (by walk_at"od"),rfl,⟨a,b,rfl⟩,cs,c1,c2,rfl⟩
  have q0:0<=rs.getD 0 0/216%24/\rs.getD 0 0/216%24<24:=by omega
  have lok:LaidOk ((rs.drop 20).take (2+(rs.getD 0 0/216%24).toNat)) (rs.getD 0 0/36%6) (16*(M:Int)):=⟨by rw[length_take,length_drop];omega,by rw[length_take];omega,λn hn=>hw n (List.mem_of_mem_drop (List.mem_of_mem_take hn)),b0.1,b0.2,by omega,by omega⟩
  have ecut:cutD (rs.map int) (some 20) (some (20+2+rs.getD 0 0/216%24))=((rs.drop 20).take (2+(rs.getD 0 0/216%24).toNat)).map int:=by
   have:=Ki (l:=rs) (a:=20) (b:=22+(rs.getD 0 0/216%24).toNat) (by omega) (by omega)
   rw[show((22+(rs.getD 0 0/216%24).toNat:Nat):Int)=20+2+rs.getD 0 0/216%24 by omega,show 22+(rs.getD 0 0/216%24).toNat-20=2+(rs.getD 0 0/216%24).toNat by omega]at this
   exact this
  generalize (rs.drop 20).take (2+(rs.getD 0 0/216%24).toNat)=ls at lok ecut
  generalize hbs:rs.getD 0 0/36%6=bs at b0 lok
  refine C9 (Mid:=λG ds=>(∃a b,G=frP (.list (ns.map int)) (.int a0) rs M a b (some (.int bs)) (some (.list ((FH ls bs (16*(M:Int))).map int))) (some (.list ((GF ls bs (16*(M:Int))).map int))) none none)/\∃cs:List Int,cs.length=16*M/\(∀z∈cs,0<=z/\z<4096)/\ds=cs.map int)
   (Pa (j:=10) (l:=11) (Dl rfl (A5 (Aw (i:=10) sc_law_program.nd rfl (inl rfl)) (A5 (Aw (i:=11) sc_law_program.nd rfl (inl rfl)) BT))) (by decide) (by decide) ?_) ?_
  .rintro G ds ⟨⟨a,b,rfl⟩,cs,c1,c2,rfl⟩
   exact⟨_,_,An D_law_laid (by walk_at"rm") rfl (Aa (A2 (JC (evv 2) (Co Ab) (Co (Ac (Ac Ab Ab AH) (Ac (Ac (evv 3) Ab (by walk_at"od")) Ab (by walk_at"od")) AH))) (congrArg list ecut)) (Aa (evv 9) (Aa (evv 5) Ad))) ⟨ls,bs,_,lok,rfl,rfl⟩,⟨a,b,rfl⟩,cs,c1,c2,rfl⟩
  have lfit:=O8 lok
  have lwd:=Mj lok
  have lpl:=Le lok
  generalize FH ls bs (16*(M:Int))=ps at lpl
  generalize GF ls bs (16*(M:Int))=ws at lfit lwd
  have hwl:((ws.map int).length:Int)=ws.length:=by rw[length_map]
  have hwn:((ws.map int).length:Int).toNat=ws.length:=by rw[hwl,toNat_natCast]
  refine C9 (Mid:=λG ds=>(∃a b,G=frP (.list (ns.map int)) (.int a0) rs M a b (some (.int bs)) (some (.list (ps.map int))) (some (.list (ws.map int))) none none)/\∃cs:List Int,cs.length=16*M/\(∀z∈cs,0<=z/\z<4096)/\ds=cs.map int)
   (FD (j:=7) (lo:=0) (n:=((ws.map int).length:Int).toNat) (λk G ds=>(∃a b,G=frP (.list (ns.map int)) (.int a0) rs M a b (some (.int bs)) (some (.list (ps.map int))) (some (.list (ws.map int))) none none)/\∃cs:List Int,cs.length=16*M/\(∀z∈cs,0<=z/\z<4096)/\ds=cs.map int) never rfl (by decide) (Aw (i:=7) sc_law_program.nd rfl (inl rfl)) ?pre2 ?body2 (λG ds h=>h)) ?_
  case pre2=>
   rintro G ds ⟨⟨a,b,rfl⟩,cs,c1,c2,rfl⟩
   exact⟨⟨⟨a,b,rfl⟩,cs,c1,c2,rfl⟩,NO (Au "len" (Aa (evv 11) Ad) B1 rfl T.b_len (by decide+kernel)) (by omega) (by omega) rfl T.b_range⟩
  case body2=>
   intro k hk
   rw[hwn]at hk
   refine AU (Us (k:=0) (pv 6) ?_) (BI λ_ _ h=>h)
   rintro G ds ⟨G',⟨⟨a,b,rfl⟩,cs,c1,c2,rfl⟩,rfl⟩
   have hx:=Bf (zs:=ws) (i:=(k:Int)) (by omega) (by omega)
   rw[toNat_natCast]at hx
   refine⟨.int (ws.getD k 0),bs+(k:Int),As (evv 11) (A2 (d':=.int (k:Int)) (evv 7) (by rw[zero_add])) hx,rfl,Ac (evv 9) (A2 (d':=.int (k:Int)) (evv 7) (by rw[zero_add])) AH,by omega,by rw[length_map,c1];omega,⟨_,_,rfl⟩,cs.set (bs+(k:Int)).toNat (ws.getD k 0),by rw[length_set,c1],λz hz=>?_,Cq _ _ _⟩
   rcases List.mem_or_eq_of_mem_set hz with hz|hz
   .exact c2 z hz
   .rw[hz]
    have hk2:k<ws.length:=hk
    rw[getD_eq_getElem?_getD,getElem?_eq_getElem hk2]
    exact lwd _ (getElem_mem hk2)
  refine Qi ?_
  rintro G ds ⟨⟨a,b,rfl⟩,cs,c1,c2,rfl⟩
  have v70:=in_ 70
  have v71:=in_ 71
  have v72:=in_ 72
  have v73:=in_ 73
  have v74:=in_ 74
  have m1:=emod_nonneg (rs.getD 71 0) (show 16*(M:Int)≠0 by omega)
  have m2:=emod_lt_of_pos (rs.getD 71 0) (show 0<16*(M:Int) by omega)
  have c9:cutD (rs.map int) (some 1) (some 9)=((rs.drop 1).take 8).map int:=Ki (l:=rs) (a:=1) (b:=9) (by decide) (by omega)
  have lps:((ps.map int).length:Int)=ps.length:=by rw[length_map]
  have fin:∀pl:Int,0<=pl->pl<4096->∃d,NW [.list (ns.map int),.int a0] d/\d=.tuple [.list ((B6 ((rs.drop 1).take 8) M).map AI),.list (cs.map int),.list ([rs.getD 70 0%16,rs.getD 71 0%(16*(M:Int)),bs+rs.getD 72 0%16,rs.getD 73 0%4096].map int),.int pl]:=λpl p0 p1=>by
   refine⟨_,⟨⟨B6 ((rs.drop 1).take 8) M,cs,[rs.getD 70 0%16,rs.getD 71 0%(16*(M:Int)),bs+rs.getD 72 0%16,rs.getD 73 0%4096],pl,false,false,[],[],0⟩,⟨by show 1<=(B6 _ M).length;rw[E9];exact M1,by show(B6 _ M).length<=8;rw[E9];exact M8,by show cs.length=16*(B6 _ M).length;rw[E9];exact c1,c2,rfl,λz hz=>?_,⟨p0,p1⟩⟩,rfl⟩,rfl⟩
   simp only[mem_cons,not_mem_nil,or_false]at hz
   rcases hz with rfl|rfl|rfl|rfl<;>omega
  have pgs:N9 [.list (((rs.drop 1).take 8).map int),.int M] (.list ((B6 ((rs.drop 1).take 8) M).map AI)):=⟨_,M,M8,by rw[length_take,length_drop];omega,rfl,rfl⟩
  by_cases hc:rs.getD 74 0%8=7/\0<(ps.length:Int)
  .have j0:0<=rs.getD 74 0/8%(ps.length:Int)/\rs.getD 74 0/8%(ps.length:Int)<ps.length:=⟨emod_nonneg _ (by omega),emod_lt_of_pos _ hc.2⟩
   have hpl:0<=ps.getD (rs.getD 74 0/8%(ps.length:Int)).toNat 0/\ps.getD (rs.getD 74 0/8%(ps.length:Int)).toNat 0<128:=by
    have hi:(rs.getD 74 0/8%(ps.length:Int)).toNat<ps.length:=by omega
    rw[getD_eq_getElem?_getD,getElem?_eq_getElem hi]
    exact lpl _ (getElem_mem hi)
   obtain⟨d,hd,ed⟩:=fin _ hpl.1 (by omega)
   refine⟨d,hd,?_⟩
   subst ed
   refine Ai (AE (i:=12) (d:=.list ([rs.getD 70 0%16,rs.getD 71 0%(16*(M:Int)),bs+rs.getD 72 0%16,rs.getD 73 0%4096].map int)) sc_law_program.nd rfl (inl rfl) (AR (ds:=[.int (rs.getD 70 0%16),.int (rs.getD 71 0%(16*(M:Int))),.int (bs+rs.getD 72 0%16),.int (rs.getD 73 0%4096)]) (Aa (Ac (As (evv 2) Ab (at_ 70 (by decide))) Ab (A1 (by decide))) (Aa (Ac (As (evv 2) Ab (at_ 71 (by decide))) (evv 5) (A1 (by omega))) (Aa (Ac (evv 9) (Ac (As (evv 2) Ab (at_ 72 (by decide))) Ab (A1 (by decide))) AH) (Aa (Ac (As (evv 2) Ab (at_ 73 (by decide))) Ab (A1 (by decide))) Ad)))) (by walk_at"sz"))) ?_
   refine Ai (AE (i:=13) (d:=.int bs) sc_law_program.nd rfl (inl rfl) (evv 9)) ?_
   refine Ai (Ax (k:=true) (Am (Bn (AY (k:=true) (k':=true) (Am (Ah (Ac (As (evv 2) Ab (at_ 74 (by decide))) Ab (A1 (by decide))) Ab (Bs (by walk_at"un") rfl rfl (by walk_at"dp") (Bo _ _)) (Af _)) (decide_eq_true hc.1)) (λ_=>Bg (Am (Ah (Au "len" (Aa (evv 10) Ad) B1 rfl T.b_len (by decide+kernel)) Ab FN (Af _)) (by rw[lps];exact decide_eq_true hc.2))))) rfl) (λ_=>Ai (AE (i:=13) (d:=.int (ps.getD (rs.getD 74 0/8%(ps.length:Int)).toNat 0)) sc_law_program.nd rfl (inl rfl) (As (evv 10) (Ac (Ac (As (evv 2) Ab (at_ 74 (by decide))) Ab (by walk_at"od")) (A2 (Au "len" (Aa (evv 10) Ad) B1 rfl T.b_len (by decide+kernel)) (by rw[lps])) (A1 hc.2)) (Bf j0.1 j0.2))) Ar) nofun) ?_
   exact Ag (Ap (AW (ds:=[.list ((B6 ((rs.drop 1).take 8) M).map AI),.list (cs.map int),.list ([rs.getD 70 0%16,rs.getD 71 0%(16*(M:Int)),bs+rs.getD 72 0%16,rs.getD 73 0%4096].map int),.int (ps.getD (rs.getD 74 0/8%(ps.length:Int)).toNat 0)]) (Aa (An D_law_pages (by walk_at"rm") rfl (Aa (A2 (JC (evv 2) (Co Ab) (Co Ab)) (congrArg list c9)) (Aa (evv 4) Ad)) pgs) (Aa (evv 6) (Aa (evv 12) (Aa (evv 13) Ad)))) (by walk_at"sz")))
  .obtain⟨d,hd,ed⟩:=fin bs b0.1 (by omega)
   refine⟨d,hd,?_⟩
   subst ed
   refine Ai (AE (i:=12) (d:=.list ([rs.getD 70 0%16,rs.getD 71 0%(16*(M:Int)),bs+rs.getD 72 0%16,rs.getD 73 0%4096].map int)) sc_law_program.nd rfl (inl rfl) (AR (ds:=[.int (rs.getD 70 0%16),.int (rs.getD 71 0%(16*(M:Int))),.int (bs+rs.getD 72 0%16),.int (rs.getD 73 0%4096)]) (Aa (Ac (As (evv 2) Ab (at_ 70 (by decide))) Ab (A1 (by decide))) (Aa (Ac (As (evv 2) Ab (at_ 71 (by decide))) (evv 5) (A1 (by omega))) (Aa (Ac (evv 9) (Ac (As (evv 2) Ab (at_ 72 (by decide))) Ab (A1 (by decide))) AH) (Aa (Ac (As (evv 2) Ab (at_ 73 (by decide))) Ab (A1 (by decide))) Ad)))) (by walk_at"sz"))) ?_
   refine Ai (AE (i:=13) (d:=.int bs) sc_law_program.nd rfl (inl rfl) (evv 9)) ?_
   refine Ai (Ax (k:=false) (Am (Bn (AY (k:=decide (rs.getD 74 0%8=7)) (k':=decide (0<(ps.length:Int))) (Ah (Ac (As (evv 2) Ab (at_ 74 (by decide))) Ab (A1 (by decide))) Ab (Bs (by walk_at"un") rfl rfl (by walk_at"dp") (Bo _ _)) (Af _)) (λ_=>Bg (Am (Ah (Au "len" (Aa (evv 10) Ad) B1 rfl T.b_len (by decide+kernel)) Ab FN (Af _)) (by rw[lps]))))) (EL hc)) nofun (λ_=>Ar)) ?_
   exact Ag (Ap (AW (ds:=[.list ((B6 ((rs.drop 1).take 8) M).map AI),.list (cs.map int),.list ([rs.getD 70 0%16,rs.getD 71 0%(16*(M:Int)),bs+rs.getD 72 0%16,rs.getD 73 0%4096].map int),.int bs]) (Aa (An D_law_pages (by walk_at"rm") rfl (Aa (A2 (JC (evv 2) (Co Ab) (Co Ab)) (congrArg list c9)) (Aa (evv 4) Ad)) pgs) (Aa (evv 6) (Aa (evv 12) (Aa (evv 13) Ad)))) (by walk_at"sz")))
 by_cases h5:rs.getD 0 0/4%9=5
 .refine Dy (Ax (k:=true) (Am (Ah (Ac (Ac (evv 3) Ab (by walk_at"od")) Ab (by walk_at"od")) Ab (Bs (by walk_at"un") rfl rfl (by walk_at"dp") (Bo _ _)) (Af _)) (decide_eq_true h5)) (λ_=>Ai (AE (i:=4) (d:=.int 8) sc_law_program.nd rfl (inl rfl) Ab) Ar) nofun) ?_
  exact rest 8 (by decide) (by decide)
 .refine Dy (Ax (k:=false) (Am (Ah (Ac (Ac (evv 3) Ab (by walk_at"od")) Ab (by walk_at"od")) Ab (Bs (by walk_at"un") rfl rfl (by walk_at"dp") (Bo _ _)) (Af _)) (decide_eq_false h5)) nofun (λ_=>Ar)) ?_
  have e4:(1+rs.getD 0 0%4:Int)=(((1+rs.getD 0 0%4).toNat:Nat):Int):=by omega
  rw[e4]
  exact rest _ (by omega) (by omega)
structure Kept(S S':MS):Prop where
 ok:MsOk S'
 pg:S'.pg=S.pg
 sto:S'.sto.length<=S.sto.length+1
 told:S'.told.length<=S.told.length+1
 sub:∀c∈S.sto,c∈S'.sto
 mem:∀n:Nat,S'.mem.getD n 0=S.mem.getD n 0\/(n:Int)∈S'.sto
theorem Fy{l:List Int}{n:Nat}{v:Int}(h:∀z∈l,0<=z/\z<4096)(hv:0<=v/\v<4096):∀z∈l.set n v,0<=z/\z<4096:=λz hz=>by
 rcases List.mem_or_eq_of_mem_set hz with h1|h1
 .exact h z h1
 .rw[h1];exact hv
theorem O0{l:List Int}(h:∀z∈l,0<=z/\z<4096)(n:Nat):0<=l.getD n 0/\l.getD n 0<4096:=by
 rw[getD_eq_getElem?_getD]
 cases e:l[n]? with
 |none=>exact⟨Int.le_refl 0,by decide⟩
 |some v=>exact h v (mem_of_getElem? e)
theorem Gn(ok:MsOk S):Kept S S:=⟨ok,rfl,le_succ _,le_succ _,λ_ h=>h,λ_=>.inl rfl⟩
theorem MW{S':MS}(ok:MsOk S)(e1:S'.pg=S.pg)(e2:S'.mem=S.mem)(e3:S'.sto=S.sto)(e4:S'.told=S.told)(bl:S'.bx.length=4)(bw:∀z∈S'.bx,0<=z/\z<4096)(h:0<=S'.here/\S'.here<4096):Kept S S':=
 ⟨⟨by rw[e1];exact ok.p1,by rw[e1];exact ok.p8,by rw[e1,e2];exact ok.ml,by rw[e2];exact ok.mw,bl,bw,h⟩,e1,by rw[e3];omega,by rw[e4];omega,λc hc=>by rw[e3];exact hc,λn=>.inl (by rw[e2])⟩
theorem EG(ok:MsOk S){x v:Int}(hv:0<=v/\v<4096):Kept S (setB S x v):=
 MW ok rfl rfl rfl rfl (by show(S.bx.set x.toNat v).length=4;rw[length_set];exact ok.bl) (Fy ok.bw hv) ok.h
theorem Os(ok:MsOk S){c v:Int}(hc:0<=c)(hv:0<=v/\v<4096):Kept S (CL S c v):=by
 refine⟨⟨ok.p1,ok.p8,by show(S.mem.set c.toNat v).length=_;rw[length_set];exact ok.ml,Fy ok.mw hv,ok.bl,ok.bw,ok.h⟩,rfl,?_,le_succ _,λz hz=>mem_append_left _ hz,λn=>?_⟩
 .show(S.sto++[c]).length<=_
  rw[length_append]
  exact le_refl _
 .by_cases e:c.toNat=n
  .exact .inr (mem_append_right _ (by rw[show((n:Nat):Int)=c by omega];exact List.mem_singleton_self c))
  .refine .inl ?_
   show(S.mem.set c.toNat v).getD n 0=_
   rw[getD_eq_getElem?_getD,getD_eq_getElem?_getD,getElem?_set_ne e]
theorem Oy(ok:MsOk S){v:Int}:Kept S (DB S v):=by
 refine⟨⟨ok.p1,ok.p8,ok.ml,ok.mw,ok.bl,ok.bw,ok.h⟩,rfl,le_succ _,?_,λ_ h=>h,λ_=>.inl rfl⟩
 show(S.told++[v]).length<=_
 rw[length_append]
 exact le_refl _
theorem N_(ok:MsOk S)(nm:Str)(nums:List Int):Kept S (Ks S nm nums):=by
 have hw:∀z:Int,0<=z%4096/\z%4096<4096:=λz=>by omega
 refine MW ok rfl rfl rfl rfl ?_ ?_ ok.h
 .show(if nm="cmp"then S.bx else S.bx.set _ _).length=4
  split
  .exact ok.bl
  .rw[length_set];exact ok.bl
 .show ∀z∈(if nm="cmp"then S.bx else S.bx.set _ _),_
  split
  .exact ok.bw
  .exact Fy ok.bw (hw _)
theorem Oj{nums:List Int}{j:Nat}(ok:MsOk S)(row:IsRow q nums j){b:Int}(hb:0<=b/\b<4096):Kept S (HF S q.1 nums b):=by
 unfold HF
 split
 .rename_i h
  have n1:=row.num (i:=1) (c:=110) (Kq q row.mem (.inl h)) rfl
  have h4:BC 110=4096:=rfl
  exact EG ok (by omega)
 split
 .exact EG ok (Ca ok _)
 split
 .exact EG ok (O0 ok.mw _)
 split
 .exact EG ok hb
 .exact Gn ok
theorem O_{nums:List Int}{j:Nat}(ok:MsOk S)(row:IsRow q nums j){b:Int}(hb:0<=b/\b<4096):Kept S (effM S q nums b):=by
 unfold effM
 split
 .exact N_ ok _ _
 split
 .exact Os ok (RO S nums).1 (Ca ok _)
 split
 .exact Oy ok
 .exact Oj ok row hb
theorem RL{nums:List Int}{j:Nat}(ok:MsOk S)(row:IsRow q nums j):Kept S (doM S q nums j):=by
 have k:=O_ (SO ok row) row (QC S q nums j)
 exact⟨⟨k.ok.p1,k.ok.p8,k.ok.ml,k.ok.mw,k.ok.bl,k.ok.bw,k.ok.h⟩,k.pg,k.sto,k.told,k.sub,k.mem⟩
theorem G7{S':MS}{wd:Str}(ok:MsOk S)(st:DI S wd S'):Kept S S':=by
 rcases st with⟨_,e⟩|⟨j,q,nums,row,_,_,e⟩
 .rw[e];exact Gn ok
 .rw[e]
  split
  .exact RL ok row
  .exact Gn ok
theorem Ke{oa:Option Addr}{i:Nat}{G1:Gam}{lf lf1 lf2:LF}{df df1 df2:DF}{st:Stmt}(h:PS X st (yN X.K C oa i G lf df G1 lf1 df1))(e1:lf1=lf2)(e2:df1=df2):PS X st (yN X.K C oa i G lf df G1 lf2 df2):=by subst e1 e2;exact h
theorem Pk(S:MS):((.str "done_count",.int S.done):PyData×PyData)∈fldD (lfM S) (dfM S):=mem_of_getElem? (i:=7) rfl
theorem So(T:Txt mg)(CM:ClsM K mg C)(F:Fun K "pages" "Machine.pages" Cw f fd)(hm:Meth K C "pages" f):MFn P w K mg base 1 C "pages" (λds d=>∃S:MS,ds=[mcD C S]/\d=.list (S.pg.map AI)):=by
 refine F.dataM hm (by walk_at"b1") Gi (λds d ⟨_,e,_⟩=>by rw[e];rfl) λcdv A outer s H E ds d hr ⟨S,e,e2⟩=>?_
 subst e e2
 exact Ag (Ap (Dv (AC (A6 CM.cl CM.n0 (evv 0) (GH S)) rfl T.b_list)))
theorem RK(T:Txt mg)(CM:ClsM K mg C)(F:Fun K "cells" "Machine.cells" C0 f fd)(hm:Meth K C "cells" f):MFn P w K mg base 1 C "cells" (λds d=>∃S:MS,ds=[mcD C S]/\d=.list (S.mem.map int)):=by
 refine F.dataM hm (by walk_at"b1") Gx (λds d ⟨_,e,_⟩=>by rw[e];rfl) λcdv A outer s H E ds d hr ⟨S,e,e2⟩=>?_
 subst e e2
 exact Ag (Ap (Dv (AC (A6 CM.cl CM.n1 (evv 0) (IS S)) rfl T.b_list)))
theorem Ru(T:Txt mg)(CM:ClsM K mg C)(F:Fun K "boxes" "Machine.boxes" Cy f fd)(hm:Meth K C "boxes" f):MFn P w K mg base 1 C "boxes" (λds d=>∃S:MS,ds=[mcD C S]/\d=.list (S.bx.map int)):=by
 refine F.dataM hm (by walk_at"b1") Gu (λds d ⟨_,e,_⟩=>by rw[e];rfl) λcdv A outer s H E ds d hr ⟨S,e,e2⟩=>?_
 subst e e2
 exact Ag (Ap (Dv (AC (A6 CM.cl CM.n2 (evv 0) (FB S)) rfl T.b_list)))
theorem Q9(T:Txt mg)(CM:ClsM K mg C)(F:Fun K "truths" "Machine.truths" Ci f fd)(hm:Meth K C "truths" f):MFn P w K mg base 1 C "truths" (λds d=>∃S:MS,ds=[mcD C S]/\d=.tuple [.bool S.tz,.bool S.tl]):=by
 refine F.dataM hm (by walk_at"b1") FW (λds d ⟨_,e,_⟩=>by rw[e];rfl) λcdv A outer s H E ds d hr ⟨S,e,e2⟩=>?_
 subst e e2
 exact Ag (Ap (A6 CM.cl CM.n4 (evv 0) (Nj S)))
theorem RF(T:Txt mg)(CM:ClsM K mg C)(F:Fun K "place" "Machine.place" C1 f fd)(hm:Meth K C "place" f):MFn P w K mg base 1 C "place" (λds d=>∃S:MS,ds=[mcD C S]/\d=.int S.here):=by
 refine F.dataM hm (by walk_at"b1") Gz (λds d ⟨_,e,_⟩=>by rw[e];rfl) λcdv A outer s H E ds d hr ⟨S,e,e2⟩=>?_
 subst e e2
 exact Ag (Ap (A6 CM.cl CM.n3 (evv 0) (Ih S)))
theorem Ux(T:Txt mg)(CM:ClsM K mg C)(F:Fun K "told" "Machine.told" CS f fd)(hm:Meth K C "told" f):MFn P w K mg base 1 C "told" (λds d=>∃S:MS,ds=[mcD C S]/\d=.list (S.told.map int)):=by
 refine F.dataM hm (by walk_at"b1") GI (λds d ⟨_,e,_⟩=>by rw[e];rfl) λcdv A outer s H E ds d hr ⟨S,e,e2⟩=>?_
 subst e e2
 exact Ag (Ap (Dv (AC (A6 CM.cl CM.n5 (evv 0) (P3 S)) rfl T.b_list)))
theorem Tz(T:Txt mg)(CM:ClsM K mg C)(F:Fun K "done" "Machine.done" CY f fd)(hm:Meth K C "done" f):MFn P w K mg base 1 C "done" (λds d=>∃S:MS,ds=[mcD C S]/\d=.int S.done):=by
 refine F.dataM hm (by walk_at"b1") GS (λds d ⟨_,e,_⟩=>by rw[e];rfl) λcdv A outer s H E ds d hr ⟨S,e,e2⟩=>?_
 subst e e2
 exact Ag (Ap (A6 CM.cl CM.n7 (evv 0) (Pk S)))
def staD(S:MS):PyData:=.tuple [.list (S.bx.map int),.tuple [.bool S.tz,.bool S.tl],.int S.here,.list (S.mem.map int),.list (S.told.map int),.int S.done]
theorem Sv(CM:ClsM K mg C)(D_boxes:MFn P w K mg base 1 C "boxes" (λds d=>∃S:MS,ds=[mcD C S]/\d=.list (S.bx.map int)))(D_truths:MFn P w K mg base 1 C "truths" (λds d=>∃S:MS,ds=[mcD C S]/\d=.tuple [.bool S.tz,.bool S.tl]))(D_place:MFn P w K mg base 1 C "place" (λds d=>∃S:MS,ds=[mcD C S]/\d=.int S.here))(D_cells:MFn P w K mg base 1 C "cells" (λds d=>∃S:MS,ds=[mcD C S]/\d=.list (S.mem.map int)))(D_told:MFn P w K mg base 1 C "told" (λds d=>∃S:MS,ds=[mcD C S]/\d=.list (S.told.map int)))(D_done:MFn P w K mg base 1 C "done" (λds d=>∃S:MS,ds=[mcD C S]/\d=.int S.done))(F:Fun K "state" "Machine.state" C2 f fd)(hm:Meth K C "state" f):MFn P w K mg base 2 C "state" (λds d=>∃S:MS,ds=[mcD C S]/\d=staD S):=by
 refine F.dataM hm (by walk_at"b1") G0 (λds d ⟨_,e,_⟩=>by rw[e];rfl) λcdv A outer s H E ds d hr ⟨S,e,e2⟩=>?_
 subst e e2
 unfold staD
 refine Ag (Ap (AW (ds:=[.list (S.bx.map int),.tuple [.bool S.tz,.bool S.tl],.int S.here,.list (S.mem.map int),.list (S.told.map int),.int S.done]) ?_ (by walk_at"sz")))
 refine Aa (AG CM.cl D_boxes (by walk_at"rm") (evv 0) ⟨S,rfl,rfl⟩) ?_
 refine Aa (AG CM.cl D_truths (by walk_at"rm") (evv 0) ⟨S,rfl,rfl⟩) ?_
 refine Aa (AG CM.cl D_place (by walk_at"rm") (evv 0) ⟨S,rfl,rfl⟩) ?_
 refine Aa (AG CM.cl D_cells (by walk_at"rm") (evv 0) ⟨S,rfl,rfl⟩) ?_
 refine Aa (AG CM.cl D_told (by walk_at"rm") (evv 0) ⟨S,rfl,rfl⟩) ?_
 refine Aa (AG CM.cl D_done (by walk_at"rm") (evv 0) ⟨S,rfl,rfl⟩) ?_
 exact Ad
def putM(S:MS)(bs:List Int)(z l:Bool)(p m:Int):MS:={S with bx:=bs,tz:=z,tl:=l,here:=p,done:=S.done+m}
def MC(lf:LF)(df:DF)(ds:List PyData)(lf':LF)(df':DF):Prop:=∃(S:MS) (bs:List Int) (z l:Bool) (p m:Int),lf=lfM S/\df=dfM S/\ds=[.list (bs.map int),.tuple [.bool z,.bool l],.int p,.int m]/\lf'=lfM (putM S bs z l p m)/\df'=dfM (putM S bs z l p m)
theorem Vm(T:Txt mg)(CM:ClsM K mg C)(F:Fun K "put" "Machine.put" Dx f fd)(hm:Meth K C "put" f):YFn P w K mg base 1 C "put" MC:=by
 refine F.objY hm (F.binds λ_ _ _ _ _ _ us hl=>match us,hl with|[_,_,_,_,_],_=>rfl) HR (λlf df ds lf' df' ⟨_,_,_,_,_,_,_,_,e,_⟩=>by rw[e];rfl) λcdv A outer s H E a lf df ds lf' df' hr ⟨S,bs,z,l,p,m,e1,e2,e3,e4,e5⟩=>?_
 subst e1 e2 e3 e4 e5
 refine⟨none::Bh ["boxes","truths","place","more"] [.list (bs.map int),.tuple [.bool z,.bool l],.int p,.int m],RI (lf1:=lfM {S with bx:=bs}) (df1:=dfM {S with bx:=bs}) (Ke (GV CM.cl CM.n2 (pv 0) (AC (evv 1) rfl T.b_list) (A_ _) (mem_of_getElem? (i:=2) rfl) (by decide)) (Gg S bs) rfl) (T4 λR hC=>?_)⟩
 subst hC
 refine At (Bu (I2:=MZ K R {S with bx:=bs,tz:=z,tl:=l}) (GW (f:="truth_pair") CM.cl CM.n4 mem_cons_self (pv 0) (BM "tuple" (Aa (evv 2) Ad) Og rfl T.b_tuple (by decide+kernel)) rfl (SL _) (by decide)) (by rw[Ri];rfl)) ?_
 refine At (Bu (I2:=MZ K R {S with bx:=bs,tz:=z,tl:=l,here:=p}) (GW (f:="here") CM.cl CM.n3 mem_cons_self (pv 0) (evv 3) rfl (Pq _) (by decide)) (by rw[NT];rfl)) ?_
 exact At (Bu (I2:=MZ K R (putM S bs z l p m)) (PY CM.cl CM.n7 mem_cons_self (pv 0) (evv 4) (QK _) (by decide)) (by rw[Nb];rfl)) A7
def KD(S:MS):MS:={S with sto:=[]}
theorem Rc(ok:MsOk S):MsOk (KD S):=⟨ok.p1,ok.p8,ok.ml,ok.mw,ok.bl,ok.bw,ok.h⟩
def C3(l:List Int)(S:MS):MS:={S with sto:=l++S.sto}
theorem RJ(S:MS)(l:List Int)(q:Str×Str)(nums:List Int)(b:Int):effM (C3 l S) q nums b=C3 l (effM S q nums b):=by
 unfold effM
 by_cases h1:q.1∈rnames
 .rw[if_pos h1,if_pos h1];rfl
 rw[if_neg h1,if_neg h1]
 by_cases h2:q.1="store"
 .rw[if_pos h2,if_pos h2]
  show CL (C3 l S) (Bt S nums) (boxM S (nums.getD 0 0))=_
  unfold CL C3
  rw[append_assoc]
 rw[if_neg h2,if_neg h2]
 by_cases h3:q.1="out"
 .rw[if_pos h3,if_pos h3];rfl
 rw[if_neg h3,if_neg h3]
 unfold HF
 by_cases h4:q.1="set"
 .rw[if_pos h4,if_pos h4];rfl
 rw[if_neg h4,if_neg h4]
 by_cases h5:q.1="move"
 .rw[if_pos h5,if_pos h5];rfl
 rw[if_neg h5,if_neg h5]
 by_cases h6:q.1="load"
 .rw[if_pos h6,if_pos h6];rfl
 rw[if_neg h6,if_neg h6]
 by_cases h7:q.1="call"
 .rw[if_pos h7,if_pos h7];rfl
 rw[if_neg h7,if_neg h7]
theorem Uh(S:MS)(l:List Int)(q:Str×Str)(nums:List Int)(j:Nat):doM (C3 l S) q nums j=C3 l (doM S q nums j):=by
 have h:=RJ (goM S q nums j) l q nums (behM S q nums j)
 show({effM (C3 l (goM S q nums j)) q nums (behM S q nums j)with done:=(effM (C3 l (goM S q nums j)) q nums (behM S q nums j)).done+1}:MS)=_
 rw[h]
 rfl
theorem Qc{S':MS}{wd:Str}(l:List Int)(st:DI S wd S'):DI (C3 l S) wd (C3 l S'):=by
 rcases st with⟨e,e'⟩|⟨j,q,nums,row,e,ew,e'⟩
 .exact .inl ⟨e,by rw[e']⟩
 .refine .inr ⟨j,q,nums,row,e,ew,?_⟩
  show C3 l S'=if B3 S q.1 nums=""then doM (C3 l S) q nums j else C3 l S
  rw[e']
  split
  .rw[Uh]
  .rfl
theorem Vh(S:MS):C3 S.sto (KD S)=S:=by
 unfold C3 KD
 rw[append_nil]
open Classical in
noncomputable def PQ (S:MS):Str×MS:=if h:∃p:Str×MS,DI (KD S) p.1 p.2 then h.choose else("",S)
noncomputable def Bb (S:MS):Str×MS:=((PQ S).1,C3 S.sto (PQ S).2)
theorem Hl(ok:MsOk S):DI S (Bb S).1 (Bb S).2:=by
 obtain⟨wd,S',st⟩:=R4 (Rc ok)
 have hx:∃p:Str×MS,DI (KD S) p.1 p.2:=⟨(wd,S'),st⟩
 have e:PQ S=hx.choose:=dif_pos hx
 have h:=Qc S.sto hx.choose_spec
 rw[Vh,<-e]at h
 exact h
section
theorem rep0(n:Nat):(replicate n [int 0]).flatten=(replicate n (0:Int)).map int:=by
 induction n with
 |zero=>rfl
 |succ n ih=>rw[replicate_succ,flatten_cons,ih,replicate_succ,map_cons];rfl
def DK(S:MS):MS:={pg:=S.pg,mem:=replicate S.mem.length 0,bx:=replicate 4 0,here:=0,tz:=false,tl:=false,told:=[],sto:=[],done:=0}
theorem RB(ok:MsOk S):MsOk (DK S):=
 ⟨ok.p1,ok.p8,by show(replicate S.mem.length (0:Int)).length=_;rw[length_replicate];exact ok.ml,λz hz=>by rw[List.eq_of_mem_replicate hz];decide,rfl,λz hz=>by rw[List.eq_of_mem_replicate hz];decide,by show(0:Int)<=0/\(0:Int)<4096;decide⟩
def PK(C:Addr)(ds:List PyData)(lf:LF)(df:DF):Prop:=∃S:MS,MsOk S/\ds=[mcD C S]/\lf=lfM S/\df=dfM S
theorem Kd(S:MS):putM {DK S with mem:=S.mem,told:=S.told,sto:=S.sto} S.bx S.tz S.tl S.here S.done=S:=by
 cases S
 unfold putM DK
 simp only[zero_add]
theorem Uk(T:Txt mg)(CM:ClsM K mg C)(D0:OIFn P w K mg base 5 C R8)(D_put:YFn P w K mg base 1 C "put" MC)(F:Fun K "twin" "Machine.twin" CC f fd)(hm:Meth K C "twin" f):NMFn P w K mg base 7 C "twin" (PK C):=by
 refine F.newM hm (by walk_at"b1") sc_Machine_twin (λds lf df ⟨_,_,e,_⟩=>by rw[e];rfl) λcdv A outer s H E ds lf df hr ⟨S,ok,e1,e2,e3⟩=>?_
 subst e1 e2 e3
 have hml:((S.mem.map int).length:Int)=S.mem.length:=by rw[length_map]
 have hp8:=ok.p8
 have hmem:=ok.ml
 refine R_ (C:=C) (i:=1) (lf:=lfM (DK S)) (df:=dfM (DK S)) (PZ (ds:=[.list (S.pg.map AI),.list ((replicate S.mem.length (0:Int)).map int),.list ((replicate 4 (0:Int)).map int),.int 0]) sc_Machine_twin.nd rfl (inl rfl) (by show 1<2;decide) rfl D0 (by walk_at"rm") rfl CM.at_ ?args ⟨DK S,RB ok,rfl,rfl,rfl,rfl,rfl,rfl,rfl,rfl⟩) ?_
 case args=>
  refine Aa (A6 CM.cl CM.n0 (evv 0) (GH S)) (Aa (A2 (Dv (MU (k:=(S.mem.length:Int)) (xs:=[.int 0]) (AR (ds:=[.int 0]) (Aa Ab Ad) (by walk_at"sz")) (A2 (Au "len" (Aa (A6 CM.cl CM.n1 (evv 0) (IS S)) Ad) B1 rfl T.b_len (by decide+kernel)) (congrArg int hml)) (by omega) (by omega) (by rw[sizeLine_eq,toNat_natCast];show 1*S.mem.length<=_;omega))) (by rw[toNat_natCast,rep0])) (Aa (A2 (Dv (MU (k:=4) (xs:=[.int 0]) (AR (ds:=[.int 0]) (Aa Ab Ad) (by walk_at"sz")) Ab (by decide) (by decide) (by rw[sizeLine_eq];decide))) rfl) (Aa Ab Ad)))
 refine Hi (Ke (lf2:=lfM {DK S with mem:=S.mem}) (df2:=dfM {DK S with mem:=S.mem}) (GV (f:="memory") CM.cl CM.n1 (pv 1) (AC (A6 CM.cl CM.n1 (evv 0) (IS S)) rfl T.b_list) (A_ _) (mem_of_getElem? (i:=1) rfl) (by decide)) (Qw (DK S) S.mem) rfl) ?_
 refine Hi (Ke (lf2:=lfM {DK S with mem:=S.mem,told:=S.told}) (df2:=dfM {DK S with mem:=S.mem,told:=S.told}) (GV (f:="told_words") CM.cl CM.n5 (pv 1) (AC (A6 CM.cl CM.n5 (evv 0) (P3 S)) rfl T.b_list) (A_ _) (mem_of_getElem? (i:=3) rfl) (by decide)) (MQ _ S.told) rfl) ?_
 refine Hi (Ke (lf2:=lfM {DK S with mem:=S.mem,told:=S.told,sto:=S.sto}) (df2:=dfM {DK S with mem:=S.mem,told:=S.told,sto:=S.sto}) (GV (f:="stored_cells") CM.cl CM.n6 (pv 1) (AC (A6 CM.cl CM.n6 (evv 0) (SN S)) rfl T.b_list) (A_ _) (mem_of_getElem? (i:=4) rfl) (by decide)) (PL _ S.sto) rfl) ?_
 refine Hi (Ke (lf2:=lfM S) (df2:=dfM S) (RX (ds:=[.list (S.bx.map int),.tuple [.bool S.tz,.bool S.tl],.int S.here,.int S.done]) CM.cl D_put (by walk_at"rm") (pv 1) (λR hC=>BY (Fx (A6 CM.cl CM.n2 (evv 0) (FB S))) (BY (Fx (A6 CM.cl CM.n4 (evv 0) (Nj S))) (BY (Fx (A6 CM.cl CM.n3 (evv 0) (Ih S))) (BY (Fx (A6 CM.cl CM.n7 (evv 0) (Pk S))) Ga)))) ⟨_,S.bx,S.tz,S.tl,S.here,S.done,rfl,rfl,rfl,rfl,rfl⟩) (by rw[Kd]) (by rw[Kd])) ?_
 exact Ua (pv 1)
def hasL:List Str:=["","x","xy","xy","xy","xy","xy","xy","xy","xym","xym","","k","x","x","x"]
def hasO(op:Int):Str:=hasL.getD op.toNat ""
def inB(c h:Str):Bool:=!(occurrences h c 0 h.length 1).isEmpty
def limO(h:Str):Int:=if inB "k" h=true then 3 else if inB "m" h=true then 15 else 0
def badM(f:Int):Bool:=decide (f%16>limO (hasO (f/256)))
def badX(f:Int):Bool:=(!inB "x" (hasO (f/256))&&decide (f/64%4>0))||(!inB "y" (hasO (f/256))&&decide (f/16%4>0))
theorem ops{f:Int}(h0:0<=f)(h1:f<4096):f/256=0\/f/256=1\/f/256=2\/f/256=3\/f/256=4\/f/256=5\/f/256=6\/f/256=7\/f/256=8\/f/256=9\/f/256=10\/f/256=11\/f/256=12\/f/256=13\/f/256=14\/f/256=15:=by omega
theorem RQ(ps:Str)(f:Int)(h:∀c∈ps.cps.toList,HQ c):(ps.cps.toList.zip (ps.cps.toList.map λc=>Bd c f 0)).all (λq=>decide (0<=q.2)&&decide (q.2<BC q.1))=true:=by
 rw[HW,all_eq_true]
 intro c hc
 rw[and_eq_true,decide_eq_true_iff,decide_eq_true_iff]
 show 0<=Bd c f 0/\Bd c f 0<BC c
 rcases h c hc with rfl|rfl|rfl|rfl|rfl
 .show 0<=f/64%4/\f/64%4<4;omega
 .show 0<=f/16%4/\f/16%4<4;omega
 .show 0<=f/1%4/\f/1%4<4;omega
 .show 0<=f/1%16/\f/1%16<16;omega
 .exact show(0:Int)<=0/\(0:Int)<4096 by decide
theorem Cv{f:Int}(hk:kindOf f=q)(hq:q∈kinds):Dd f 0↔(f/256)*256+AL q.2 (q.2.cps.toList.map λc=>Bd c f 0)=f:=by
 unfold Dd numsOf
 rw[hk]
 refine⟨λh=>h.2,λh=>⟨?_,h⟩⟩
 exact RQ q.2 f (C7 q hq)
theorem UC(f:Int):AL "" (("":Str).cps.toList.map λc=>Bd c f 0)=0:=rfl
theorem Vn(f:Int):AL "x" (("x":Str).cps.toList.map λc=>Bd c f 0)=64*(f/64%4):=by
 show 64*(f/64%4)+0=_
 omega
theorem Ud(f:Int):AL "xy" (("xy":Str).cps.toList.map λc=>Bd c f 0)=64*(f/64%4)+16*(f/16%4):=by
 show 64*(f/64%4)+(16*(f/16%4)+0)=_
 omega
theorem S2(f:Int):AL "xym" (("xym":Str).cps.toList.map λc=>Bd c f 0)=64*(f/64%4)+16*(f/16%4)+f%16:=by
 show 64*(f/64%4)+(16*(f/16%4)+(1*(f/1%16)+0))=_
 omega
theorem Ps(f:Int):AL "xn" (("xn":Str).cps.toList.map λc=>Bd c f 0)=64*(f/64%4):=by
 show 64*(f/64%4)+(0*0+0)=_
 omega
theorem Vx(f:Int):AL "n" (("n":Str).cps.toList.map λc=>Bd c f 0)=0:=by
 show(0:Int)*0+0=_
 omega
theorem Ub(f:Int):AL "kn" (("kn":Str).cps.toList.map λc=>Bd c f 0)=f%4:=by
 show 1*(f/1%4)+(0*0+0)=_
 omega
theorem V1:inB "x" ""=false/\inB "y" ""=false/\limO ""=0/\inB "x" "x"=true/\inB "y" "x"=false/\limO "x"=0/\inB "x" "xy"=true/\inB "y" "xy"=true/\limO "xy"=0/\inB "x" "xym"=true/\inB "y" "xym"=true/\limO "xym"=15/\inB "x" "k"=false/\inB "y" "k"=false/\limO "k"=3:=by decide+kernel
theorem Ti{f:Int}(hk:kindOf f=q)(hq:q∈kinds)(h0:0<=f)(h1:f<4096)(hb:(badM f||badX f)=false↔Dd f 0):Cf f=if(badM f||badX f)=true then 0 else if hasN q.2=true then 2 else 1:=by
 unfold Cf
 cases hb2:(badM f||badX f)with
 |true=>rw[if_neg (λz=>by have:=hb.mpr z.2.2;rw[hb2]at this;cases this),if_pos rfl]
 |false=>rw[if_pos ⟨h0,h1,hb.mp hb2⟩,hk];exact(if_neg Bool.false_ne_true).symm
theorem Cn{f:Int}{n:Nat}(h:f/256=(n:Int)):kindOf f=kinds.getD n ("stop",""):=by
 unfold kindOf
 rw[h]
 rfl
theorem K9{f:Int}(h0:0<=f)(h1:f<4096):(badM f||badX f)=false↔Dd f 0:=by
 obtain⟨a1,a2,a3,b1,b2,b3,c1,c2,c3,d1,d2,d3,e1,e2,e3⟩:=V1
 rcases ops h0 h1 with h|h|h|h|h|h|h|h|h|h|h|h|h|h|h|h
 .rw[Cv (Cn (n:=0) h) (by decide+kernel)]
  show _↔f/256*256+AL "" (("":Str).cps.toList.map λc=>Bd c f 0)=f
  rw[UC];unfold badM badX;rw[h];show(decide (f%16>limO "")||((!inB "x" ""&&decide (f/64%4>0))||(!inB "y" ""&&decide (f/16%4>0))))=false↔_
  rw[a1,a2,a3];simp;omega
 .rw[Cv (Cn (n:=1) h) (by decide+kernel)]
  show _↔f/256*256+AL "xn" (("xn":Str).cps.toList.map λc=>Bd c f 0)=f
  rw[Ps];unfold badM badX;rw[h];show(decide (f%16>limO "x")||((!inB "x" "x"&&decide (f/64%4>0))||(!inB "y" "x"&&decide (f/16%4>0))))=false↔_
  rw[b1,b2,b3];simp;omega
 iterate 7
  .rw[Cv (Cn h) (by decide+kernel)]
   show _↔f/256*256+AL "xy" (("xy":Str).cps.toList.map λc=>Bd c f 0)=f
   rw[Ud];unfold badM badX;rw[h];show(decide (f%16>limO "xy")||((!inB "x" "xy"&&decide (f/64%4>0))||(!inB "y" "xy"&&decide (f/16%4>0))))=false↔_
   rw[c1,c2,c3];simp;omega
 iterate 2
  .rw[Cv (Cn h) (by decide+kernel)]
   show _↔f/256*256+AL "xym" (("xym":Str).cps.toList.map λc=>Bd c f 0)=f
   rw[S2];unfold badM badX;rw[h];show(decide (f%16>limO "xym")||((!inB "x" "xym"&&decide (f/64%4>0))||(!inB "y" "xym"&&decide (f/16%4>0))))=false↔_
   rw[d1,d2,d3];simp;omega
 .rw[Cv (Cn (n:=11) h) (by decide+kernel)]
  show _↔f/256*256+AL "n" (("n":Str).cps.toList.map λc=>Bd c f 0)=f
  rw[Vx];unfold badM badX;rw[h];show(decide (f%16>limO "")||((!inB "x" ""&&decide (f/64%4>0))||(!inB "y" ""&&decide (f/16%4>0))))=false↔_
  rw[a1,a2,a3];simp;omega
 .rw[Cv (Cn (n:=12) h) (by decide+kernel)]
  show _↔f/256*256+AL "kn" (("kn":Str).cps.toList.map λc=>Bd c f 0)=f
  rw[Ub];unfold badM badX;rw[h];show(decide (f%16>limO "k")||((!inB "x" "k"&&decide (f/64%4>0))||(!inB "y" "k"&&decide (f/16%4>0))))=false↔_
  rw[e1,e2,e3];simp;omega
 .rw[Cv (Cn (n:=13) h) (by decide+kernel)]
  show _↔f/256*256+AL "xn" (("xn":Str).cps.toList.map λc=>Bd c f 0)=f
  rw[Ps];unfold badM badX;rw[h];show(decide (f%16>limO "x")||((!inB "x" "x"&&decide (f/64%4>0))||(!inB "y" "x"&&decide (f/16%4>0))))=false↔_
  rw[b1,b2,b3];simp;omega
 iterate 2
  .rw[Cv (Cn h) (by decide+kernel)]
   show _↔f/256*256+AL "x" (("x":Str).cps.toList.map λc=>Bd c f 0)=f
   rw[Vn];unfold badM badX;rw[h];show(decide (f%16>limO "x")||((!inB "x" "x"&&decide (f/64%4>0))||(!inB "y" "x"&&decide (f/16%4>0))))=false↔_
   rw[b1,b2,b3];simp;omega
def twoO(op:Int):Bool:=decide (op=1\/op=11\/op=12\/op=13)
theorem Qb{f:Int}(h0:0<=f)(h1:f<4096):Cf f=if(badM f||badX f)=true then 0 else if twoO (f/256)=true then 2 else 1:=by
 have key:∀n:Nat,n<16->(kinds.getD n ("stop",""))∈kinds/\hasN (kinds.getD n ("stop","")).2=twoO (n:Int):=by decide+kernel
 obtain⟨n,hn,hlt⟩:∃n:Nat,f/256=(n:Int)/\n<16:=⟨(f/256).toNat,by omega,by omega⟩
 obtain⟨k1,k2⟩:=key n hlt
 rw[Ti (Cn hn) k1 h0 h1 (K9 h0 h1),k2,hn]
def BV(S:MS)(y m:Int):Int:=(boxM S y+m)%4096
def Cp(S:MS)(op c:Int):Str:=if op=0 then "stop"else if op=9/\Ay S.pg c 0=false then "read"else if op=10/\Ay S.pg c 1=false then "write"else ""
def recL(op a b:Int):Int×Bool:=if op=3 then((a+b)%4096,decide (a+b>4095))else if op=4\/op=8 then((a-b)%4096,decide (a<b))else if op=5 then(a*b%4096,false)else if op=6 then(Builtin.bitAnd a b,false)else(Builtin.bitXor a b,false)
def valL(S:MS)(op y m n b:Int):Int:=if op=1 then n else if op=2 then boxM S y else if op=9 then AB S.mem (BV S y m%(S.mem.length:Int))else b
def effL(S:MS)(op x y m n b:Int):MS:=
 if 3<=op/\op<=8 then{S with tz:=decide ((recL op (boxM S x) (boxM S y)).1=0),tl:=(recL op (boxM S x) (boxM S y)).2,bx:=if op=8 then S.bx else S.bx.set x.toNat (recL op (boxM S x) (boxM S y)).1}
 else if op=1\/op=2\/op=9\/op=13 then{S with bx:=S.bx.set x.toNat (valL S op y m n b)}
 else if op=10 then{S with mem:=S.mem.set (BV S y m).toNat (boxM S x),sto:=S.sto++[BV S y m]}
 else if op=15 then{S with told:=S.told++[boxM S x]}
 else S
def toL(S:MS)(op x m n b:Int):Int:=if op=13 then n else if op=14 then boxM S x else if op=11\/(op=12/\brB (m%4) S.tz S.tl=true)then n else b
def lawS(S:MS)(op x y m n b:Int):MS:={effL S op x y m n b with here:=toL S op x m n b,done:=S.done+1}
theorem QE{a b:Int}(a0:0<=a)(a1:a<4096)(b0:0<=b)(b1:b<4096):0<=Builtin.bitAnd a b/\Builtin.bitAnd a b<4096:=by
 unfold Builtin.bitAnd
 rw[decide_eq_true a0,decide_eq_true b0]
 have h:a.toNat&&& b.toNat<2^12:=Nat.and_lt_two_pow _ (by omega)
 show 0<=((a.toNat&&& b.toNat:Nat):Int)/\((a.toNat&&& b.toNat:Nat):Int)<4096
 omega
theorem UR{a b:Int}(a0:0<=a)(b0:0<=b):Builtin.bitOr a b=((a.toNat|||b.toNat:Nat):Int):=by
 have na:¬0<=Builtin.bitNot a:=by unfold Builtin.bitNot;omega
 have nb:¬0<=Builtin.bitNot b:=by unfold Builtin.bitNot;omega
 have bb:∀x:Int,Builtin.bitNot (Builtin.bitNot x)=x:=λx=>by unfold Builtin.bitNot;omega
 unfold Builtin.bitOr Builtin.bitAnd
 rw[decide_eq_false na,decide_eq_false nb]
 show Builtin.bitNot (Builtin.bitNot _)=_
 rw[bb,bb,bb]
theorem QG{a b:Int}(a0:0<=a)(a1:a<4096)(b0:0<=b)(b1:b<4096):0<=Builtin.bitXor a b/\Builtin.bitXor a b<4096:=by
 unfold Builtin.bitXor
 rw[UR a0 b0]
 unfold Builtin.bitAnd
 rw[decide_eq_true a0,decide_eq_true b0]
 have h:a.toNat|||b.toNat<2^12:=Nat.or_lt_two_pow (by omega) (by omega)
 have h2:a.toNat&&& b.toNat<=a.toNat:=Nat.and_le_left
 have h3:a.toNat<=a.toNat|||b.toNat:=Nat.left_le_or
 show 0<=((a.toNat|||b.toNat:Nat):Int)- ((a.toNat&&& b.toNat:Nat):Int)/\((a.toNat|||b.toNat:Nat):Int)- ((a.toNat&&& b.toNat:Nat):Int)<4096
 omega
theorem RC(S:MS)(nums:List Int):B3 S "load" nums=if Ay S.pg (Bt S nums) 0=false then "read"else "":=by
 unfold B3
 rw[if_neg (by decide)]
 cases Ay S.pg (Bt S nums) 0 with
 |true=>rw[if_neg (λz=>by cases z.2),if_neg (λz=>absurd z.1 (by decide))];rfl
 |false=>rw[if_pos ⟨rfl,rfl⟩];rfl
theorem Pm(S:MS)(nums:List Int):B3 S "store" nums=if Ay S.pg (Bt S nums) 1=false then "write"else "":=by
 unfold B3
 rw[if_neg (by decide),if_neg (λz=>absurd z.1 (by decide))]
 cases Ay S.pg (Bt S nums) 1 with
 |true=>rw[if_neg (λz=>by cases z.2)];rfl
 |false=>rw[if_pos ⟨rfl,rfl⟩];rfl
theorem Tk(S:MS)(c:Int):Cp S 9 c=if Ay S.pg c 0=false then "read"else "":=by
 unfold Cp
 rw[if_neg (by decide)]
 cases Ay S.pg c 0 with
 |true=>rw[if_neg (λz=>by cases z.2),if_neg (λz=>absurd z.1 (by decide))];rfl
 |false=>rw[if_pos ⟨rfl,rfl⟩];rfl
theorem SF(S:MS)(c:Int):Cp S 10 c=if Ay S.pg c 1=false then "write"else "":=by
 unfold Cp
 rw[if_neg (by decide),if_neg (λz=>absurd z.1 (by decide))]
 cases Ay S.pg c 1 with
 |true=>rw[if_neg (λz=>by cases z.2)];rfl
 |false=>rw[if_pos ⟨rfl,rfl⟩];rfl
def behL(S:MS)(op:Int):Int:=if twoO op=true then((S.here+1)%4096+1)%4096 else(S.here+1)%4096
def secL(op s:Int):Int:=if twoO op=true then s else 0
theorem A8{f s:Int}{n:Nat}(h:f/256=(n:Int))(hq:kinds.getD n ("stop","")=q):kindOf f=q/\numsOf f s=q.2.cps.toList.map λc=>Bd c f s:=by
 have hk:kindOf f=q:=(Cn h).trans hq
 exact⟨hk,by unfold numsOf;rw[hk]⟩
theorem LM(S:MS){f s:Int}(h0:0<=f)(h1:f<4096):B3 S (kindOf f).1 (numsOf f s)=Cp S (f/256) (BV S (f/16%4) (f%16)):=by
 have e1:f/1%16=f%16:=by omega
 rcases ops h0 h1 with h|h|h|h|h|h|h|h|h|h|h|h|h|h|h|h
 .obtain⟨k1,k2⟩:=A8 (s:=s) (n:=0) h rfl
  rw[k1,k2,h];rfl
 .obtain⟨k1,k2⟩:=A8 (s:=s) (n:=1) h rfl
  rw[k1,k2,h];rfl
 .obtain⟨k1,k2⟩:=A8 (s:=s) (n:=2) h rfl
  rw[k1,k2,h];rfl
 .obtain⟨k1,k2⟩:=A8 (s:=s) (n:=3) h rfl
  rw[k1,k2,h];rfl
 .obtain⟨k1,k2⟩:=A8 (s:=s) (n:=4) h rfl
  rw[k1,k2,h];rfl
 .obtain⟨k1,k2⟩:=A8 (s:=s) (n:=5) h rfl
  rw[k1,k2,h];rfl
 .obtain⟨k1,k2⟩:=A8 (s:=s) (n:=6) h rfl
  rw[k1,k2,h];rfl
 .obtain⟨k1,k2⟩:=A8 (s:=s) (n:=7) h rfl
  rw[k1,k2,h];rfl
 .obtain⟨k1,k2⟩:=A8 (s:=s) (n:=8) h rfl
  rw[k1,k2,h];rfl
 .obtain⟨k1,k2⟩:=A8 (s:=s) (n:=9) h rfl
  rw[k1,k2,h]
  show B3 S "load" [f/64%4,f/16%4,f/1%16]=_
  rw[e1,RC,Tk]
  rfl
 .obtain⟨k1,k2⟩:=A8 (s:=s) (n:=10) h rfl
  rw[k1,k2,h]
  show B3 S "store" [f/64%4,f/16%4,f/1%16]=_
  rw[e1,Pm,SF]
  rfl
 .obtain⟨k1,k2⟩:=A8 (s:=s) (n:=11) h rfl
  rw[k1,k2,h];rfl
 .obtain⟨k1,k2⟩:=A8 (s:=s) (n:=12) h rfl
  rw[k1,k2,h];rfl
 .obtain⟨k1,k2⟩:=A8 (s:=s) (n:=13) h rfl
  rw[k1,k2,h];rfl
 .obtain⟨k1,k2⟩:=A8 (s:=s) (n:=14) h rfl
  rw[k1,k2,h];rfl
 .obtain⟨k1,k2⟩:=A8 (s:=s) (n:=15) h rfl
  rw[k1,k2,h];rfl
theorem Qf(ok:MsOk S){c:Int}(h:Ay S.pg c 0=true):c%(S.mem.length:Int)=c:=by
 have r:=DH h
 have:=ok.ml
 exact Int.emod_eq_of_lt r.1 (by omega)
theorem Pu(ok:MsOk S){f s:Int}(h0:0<=f)(h1:f<4096)(hh:Cp S (f/256) (BV S (f/16%4) (f%16))=""):doM S (kindOf f) (numsOf f s) (f/256).toNat=lawS S (f/256) (f/64%4) (f/16%4) (f%16) (secL (f/256) s) (behL S (f/256)):=by
 have e1:f/1%16=f%16:=by omega
 have e4:f/1%4=f%16%4:=by omega
 have bx:=Ca ok (f/64%4)
 have by_:=Ca ok (f/16%4)
 have b2:∀n:Int,n=2->(S.here+n)%4096=((S.here+1)%4096+1)%4096:=λn hn=>by subst hn;omega
 rcases ops h0 h1 with h|h|h|h|h|h|h|h|h|h|h|h|h|h|h|h
 .obtain⟨k1,k2⟩:=A8 (s:=s) (n:=0) h rfl
  rw[h]at hh
  exact absurd hh (by show ¬("stop":Str)="";decide)
 .obtain⟨k1,k2⟩:=A8 (s:=s) (n:=1) h rfl
  have hb:behM S ("set","xn") [f/64%4,s] 1=behL S 1:=b2 _ rfl
  rw[k1,k2,h]
  show doM S ("set","xn") [f/64%4,s] 1=_
  unfold doM goM
  rw[hb]
  rfl
 .obtain⟨k1,k2⟩:=A8 (s:=s) (n:=2) h rfl
  have hb:behM S ("move","xy") [f/64%4,f/16%4] 2=behL S 2:=rfl
  rw[k1,k2,h]
  show doM S ("move","xy") [f/64%4,f/16%4] 2=_
  unfold doM goM
  rw[hb]
  rfl
 .obtain⟨k1,k2⟩:=A8 (s:=s) (n:=3) h rfl
  have hb:behM S ("add","xy") [f/64%4,f/16%4] 3=behL S 3:=rfl
  rw[k1,k2,h]
  show doM S ("add","xy") [f/64%4,f/16%4] 3=_
  unfold doM goM
  rw[hb]
  rfl
 .obtain⟨k1,k2⟩:=A8 (s:=s) (n:=4) h rfl
  have hb:behM S ("sub","xy") [f/64%4,f/16%4] 4=behL S 4:=rfl
  rw[k1,k2,h]
  show doM S ("sub","xy") [f/64%4,f/16%4] 4=_
  unfold doM goM
  rw[hb]
  rfl
 .obtain⟨k1,k2⟩:=A8 (s:=s) (n:=5) h rfl
  have hb:behM S ("mul","xy") [f/64%4,f/16%4] 5=behL S 5:=rfl
  rw[k1,k2,h]
  show doM S ("mul","xy") [f/64%4,f/16%4] 5=_
  unfold doM goM
  rw[hb]
  rfl
 .obtain⟨k1,k2⟩:=A8 (s:=s) (n:=6) h rfl
  have hb:behM S ("and","xy") [f/64%4,f/16%4] 6=behL S 6:=rfl
  rw[k1,k2,h]
  show doM S ("and","xy") [f/64%4,f/16%4] 6=_
  unfold doM goM
  rw[hb]
  have hw:=QE bx.1 bx.2 by_.1 by_.2
  have hm:Builtin.bitAnd (boxM S (f/64%4)) (boxM S (f/16%4))%4096=Builtin.bitAnd (boxM S (f/64%4)) (boxM S (f/16%4)):=Int.emod_eq_of_lt hw.1 hw.2
  show({S with here:=behL S 6,tz:=decide (Builtin.bitAnd (boxM S (f/64%4)) (boxM S (f/16%4))%4096=0),tl:=false,bx:=S.bx.set (f/64%4).toNat (Builtin.bitAnd (boxM S (f/64%4)) (boxM S (f/16%4))%4096),done:=S.done+1}:MS)=_
  rw[hm]
  rfl
 .obtain⟨k1,k2⟩:=A8 (s:=s) (n:=7) h rfl
  have hb:behM S ("xor","xy") [f/64%4,f/16%4] 7=behL S 7:=rfl
  rw[k1,k2,h]
  show doM S ("xor","xy") [f/64%4,f/16%4] 7=_
  unfold doM goM
  rw[hb]
  have hw:=QG bx.1 bx.2 by_.1 by_.2
  have hm:Builtin.bitXor (boxM S (f/64%4)) (boxM S (f/16%4))%4096=Builtin.bitXor (boxM S (f/64%4)) (boxM S (f/16%4)):=Int.emod_eq_of_lt hw.1 hw.2
  show({S with here:=behL S 7,tz:=decide (Builtin.bitXor (boxM S (f/64%4)) (boxM S (f/16%4))%4096=0),tl:=false,bx:=S.bx.set (f/64%4).toNat (Builtin.bitXor (boxM S (f/64%4)) (boxM S (f/16%4))%4096),done:=S.done+1}:MS)=_
  rw[hm]
  rfl
 .obtain⟨k1,k2⟩:=A8 (s:=s) (n:=8) h rfl
  have hb:behM S ("cmp","xy") [f/64%4,f/16%4] 8=behL S 8:=rfl
  rw[k1,k2,h]
  show doM S ("cmp","xy") [f/64%4,f/16%4] 8=_
  unfold doM goM
  rw[hb]
  rfl
 .obtain⟨k1,k2⟩:=A8 (s:=s) (n:=9) h rfl
  have hb:behM S ("load","xym") [f/64%4,f/16%4,f/1%16] 9=behL S 9:=rfl
  rw[h,Tk]at hh
  rw[k1,k2,h]
  show doM S ("load","xym") [f/64%4,f/16%4,f/1%16] 9=_
  unfold doM goM
  rw[hb]
  have hr:Ay S.pg (BV S (f/16%4) (f%16)) 0=true:=by
   cases hr:Ay S.pg (BV S (f/16%4) (f%16)) 0 with
   |true=>rfl
   |false=>rw[hr,if_pos rfl]at hh;exact absurd hh (by decide)
  have hc:=Qf ok hr
  rw[e1]
  show({S with here:=behL S 9,bx:=S.bx.set (f/64%4).toNat (AB S.mem (BV S (f/16%4) (f%16))),done:=S.done+1}:MS)={S with here:=behL S 9,bx:=S.bx.set (f/64%4).toNat (AB S.mem (BV S (f/16%4) (f%16)%(S.mem.length:Int))),done:=S.done+1}
  rw[hc]
 .obtain⟨k1,k2⟩:=A8 (s:=s) (n:=10) h rfl
  have hb:behM S ("store","xym") [f/64%4,f/16%4,f/1%16] 10=behL S 10:=rfl
  rw[k1,k2,h]
  show doM S ("store","xym") [f/64%4,f/16%4,f/1%16] 10=_
  unfold doM goM
  rw[hb]
  rw[e1]
  rfl
 .obtain⟨k1,k2⟩:=A8 (s:=s) (n:=11) h rfl
  have hb:behM S ("jump","n") [s] 11=behL S 11:=b2 _ rfl
  rw[k1,k2,h]
  show doM S ("jump","n") [s] 11=_
  unfold doM goM
  rw[hb]
  rfl
 .obtain⟨k1,k2⟩:=A8 (s:=s) (n:=12) h rfl
  have hb:behM S ("branch","kn") [f/1%4,s] 12=behL S 12:=b2 _ rfl
  rw[k1,k2,h]
  show doM S ("branch","kn") [f/1%4,s] 12=_
  unfold doM goM
  rw[hb]
  rw[e4]
  show({S with here:=nextM S "branch" [f%16%4,s] (behL S 12),done:=S.done+1}:MS)={S with here:=toL S 12 (f/64%4) (f%16) s (behL S 12),done:=S.done+1}
  have ht:nextM S "branch" [f%16%4,s] (behL S 12)=toL S 12 (f/64%4) (f%16) s (behL S 12):=by
   unfold nextM toL
   rw[if_neg (by decide)]
   by_cases hbr:brB (f%16%4) S.tz S.tl=true
   .exact(if_pos ⟨rfl,hbr⟩).trans (((if_neg (by decide)).trans ((if_neg (by decide)).trans (if_pos (.inr ⟨rfl,hbr⟩)))).symm)
   .exact((if_neg (λz=>hbr z.2)).trans (if_neg (by decide))).trans (((if_neg (by decide)).trans ((if_neg (by decide)).trans (if_neg (λz=>z.elim (λw=>absurd w (by decide)) (λw=>hbr w.2))))).symm)
  rw[ht]
 .obtain⟨k1,k2⟩:=A8 (s:=s) (n:=13) h rfl
  have hb:behM S ("call","xn") [f/64%4,s] 13=behL S 13:=b2 _ rfl
  rw[k1,k2,h]
  show doM S ("call","xn") [f/64%4,s] 13=_
  unfold doM goM
  rw[hb]
  rfl
 .obtain⟨k1,k2⟩:=A8 (s:=s) (n:=14) h rfl
  have hb:behM S ("back","x") [f/64%4] 14=behL S 14:=rfl
  rw[k1,k2,h]
  show doM S ("back","x") [f/64%4] 14=_
  unfold doM goM
  rw[hb]
  rfl
 .obtain⟨k1,k2⟩:=A8 (s:=s) (n:=15) h rfl
  have hb:behM S ("out","x") [f/64%4] 15=behL S 15:=rfl
  rw[k1,k2,h]
  show doM S ("out","x") [f/64%4] 15=_
  unfold doM goM
  rw[hb]
  rfl
def nowD(S:MS):DF:=[("pages",.list (S.pg.map AI)),("cells",.list (S.mem.map int)),("boxes",.list (S.bx.map int)),("truths",.tuple [.bool S.tz,.bool S.tl]),("place",.int S.here),("told",.list (S.told.map int)),("stored",.list (S.sto.map int)),("done",.int S.done)]
theorem Ju(S:MS):(("pages",.list (S.pg.map AI)):Str×PyData)∈nowD S:=mem_of_getElem? (i:=0) rfl
theorem BH(S:MS):(("cells",.list (S.mem.map int)):Str×PyData)∈nowD S:=mem_of_getElem? (i:=1) rfl
theorem Bz(S:MS):(("boxes",.list (S.bx.map int)):Str×PyData)∈nowD S:=mem_of_getElem? (i:=2) rfl
theorem HY(S:MS):(("truths",.tuple [.bool S.tz,.bool S.tl]):Str×PyData)∈nowD S:=mem_of_getElem? (i:=3) rfl
theorem Fu(S:MS):(("place",.int S.here):Str×PyData)∈nowD S:=mem_of_getElem? (i:=4) rfl
theorem Js(S:MS):(("told",.list (S.told.map int)):Str×PyData)∈nowD S:=mem_of_getElem? (i:=5) rfl
theorem FU(S:MS):(("stored",.list (S.sto.map int)):Str×PyData)∈nowD S:=mem_of_getElem? (i:=6) rfl
theorem LB(S:MS):(("done",.int S.done):Str×PyData)∈nowD S:=mem_of_getElem? (i:=7) rfl
abbrev nowK:List Str:=["pages","cells","boxes","truths","place","told","stored","done"]
theorem M9:nowK.Nodup:=by decide+kernel
theorem LO(S:MS):((nowD S).map (·.1)).Nodup:=M9
theorem CZ{n:Nat}(h:n+64<cLine):n+1<cLine:=Nat.lt_of_le_of_lt (Nat.add_le_add_left (by decide) _) h
theorem AZ{a:Expr}{d:PyData}{f:Str}{k:Nat}{p:Pos}(hu:X.A.units+64<cLine)(ha:EV X G a (.dict (dfD (nowD S))))(hf:(f,d)∈nowD S):EV X G (.Subscript a (.Constant (.str f) k p) pos) d:=Rb (CZ hu) ha Ak (LO S) hf rfl
theorem Jo{i j:Str}{k:Bool}(hk:(!(!(occurrences j i 0 j.length 1).isEmpty))=k):OD X (compareOp .NotIn) (.str i) (.str j) (.bool k):=
 op_notin_str.imp λy z H Q ⟨h1,h2,q⟩=>⟨i,j,h1.of_str,h2.of_str,q _ H (Same.refl H) (by rw[hk];exact .bl k)⟩
def Gq(ds:List PyData)(d:PyData):Prop:=∃(S:MS) (c r:Int),MsOk S/\0<=c/\0<=r/\r<3/\ds=[.dict (dfD (nowD S)),.int c,.int r]/\d=.bool (Ay S.pg c r)
theorem ON(T:Txt mg)(F:Fun K "_law_may" "_law_may" G6 f fd)(hm:mg "_law_may"=some (.ref f)):DFn P w K mg base 1 "_law_may" Gq:=by
 refine F.data hm (by walk_at"b3") LD (λds d ⟨_,_,_,_,_,_,_,e,_⟩=>by rw[e];rfl) λcdv A outer s H E ds d hr ⟨S,c,r,ok,c0,r0,r1,e,e2⟩=>?_
 subst e e2
 have hl:((S.mem.map int).length:Int)=16*S.pg.length:=by rw[length_map];have:=ok.ml;omega
 by_cases hc:c<16*(S.pg.length:Int)
 .have i0:0<=c/16:=by omega
  have i1:c/16<S.pg.length:=by omega
  refine Ag (Ap (Cj (k:=true) (A2 (AX (evv 1) (Au "len" (Aa (AZ (by walk_at"un") (evv 0) (BH _)) Ad) (by walk_at"cd") rfl T.b_len (by decide+kernel)) (by walk_at"od") (Af _)) (by rw[hl,decide_eq_true hc])) (λ_=>Dt ?_) nofun))
  refine A2 (AK (A2 (As (AZ (by walk_at"un") (evv 0) (Ju _)) (Ac (evv 1) Ab (by walk_at"od")) (Lc i0 i1)) (show _=tuple [_,_,_]from rfl)) (evv 2) (MM r0 r1)) ?_
  unfold Ay
  rw[decide_eq_true c0,decide_eq_true hc]
  rfl
 .refine Ag (Ap (Cj (k:=false) (A2 (AX (evv 1) (Au "len" (Aa (AZ (by walk_at"un") (evv 0) (BH _)) Ad) (by walk_at"cd") rfl T.b_len (by decide+kernel)) (by walk_at"od") (Af _)) (by rw[hl,decide_eq_false hc])) nofun (λ_=>?_)))
  unfold Ay
  rw[decide_eq_false hc,Bool.and_false]
  rfl
def Nh(ds ws:List PyData):Prop:=∃op a b:Int,0<=a/\a<4096/\0<=b/\b<4096/\ds=[.int op,.int a,.int b]/\ws=[.int (recL op a b).1,.bool (recL op a b).2]
theorem Ir(F:Fun K "_law_reckoned" "_law_reckoned" BX f fd)(hm:mg "_law_reckoned"=some (.ref f)):FFn P w K mg base 1 "_law_reckoned" Nh:=by
 refine F.dataF hm (by walk_at"b3") GM (λds d ⟨_,_,_,_,_,_,_,e,_⟩=>by rw[e];rfl) λcdv A outer s H E ds ws hr ⟨op,a,b,a0,a1,b0,b1,e,e2⟩=>?_
 subst e e2
 have eqz:∀n:Int,OD (cxOf CX0 P w K mg base ["op","one","other"] "_law_reckoned" (Ae BX) f cdv A outer s H E).nox (compareOp .Eq) (.int op) (.int n) (.bool (decide (op=n))):=λn=>Bs (by walk_at"un") rfl rfl (by walk_at"dp") (Bo op n)
 unfold recL
 by_cases h3:op=3
 .rw[if_pos h3]
  exact EZ (Am (Ah (evv 0) Ab (eqz _) (Af _)) (decide_eq_true h3)) (Ce (Aa (Ac (Ac (evv 1) (evv 2) (by walk_at"od")) Ab (by walk_at"od")) (Aa (AX (Ac (evv 1) (evv 2) (by walk_at"od")) Ab (by walk_at"od") (Af _)) Ad)) (by walk_at"sz"))
 rw[if_neg h3]
 refine Bw (Ax (k:=false) (Am (Ah (evv 0) Ab (eqz _) (Af _)) (decide_eq_false h3)) nofun (λ_=>Ar)) ?_
 by_cases h4:op=4\/op=8
 .rw[if_pos h4]
  exact EZ (Am (Bn (BE (Ah (evv 0) Ab (eqz 4) (Af _)) (λ_=>By (Ah (evv 0) Ab (eqz 8) (Af _))))) (by rw[<-Bool.decide_or];exact decide_eq_true h4)) (Ce (Aa (Ac (Ac (evv 1) (evv 2) (by walk_at"od")) Ab (by walk_at"od")) (Aa (AX (evv 1) (evv 2) (by walk_at"od") (Af _)) Ad)) (by walk_at"sz"))
 rw[if_neg h4]
 refine Bw (Ax (k:=false) (Am (Bn (BE (Ah (evv 0) Ab (eqz 4) (Af _)) (λ_=>By (Ah (evv 0) Ab (eqz 8) (Af _))))) (by rw[<-Bool.decide_or];exact decide_eq_false h4)) nofun (λ_=>Ar)) ?_
 by_cases h5:op=5
 .rw[if_pos h5]
  exact EZ (Am (Ah (evv 0) Ab (eqz _) (Af _)) (decide_eq_true h5)) (Ce (Aa (Ac (Ac (evv 1) (evv 2) (Dw (inl ⟨by omega,by omega⟩))) Ab (A1 (by decide))) (Aa EM Ad)) (by walk_at"sz"))
 rw[if_neg h5]
 refine Bw (Ax (k:=false) (Am (Ah (evv 0) Ab (eqz _) (Af _)) (decide_eq_false h5)) nofun (λ_=>Ar)) ?_
 by_cases h6:op=6
 .rw[if_pos h6]
  exact EZ (Am (Ah (evv 0) Ab (eqz _) (Af _)) (decide_eq_true h6)) (Ce (Aa (Ac (evv 1) (evv 2) QT) (Aa EM Ad)) (by walk_at"sz"))
 rw[if_neg h6]
 refine Bw (Ax (k:=false) (Am (Ah (evv 0) Ab (eqz _) (Af _)) (decide_eq_false h6)) nofun (λ_=>Ar)) ?_
 exact Ce (Aa (Ac (evv 1) (evv 2) Ql) (Aa EM Ad)) (by walk_at"sz")
def LP(ds:List PyData)(d:PyData):Prop:=∃(z l:Bool) (k:Int),ds=[.tuple [.bool z,.bool l],.int k]/\d=.bool (brB (k%4) z l)
theorem Ls(F:Fun K "_law_goes" "_law_goes" Fi f fd)(hm:mg "_law_goes"=some (.ref f)):DFn P w K mg base 1 "_law_goes" LP:=by
 refine F.data hm (by walk_at"b2") KK (λds d ⟨_,_,_,e,_⟩=>by rw[e];rfl) λcdv A outer s H E ds d hr ⟨z,l,k,e,e2⟩=>?_
 subst e e2
 exact Ag (Ap (As (AR (ds:=[.bool z,.bool (!z),.bool l,.bool (!l)]) (Aa (AK (ds:=[.bool z,.bool l]) (evv 0) Ab (AF (by decide) rfl)) (Aa (Gs (AK (ds:=[.bool z,.bool l]) (evv 0) Ab (AF (by decide) rfl))) (Aa (AK (ds:=[.bool z,.bool l]) (evv 0) Ab (AF (by decide) rfl)) (Aa (Gs (AK (ds:=[.bool z,.bool l]) (evv 0) Ab (AF (by decide) rfl))) Ad)))) (by walk_at"sz")) (Ac (evv 1) Ab (by walk_at"od")) (SI (by omega) (by omega))))
def JY(ds:List PyData)(d:PyData):Prop:=∃i:Int,ds=[.int i]/\d=.bool true
theorem Km(T:Txt mg)(F:Fun K "_law_whole" "_law_whole" Es f fd)(hm:mg "_law_whole"=some (.ref f)):DFn P w K mg base 1 "_law_whole" JY:=by
 refine F.data hm (by walk_at"b1") Jv (λds d ⟨_,e,_⟩=>by rw[e];rfl) λcdv A outer s H E ds d hr ⟨i,e,e2⟩=>?_
 subst e e2
 exact Ag (Ap (A2 (Cj (E_ (n:="int") (evv 0) rfl T.b_isinstance rfl T.b_int (by decide+kernel) (by rfl)) (λ_=>(Dt (Gs (E_ (n:="bool") (evv 0) rfl T.b_isinstance rfl T.b_bool (by decide+kernel) (by rfl))))) (by walk_at"bf")) rfl))
local macro_rules| `(tactic|walk_at"rt")=>`(tactic|repeat' (first|with_reducible exact Ab|with_reducible exact Ak|with_reducible exact Ad|with_reducible refine Aa ?_ ?_ EJ|with_reducible refine AR ?_ ?_|(rw[sizeLine_eq];decide)))
theorem Sg{op:Int}(h0:0<=op)(h1:op<16):hasO op∈hasL:=by
 unfold hasO
 have h:op.toNat<hasL.length:=by show op.toNat<16;omega
 rw[getD_eq_getElem?_getD,getElem?_eq_getElem h]
 exact getElem_mem h
theorem Ui:∀h∈hasL,inB "k" h=true->inB "m" h=false:=by decide+kernel
theorem TU{h:Str}(hh:h∈hasL):atI [int 0,.int 3,.int 15] ((if inB "k" h then(1:Int)else 0)+2*(if inB "m" h then(1:Int)else 0))=some (.int (limO h)):=by
 unfold limO
 cases hk:inB "k" h with
 |true=>rw[Ui h hh hk];rfl
 |false=>cases hm:inB "m" h<;>rfl
def Cg(S:MS):List PyData:=
 if Ay S.pg S.here 2=false then[.str "run"]
 else if(badM (AB S.mem S.here)||badX (AB S.mem S.here))=true then[.str "row"]
 else if twoO (AB S.mem S.here/256)=false then[.int (AB S.mem S.here/256),.int (AB S.mem S.here/64%4),.int (AB S.mem S.here/16%4),.int (AB S.mem S.here%16),.int 0,.int ((S.here+1)%4096)]
 else if Ay S.pg ((S.here+1)%4096) 2=false then[.str "run"]
 else[.int (AB S.mem S.here/256),.int (AB S.mem S.here/64%4),.int (AB S.mem S.here/16%4),.int (AB S.mem S.here%16),.int (AB S.mem ((S.here+1)%4096)),.int (((S.here+1)%4096+1)%4096)]
def QM(ds ws:List PyData):Prop:=∃S:MS,MsOk S/\ds=[.dict (dfD (nowD S))]/\ws=Cg S
theorem Rm(op:Int):(!([int 1,.int 11,.int 12,.int 13].any λe=>eqv e (.int op)))=!twoO op:=by
 unfold twoO
 simp only[any_cons,any_nil,Bool.or_false,Bo]
 by_cases h1:op=1<;>by_cases h2:op=11<;>by_cases h3:op=12<;>by_cases h4:op=13<;>simp[h1,h2,h3,h4,eq_comm]
theorem TQ{d:PyData}{i:Nat}{p:Pos}{sts:List Stmt}{ws:List PyData}(hN:X.N.Nodup)(hi:X.N[i]?=some x)(hx:Loc X.env.scope x)(h:EV X G e d)(h2:FRs X (G.set i (some d)) sts ws)(hs:swapsWith e (some (.Name x p)) pos.line X.env=pure false:=by rfl)
  (hf:Zlo X x:=by first|exact .inl rfl|exact .inr rfl|assumption):FRs X G (.Assign [.Name x p] e pos::sts) ws:=Bw (AE hN hi hx h hs hf) h2
theorem Jz{c:Expr}{k:Bool}{A sts:List Stmt}{ws:List PyData}(hc:TV X G c k)(h1:k=true->FRs X G A ws)(h2:k=false->FRs X G sts ws):FRs X G (.If c A [] pos::sts) ws:=by
 cases k with
 |true=>exact EZ hc (h1 rfl)
 |false=>exact Bw (Ax (k:=false) hc nofun (λ_=>Ar)) (h2 rfl)
theorem HM(T:Txt mg)(D_law_may:DFn P w K mg base 1 "_law_may" Gq)(F:Fun K "_law_row_here" "_law_row_here" CQ f fd)(hm:mg "_law_row_here"=some (.ref f)):FFn P w K mg base 2 "_law_row_here" QM:=by
 refine F.dataF hm (by walk_at"b1") sc_law_row_here (λds d ⟨_,_,e,_⟩=>by rw[e];rfl) λcdv A outer s H E ds ws hr ⟨S,ok,e,e2⟩=>?_
 subst e
 have at_:∀{c:Int},Ay S.pg c 2=true->atI (S.mem.map int) c=some (.int (AB S.mem c)):=λ{c} h=>by
  have hh:=DH h
  exact Bf hh.1 (by have:=ok.ml;omega)
 have may:∀c:Int,0<=c->∀b:Bool,Ay S.pg c 2=b->Gq [.dict (dfD (nowD S)),.int c,.int 2] (.bool b):=λc c0 b h=>⟨S,c,2,ok,c0,by decide,by decide,rfl,by rw[h]⟩
 have hw:=Ie ok S.here
 unfold Cg at e2
 cases hr1:Ay S.pg S.here 2 with
 |false=>
  rw[if_pos hr1]at e2
  subst e2
  exact EZ (AT (k:=false) (AM (An D_law_may (by walk_at"rm") rfl (Aa (evv 0) (Aa (AZ (by walk_at"un") (evv 0) (Fu _)) (Aa Ab Ad))) (may _ ok.h.1 _ hr1)))) (Ce (Aa Ak Ad) (by walk_at"sz"))
 |true=>
  rw[if_neg (by rw[hr1];decide)]at e2
  refine Bw (Ax (k:=false) (AT (k:=true) (AM (An D_law_may (by walk_at"rm") rfl (Aa (evv 0) (Aa (AZ (by walk_at"un") (evv 0) (Fu _)) (Aa Ab Ad))) (may _ ok.h.1 _ hr1)))) nofun (λ_=>Ar)) ?_
  generalize hf:AB S.mem S.here=f0 at hw e2
  have o0:0<=f0/256:=by omega
  have o1:f0/256<16:=by omega
  refine Bw (AE (i:=1) (d:=.int f0) sc_law_row_here.nd rfl (inl rfl) (As (AZ (by walk_at"un") (evv 0) (BH _)) (AZ (by walk_at"un") (evv 0) (Fu _)) ((at_ hr1).trans (by rw[hf])))) ?_
  refine Bw (AE (i:=2) sc_law_row_here.nd rfl (by first|exact inl rfl|exact Or.inr rfl) (Ac (evv 1) Ab (by walk_at"od"))) ?_
  refine Bw (AE (i:=3) sc_law_row_here.nd rfl (by first|exact inl rfl|exact Or.inr rfl) (Ac (Ac (evv 1) Ab (by walk_at"od")) Ab (by walk_at"od"))) ?_
  refine Bw (AE (i:=4) sc_law_row_here.nd rfl (by first|exact inl rfl|exact Or.inr rfl) (Ac (Ac (evv 1) Ab (by walk_at"od")) Ab (by walk_at"od"))) ?_
  refine Bw (AE (i:=5) sc_law_row_here.nd rfl (by first|exact inl rfl|exact Or.inr rfl) (Ac (evv 1) Ab (by walk_at"od"))) ?_
  have hmem:=Sg o0 o1
  refine TQ (i:=6) (d:=.str (hasO (f0/256))) ?a1 ?a2 ?a3 ?a4 ?a5 (hs:=?a6) (hf:=?a7)
  case a1=>exact sc_law_row_here.nd
  case a2=>exact rfl
  case a3=>exact inl rfl
  case a6=>exact rfl
  case a7=>first|exact .inl rfl|exact .inr rfl
  case a4=>
   with_reducible refine As (i:=f0/256) (ds:=[.str "",.str "x",.str "xy",.str "xy",.str "xy",.str "xy",.str "xy",.str "xy",.str "xy",.str "xym",.str "xym",.str "",.str "k",.str "x",.str "x",.str "x"]) ?l1 ?l2 ?l3 (hs:=?l4)
   case l1=>walk_at"rt"
   case l2=>exact(evv 2)
   case l3=>exact MP (l:=hasL) o0 (by show f0/256<16;exact o1)
   case l4=>intro _ _;rfl
  refine Jz (k:=badM f0) (Ah (evv 5) (As (ds:=[.int 0,.int 3,.int 15]) (AR (Aa Ab (Aa Ab (Aa Ab Ad))) (by walk_at"sz")) (Ac (BM "int" (Aa (AX Ak (evv 6) (J8 (k:=inB "k" (hasO (f0/256))) rfl) (by with_unfolding_all rfl)) Ad) E6 rfl T.b_int (by decide+kernel)) (Ac Ab (BM "int" (Aa (AX Ak (evv 6) (J8 (k:=inB "m" (hasO (f0/256))) rfl) (by with_unfolding_all rfl)) Ad) E6 rfl T.b_int (by decide+kernel)) (Dw (by cases inB "m" (hasO (f0/256))<;>exact inl ⟨by decide,by decide⟩))) AH) (TU hmem)) FN (Af _)) (λhb1=>?_) (λhb1=>?_)
  .rw[hb1,Bool.true_or,if_pos rfl]at e2
   subst e2
   exact Ce (Aa Ak Ad) (by walk_at"sz")
  rw[hb1,Bool.false_or]at e2
  refine Jz (k:=badX f0) (Bn (BE (k:=!inB "x" (hasO (f0/256))&&decide (f0/64%4>0)) (k':=!inB "y" (hasO (f0/256))&&decide (f0/16%4>0)) (Bn (AY (Ah Ak (evv 6) (Jo (k:=!inB "x" (hasO (f0/256))) rfl) (by with_unfolding_all rfl)) (λ_=>Bg (Ah (evv 3) Ab FN (Af _))))) (λ_=>By (Bn (AY (Ah Ak (evv 6) (Jo (k:=!inB "y" (hasO (f0/256))) rfl) (by with_unfolding_all rfl)) (λ_=>Bg (Ah (evv 4) Ab FN (Af _)))))))) (λhb2=>?_) (λhb2=>?_)
  .rw[if_pos hb2]at e2
   subst e2
   exact Ce (Aa Ak Ad) (by walk_at"sz")
  rw[if_neg (by rw[hb2];decide)]at e2
  refine Bw (AE (i:=7) (d:=.int ((S.here+1)%4096)) sc_law_row_here.nd rfl (inl rfl) (Ac (Ac (AZ (by walk_at"un") (evv 0) (Fu _)) Ab (by walk_at"od")) Ab (by walk_at"od"))) ?_
  refine Jz (k:=!twoO (f0/256)) (Ah (evv 2) (AR (ds:=[.int 1,.int 11,.int 12,.int 13]) (Aa Ab (Aa Ab (Aa Ab (Aa Ab Ad)))) (by walk_at"sz")) (FK (.inl rfl) rfl rfl (Rm _)) (by with_unfolding_all rfl)) (λhb3=>?_) (λhb3=>?_)
  .rw[if_pos (by rw[Bool.not_eq_true']at hb3;exact hb3)]at e2
   subst e2
   exact Ce (Aa (evv 2) (Aa (evv 3) (Aa (evv 4) (Aa (evv 5) (Aa Ab (Aa (evv 7) Ad)))))) (by walk_at"sz")
  rw[if_neg (by rw[Bool.not_eq_false']at hb3;rw[hb3];decide)]at e2
  refine Jz (k:=!Ay S.pg ((S.here+1)%4096) 2) (AT (AM (An D_law_may (by walk_at"rm") rfl (Aa (evv 0) (Aa (evv 7) (Aa Ab Ad))) (may _ (by omega) _ rfl)))) (λhr2=>?_) (λhr2=>?_)
  .rw[if_pos (by rw[Bool.not_eq_true']at hr2;exact hr2)]at e2
   subst e2
   exact Ce (Aa Ak Ad) (by walk_at"sz")
  rw[Bool.not_eq_false']at hr2
  rw[if_neg (by rw[hr2];decide)]at e2
  subst e2
  exact Ce (Aa (evv 2) (Aa (evv 3) (Aa (evv 4) (Aa (evv 5) (Aa (As (AZ (by walk_at"un") (evv 0) (BH _)) (evv 7) (at_ hr2)) (Aa (Ac (Ac (evv 7) Ab (by walk_at"od")) Ab (by walk_at"od")) Ad)))))) (by walk_at"sz")
end
variable{rs:List (Nat×Addr)}{R:OR}
def NV(ds:List PyData)(df:DF):Prop:=∃S:MS,S.tz=false/\S.tl=false/\S.told=[]/\S.sto=[]/\S.done=0/\ds=[.list (S.pg.map AI),.list (S.mem.map int),.list (S.bx.map int),.int S.here]/\df=nowD S
theorem HX(l:List (Bool×Bool×Bool)):noLs (l.map AI)=true:=by
 induction l with
 |nil=>rfl
 |cons q r ih=>
  rw[map_cons]
  unfold noLs
  rw[ih]
  rfl
theorem OL(T:Txt mg)(F:Fun K "_law_new" "_law_new" G5 f fd)(hm:mg "_law_new"=some (.ref f)):NnFn P w K mg base 1 "_law_new" NV:=by
 refine F.dictN hm (F.binds λ_ _ _ _ _ _ us hl=>match us,hl with|[_,_,_,_],_=>rfl) sc_law_new (λds df ⟨_,_,_,_,_,_,e,_⟩=>by rw[e];rfl) λcdv A outer s H E ds df hr ⟨S,q1,q2,q3,q4,q5,e,e2⟩=>?_
 subst e
 have e3:df=([("pages",.list (S.pg.map AI)),("cells",.list (S.mem.map int)),("boxes",.list (S.bx.map int)),("truths",.tuple [.bool false,.bool false])]:List (Str×PyData))++([("place",.int S.here),("told",.list []),("stored",.list []),("done",.int 0)]:List (Str×PyData)):=by
  rw[e2]
  unfold nowD
  rw[q1,q2,q3,q4,q5]
  rfl
 rw[e3]
 refine Qo (i:=4) (P8 (IA Ak (AC (evv 0) rfl T.b_list) (HX _) (by show("pages":Str)∉(["cells","boxes","truths"]:List Str);decide+kernel) (IA Ak (AC (evv 1) rfl T.b_list) (A_ _) (by show("cells":Str)∉(["boxes","truths"]:List Str);decide+kernel) (IA Ak (AC (evv 2) rfl T.b_list) (A_ _) (by show("boxes":Str)∉(["truths"]:List Str);decide+kernel) (Mn Ak (AW (ds:=[.bool false,.bool false]) (Aa EM (Aa EM Ad)) (by walk_at"sz")) rfl QZ)))) sc_law_new.nd rfl (inl rfl) (by show 4<5;decide) rfl (by show 4<=15;decide) (by show(["pages","cells","boxes","truths"]:List Str).Nodup;decide+kernel)) ?_ (pv 4)
 exact RD (Mn Ak (evv 3) rfl (IA Ak (DU Ad (by walk_at"sz")) rfl (by show("told":Str)∉(["stored","done"]:List Str);decide+kernel) (IA Ak (DU Ad (by walk_at"sz")) rfl (by show("stored":Str)∉(["done"]:List Str);decide+kernel) (Mn Ak Ab rfl QZ)))) (pv 4) (by show 4<=15;decide) (by show 8<=40;decide) (by show nowK.Nodup;exact M9) ⟨rfl,rfl,rfl,rfl⟩
theorem Pt{a b:Str}{l r:List Int}(h:rowD a l=rowD b r):a=b/\l=r:=by
 unfold rowD at h
 have h1:=tuple.inj h
 have h2:=List.cons.inj h1
 exact⟨str.inj h2.1,(List.map_inj_right (λ_ _ z=>int.inj z)).mp h2.2⟩
theorem Qh{f s:Int}{nums:List Int}{j:Nat}(h0:0<=f)(h1:f<4096)(row:IsRow q nums j)(h:rowD q.1 nums=rowD (kindOf f).1 (numsOf f s)):q=kindOf f/\nums=numsOf f s/\j=(f/256).toNat:=by
 obtain⟨e1,e2⟩:=Pt h
 have hk:=Fr h0 h1
 have a1:=DN row.1
 have a2:=DN hk
 rw[e1]at a1
 obtain⟨l1,g1⟩:=List.getElem?_eq_some_iff.mp a1
 obtain⟨l2,g2⟩:=List.getElem?_eq_some_iff.mp a2
 have ej:j=(f/256).toNat:=(getElem_inj names_nodup).mp (g1.trans g2.symm)
 have hq:=row.1
 rw[ej,hk]at hq
 exact⟨(Option.some.inj hq).symm,e2,ej⟩
theorem Iy{S':MS}{wd w1:Str}(e:Bx S.pg S.mem S.here=.tuple [.str w1,.none])(st:DI S wd S'):wd=w1/\S'=S:=by
 rcases st with⟨e1,e'⟩|⟨j,q,nums,row,e1,_,_⟩
 .rw[e]at e1
  have:=tuple.inj e1
  exact⟨(str.inj (List.cons.inj this).1).symm,e'⟩
 .rw[e]at e1
  have:=(List.cons.inj (List.cons.inj (tuple.inj e1)).2).1
  cases this
theorem Qv{S':MS}{wd:Str}{f s:Int}(h0:0<=f)(h1:f<4096)(e:Bx S.pg S.mem S.here=.tuple [.str "",rowD (kindOf f).1 (numsOf f s)])(st:DI S wd S'):wd=B3 S (kindOf f).1 (numsOf f s)/\S'=if B3 S (kindOf f).1 (numsOf f s)=""then doM S (kindOf f) (numsOf f s) (f/256).toNat else S:=by
 rcases st with⟨e1,e'⟩|⟨j,q,nums,row,e1,ew,e'⟩
 .rw[e]at e1
  have:=(List.cons.inj (List.cons.inj (tuple.inj e1)).2).1
  cases this
 .rw[e]at e1
  have:=(List.cons.inj (List.cons.inj (tuple.inj e1)).2).1
  obtain⟨a,b,c⟩:=Qh h0 h1 row this.symm
  subst a b c
  exact⟨ew,e'⟩
structure LawR(S:MS)(wd:Str)(S':MS)(op x y m n b:Int):Prop where
 row:Cg S=[.int op,.int x,.int y,.int m,.int n,.int b]
 o0:0<=op
 o1:op<16
 x0:0<=x
 x1:x<4
 y0:0<=y
 y1:y<4
 m0:0<=m
 m1:m<16
 n0:0<=n
 n1:n<4096
 b0:0<=b
 b1:b<4096
 w:wd=Cp S op (BV S y m)
 s:S'=if Cp S op (BV S y m)=""then lawS S op x y m n b else S
theorem PJ{S':MS}{wd:Str}(ok:MsOk S)(st:DI S wd S'):(Cg S=[.str wd]/\S'=S)\/∃op x y m n b,LawR S wd S' op x y m n b:=by
 have hw:=Ie ok S.here
 have hs:=Ie ok ((S.here+1)%4096)
 have hml:=Qb hw.1 hw.2
 have good:(badM (AB S.mem S.here)||badX (AB S.mem S.here))=false->Dd (AB S.mem S.here) 0:=(K9 hw.1 hw.2).mp
 have fin:∀s:Int,0<=s->s<4096->Dd (AB S.mem S.here) s->Bx S.pg S.mem S.here=.tuple [.str "",CV (AB S.mem S.here) s]->Cg S=[.int (AB S.mem S.here/256),.int (AB S.mem S.here/64%4),.int (AB S.mem S.here/16%4),.int (AB S.mem S.here%16),.int (secL (AB S.mem S.here/256) s),.int (behL S (AB S.mem S.here/256))]->∃op x y m n b,LawR S wd S' op x y m n b:=by
  intro s s0 s1 g er el
  rw[Fa hw.1 hw.2 g]at er
  obtain⟨a1,a2⟩:=Qv hw.1 hw.2 er st
  rw[LM S hw.1 hw.2]at a1 a2
  refine⟨_,_,_,_,_,_,el,by omega,by omega,by omega,by omega,by omega,by omega,by omega,by omega,?_,?_,?_,?_,a1,?_⟩
  .unfold secL;split<;>omega
  .unfold secL;split<;>omega
  .unfold behL;split<;>omega
  .unfold behL;split<;>omega
  .rw[a2]
   split
   .rename_i hh
    exact Pu ok hw.1 hw.2 hh
   .rfl
 generalize hf:AB S.mem S.here=f0 at*
 cases hr1:Ay S.pg S.here 2 with
 |false=>
  have er:Bx S.pg S.mem S.here=.tuple [.str "run",.none]:=by unfold Bx;rw[if_pos hr1]
  obtain⟨a1,a2⟩:=Iy er st
  refine .inl ⟨?_,a2⟩
  unfold Cg
  rw[if_pos hr1,a1]
 |true=>
  have n1:¬Ay S.pg S.here 2=false:=by rw[hr1];decide
  cases hb:(badM f0||badX f0)with
  |true=>
   rw[hb,if_pos rfl]at hml
   have er:Bx S.pg S.mem S.here=.tuple [.str "row",.none]:=by unfold Bx;rw[if_neg n1,hf,if_pos hml]
   obtain⟨a1,a2⟩:=Iy er st
   refine .inl ⟨?_,a2⟩
   unfold Cg
   rw[if_neg n1,hf,if_pos hb,a1]
  |false=>
   rw[hb,if_neg Bool.false_ne_true]at hml
   have n2:¬(badM f0||badX f0)=true:=by rw[hb];decide
   cases ht:twoO (f0/256)with
   |false=>
    rw[ht,if_neg Bool.false_ne_true]at hml
    refine .inr (fin 0 (by decide) (by decide) (good hb) ?_ ?_)
    .unfold Bx
     rw[if_neg n1,hf,if_neg (by rw[hml];decide),if_pos hml]
    .unfold Cg secL behL
     rw[if_neg n1,hf,if_neg n2,if_pos ht,if_neg (by rw[ht];decide),if_neg (by rw[ht];decide)]
   |true=>
    rw[ht,if_pos rfl]at hml
    have n3:¬twoO (f0/256)=false:=by rw[ht];decide
    cases hr2:Ay S.pg ((S.here+1)%4096) 2 with
    |false=>
     have er:Bx S.pg S.mem S.here=.tuple [.str "run",.none]:=by unfold Bx;rw[if_neg n1,hf,if_neg (by rw[hml];decide),if_neg (by rw[hml];decide),if_pos hr2]
     obtain⟨a1,a2⟩:=Iy er st
     refine .inl ⟨?_,a2⟩
     unfold Cg
     rw[if_neg n1,hf,if_neg n2,if_neg n3,if_pos hr2,a1]
    |true=>
     have n4:¬Ay S.pg ((S.here+1)%4096) 2=false:=by rw[hr2];decide
     refine .inr (fin _ hs.1 hs.2 (GC hs.1 hs.2 (good hb)) ?_ ?_)
     .unfold Bx
      rw[if_neg n1,hf,if_neg (by rw[hml];decide),if_neg (by rw[hml];decide),if_neg n4]
     .unfold Cg secL behL
      rw[if_neg n1,hf,if_neg n2,if_neg n3,if_neg n4,if_pos ht,if_pos ht]
theorem Qg{L:List Addr}{I:Hp->Prop}{rs:List (Nat×Addr)}{i:Nat}{d:PyData}(hv:PE X e (tVar i))(hG:G[i]?=some (some d)):ZE X L I rs G e d I:=hv.imp λσ H Q ⟨r,q⟩=>by
 obtain⟨v,e1,dv⟩:=r.2.2.2 i d hG
 exact⟨v,e1,q v H r.2.1 (Same.refl _) dv⟩
section
variable(S:MS)
theorem IU(z l:Bool):upD "truths" (.tuple [.bool z,.bool l]) (nowD S)=nowD {S with tz:=z,tl:=l}:=by
 unfold upD nowD
 simp only[map_cons,map_nil]
 rw[if_neg (by decide),if_neg (by decide),if_neg (by decide),if_pos True.intro,if_neg (by decide),if_neg (by decide),if_neg (by decide),if_neg (by decide)]
theorem KB(v:Int):upD "place" (.int v) (nowD S)=nowD {S with here:=v}:=by
 unfold upD nowD
 simp only[map_cons,map_nil]
 rw[if_neg (by decide),if_neg (by decide),if_neg (by decide),if_neg (by decide),if_pos True.intro,if_neg (by decide),if_neg (by decide),if_neg (by decide)]
theorem NB(v:Int):upD "done" (.int v) (nowD S)=nowD {S with done:=v}:=by
 unfold upD nowD
 simp only[map_cons,map_nil]
 rw[if_neg (by decide),if_neg (by decide),if_neg (by decide),if_neg (by decide),if_neg (by decide),if_neg (by decide),if_neg (by decide),if_pos True.intro]
theorem H_(l:List Int):upD "boxes" (.list (l.map int)) (nowD S)=nowD {S with bx:=l}:=by
 unfold upD nowD
 simp only[map_cons,map_nil]
 rw[if_neg (by decide),if_neg (by decide),if_pos True.intro,if_neg (by decide),if_neg (by decide),if_neg (by decide),if_neg (by decide),if_neg (by decide)]
theorem KC(l:List Int):upD "cells" (.list (l.map int)) (nowD S)=nowD {S with mem:=l}:=by
 unfold upD nowD
 simp only[map_cons,map_nil]
 rw[if_neg (by decide),if_pos True.intro,if_neg (by decide),if_neg (by decide),if_neg (by decide),if_neg (by decide),if_neg (by decide),if_neg (by decide)]
theorem NH(l:List Int):upD "told" (.list (l.map int)) (nowD S)=nowD {S with told:=l}:=by
 unfold upD nowD
 simp only[map_cons,map_nil]
 rw[if_neg (by decide),if_neg (by decide),if_neg (by decide),if_neg (by decide),if_neg (by decide),if_pos True.intro,if_neg (by decide),if_neg (by decide)]
theorem Je(l:List Int):upD "stored" (.list (l.map int)) (nowD S)=nowD {S with sto:=l}:=by
 unfold upD nowD
 simp only[map_cons,map_nil]
 rw[if_neg (by decide),if_neg (by decide),if_neg (by decide),if_neg (by decide),if_neg (by decide),if_neg (by decide),if_pos True.intro,if_neg (by decide)]
end
theorem EH(l:List Int)(n:Nat)(v:Int):(l.map int).set n (.int v)=(l.set n v).map int:=(map_set (f:=int) (l:=l) (i:=n) (a:=v)).symm
theorem EA(l:List Int)(v:Int):l.map int++[.int v]=(l++[v]).map int:=by rw[map_append];rfl
abbrev NZ(K:Frag)(R:NR)(S:MS):Hp->Prop:=Nz K R (nowD S)
theorem Qd(S:MS):noLs (Cg S)=true:=by
 unfold Cg
 repeat' split
 all_goals rfl
theorem Pe(S:MS)(op x y m n b:Int):(effL S op x y m n b).done=S.done:=by
 unfold effL
 repeat' split
 all_goals rfl
theorem TX{op c:Int}(o0:0<=op):(decide (op=0)||((decide (op=9)&& !Ay S.pg c 0)||(decide (op=10)&& !Ay S.pg c 1)))=!decide (Cp S op c=""):=by
 unfold Cp
 by_cases h0:op=0
 .rw[if_pos h0,decide_eq_true h0];rfl
 rw[if_neg h0,decide_eq_false h0,Bool.false_or]
 by_cases h9:op=9
 .subst h9
  cases Ay S.pg c 0<;>rfl
 .by_cases h10:op=10
  .subst h10
   cases Ay S.pg c 1<;>rfl
  .rw[if_neg (λz=>h9 z.1),if_neg (λz=>h10 z.1),decide_eq_false h9,decide_eq_false h10];rfl
theorem Sa{op c:Int}(h:¬Cp S op c="")(o0:0<=op):atI [str "stop",.str "read",.str "write"] ((if decide (op>0)then(1:Int)else 0)+(if decide (op=10)then(1:Int)else 0))=some (.str (Cp S op c)):=by
 unfold Cp at h ⊢
 by_cases h0:op=0
 .subst h0;rfl
 rw[if_neg h0]at h ⊢
 by_cases h9:op=9
 .subst h9
  cases hr:Ay S.pg c 0 with
  |false=>rfl
  |true=>rw[hr,if_neg (λz=>by cases z.2),if_neg (λz=>absurd z.1 (by decide))]at h;exact absurd rfl h
 .by_cases h10:op=10
  .subst h10
   cases hr:Ay S.pg c 1 with
   |false=>rfl
   |true=>rw[hr,if_neg (λz=>absurd z.1 (by decide)),if_neg (λz=>by cases z.2)]at h;exact absurd rfl h
  .rw[if_neg (λz=>h9 z.1),if_neg (λz=>h10 z.1)]at h;exact absurd rfl h
theorem R6{op c:Int}(h:Cp S op c=""):op≠0/\(op=9->Ay S.pg c 0=true)/\(op=10->Ay S.pg c 1=true):=by
 refine⟨λz=>?_,λz=>?_,λz=>?_⟩
 .subst z;exact absurd h (by show ¬("stop":Str)="";decide)
 .subst z
  rw[Tk]at h
  cases hr:Ay S.pg c 0 with
  |true=>rfl
  |false=>rw[hr,if_pos rfl]at h;exact absurd h (by decide)
 .subst z
  rw[SF]at h
  cases hr:Ay S.pg c 1 with
  |true=>rfl
  |false=>rw[hr,if_pos rfl]at h;exact absurd h (by decide)
def Mc(df:DF)(ds:List PyData)(d:PyData)(df':DF):Prop:=∃(S:MS) (wd:Str) (S':MS),MsOk S/\FewM S/\DI S wd S'/\df=nowD S/\ds=[]/\d=.str wd/\df'=nowD S'
abbrev frS(S:MS)(op x y m n b c t:Int)(fo:Option PyData):Gam:=[none,some (.list [.int op,.int x,.int y,.int m,.int n,.int b]),some (.int op),some (.int x),some (.int y),some (.int m),some (.int n),some (.int b),none,some (.int c),some (.int t),fo]
theorem La(op:Int):([int 1,.int 2,.int 9,.int 13].any λe=>eqv e (.int op))=decide (op=1\/op=2\/op=9\/op=13):=by
 simp only[any_cons,any_nil,Bool.or_false,Bo]
 by_cases h1:op=1<;>by_cases h2:op=2<;>by_cases h3:op=9<;>by_cases h4:op=13<;>simp[h1,h2,h3,h4,eq_comm]
theorem Sj{op y m n b:Int}(h:op=1\/op=2\/op=9\/op=13):(op,valL S op y m n b)∈[((1:Int),n),(2,boxM S y),(9,AB S.mem (BV S y m%(S.mem.length:Int))),(13,b)]:=by
 rcases h with rfl|rfl|rfl|rfl
 .exact mem_of_getElem? (i:=0) rfl
 .exact mem_of_getElem? (i:=1) rfl
 .exact mem_of_getElem? (i:=2) rfl
 .exact mem_of_getElem? (i:=3) rfl
theorem Ln(T:Txt mg)(D_row:FFn P w K mg base 2 "_law_row_here" QM)(D_law_may:DFn P w K mg base 1 "_law_may" Gq)(D_rec:FFn P w K mg base 1 "_law_reckoned" Nh)(D_goes:DFn P w K mg base 1 "_law_goes" LP)(F:Fun K "_law_step" "_law_step" CF f fd)(hm:mg "_law_step"=some (.ref f)):NzFn P w K mg base 3 "_law_step" Mc:=by
 refine F.dictW hm (by walk_at"b1") sc_law_step (λdf ds d df' ⟨_,_,_,_,_,_,_,e,_⟩=>by rw[e];rfl) λcdv A outer s H E R df ds d df' hr ⟨S,wd,S',ok,few,st,e1,e2,e3,e4⟩=>?_
 subst e1 e2 e3 e4
 refine BJ (B7 (i:=1) (d:=.list (Cg S)) sc_law_step.nd rfl (by show 1∉[0];decide) (inl rfl) (QV nz_ok (Cz mem_cons_self) (Ku D_row (by walk_at"rm") rfl (Aa (evv 0) Ad) ⟨S,ok,rfl,rfl⟩) (Qd S))) ?_
 rcases PJ ok st with⟨er,e'⟩|⟨op,x,y,m,n,b,L⟩
 .rw[er]
  subst e'
  exact Kg (k:=true) (AQ nz_ok (Ah (Au "len" (Aa (evv 1) Ad) B1 rfl T.b_len (by decide+kernel)) Ab (Bs (by walk_at"un") rfl rfl (by walk_at"dp") rfl) (Af _))) (λ_=>Gb (B2 nz_ok (As (ds:=[.str wd]) (evv 1) Ab (AF (by decide) rfl)) rfl)) nofun
 obtain⟨er,o0,o1,x0,x1,y0,y1,m0,m1,n0,n1,b0,b1,ew,es⟩:=L
 rw[er]
 refine Kg (k:=false) (AQ nz_ok (Ah (Au "len" (Aa (evv 1) Ad) B1 rfl T.b_len (by decide+kernel)) Ab (Bs (by walk_at"un") rfl rfl (by walk_at"dp") rfl) (Af _))) nofun (λ_=>?_)
 refine BJ (Si (is:=[2,3,4,5,6,7]) (ds:=[.int op,.int x,.int y,.int m,.int n,.int b]) (Qg (pv 1) rfl) (Tl rfl (A5 (Aw (i:=2) sc_law_step.nd rfl (inl rfl)) (A5 (Aw (i:=3) sc_law_step.nd rfl (inl rfl)) (A5 (Aw (i:=4) sc_law_step.nd rfl (inl rfl)) (A5 (Aw (i:=5) sc_law_step.nd rfl (inl rfl)) (A5 (Aw (i:=6) sc_law_step.nd rfl (inl rfl)) (A5 (Aw (i:=7) sc_law_step.nd rfl (inl rfl)) BT))))))) rfl (λq hq=>by rw[mem_singleton.mp hq];show 0∉[2,3,4,5,6,7];decide)) ?_
 refine Qa (j:=8) (i:=0) (f:="boxes") (ds:=S.bx.map int) (CZ (by walk_at"un")) sc_law_step.nd rfl (by show 8∉[0];decide) (inl rfl) rfl mem_cons_self (pv 0) (Cz mem_cons_self) Ak (Bz S) λp hp=>?_
 have hC:(0,R.a)∈[(8,p),(0,R.a)]:=mem_cons_of_mem _ mem_cons_self
 have h8:((8:Nat),p)∈[(8,p),(0,R.a)]:=mem_cons_self
 have ni:∀i:Nat,i≠8->i≠0->i∉[(8,p),(0,R.a)].map (·.1):=λi a1 a2=>by show i∉[8,0];simp[a1,a2]
 have bxx:=Ca ok x
 have byy:=Ca ok y
 have hml:((S.mem.map int).length:Int)=16*S.pg.length:=by rw[length_map];have:=ok.ml;omega
 refine BJ (B7 (i:=9) (d:=.int (BV S y m)) sc_law_step.nd rfl (ni 9 (by decide) (by decide)) (inl rfl) (HL nz_ok (Db hC h8 hp (Bz S)) (Ac (Ac (As (evv 8) (evv 4) (Cb ok y0 y1)) (evv 5) AH) Ab (A1 (by decide))) rfl)) ?_
 have c0:0<=BV S y m:=by unfold BV;omega
 have c1:BV S y m<4096:=by unfold BV;omega
 generalize hc:BV S y m=c at c0 c1 ew es
 have eqz:∀k:Int,OD (cxOf CX0 P w K mg base ["now","row","op","x","y","m","n","behind","boxes","cell","to","found"] "_law_step" (Ae CF) f cdv A outer s H E).nox (compareOp .Eq) (.int op) (.int k) (.bool (decide (op=k))):=λk=>Bs (by walk_at"un") rfl rfl (by walk_at"dp") (Bo op k)
 have may:∀r:Int,0<=r->r<3->Gq [.dict (dfD (nowD S)),.int c,.int r] (.bool (Ay S.pg c r)):=λr r0 r1=>⟨S,c,r,ok,c0,r0,r1,rfl,rfl⟩
 refine Kg (k:=!decide (Cp S op c="")) (Mf nz_ok (Db hC h8 hp (Bz S)) (Am (Bn (BE (Ah (evv 2) Ab (eqz 0) (Af _)) (λ_=>BE (Bn (AY (Ah (evv 2) Ab (eqz 9) (Af _)) (λ_=>Bg (AT (AM (An D_law_may (by walk_at"rm") rfl (Aa (evv 0) (Aa (evv 9) (Aa Ab Ad))) (may 0 (by decide) (by decide)))))))) (λ_=>By (Bn (AY (Ah (evv 2) Ab (eqz 10) (Af _)) (λ_=>Bg (AT (AM (An D_law_may (by walk_at"rm") rfl (Aa (evv 0) (Aa (evv 9) (Aa Ab Ad))) (may 1 (by decide) (by decide)))))))))))) (TX o0))) (λhh=>?ret) (λhh=>?go)
 case ret=>
  have hh:¬Cp S op c="":=by simpa using hh
  rw[if_neg hh]at es
  subst es ew
  exact Gb (HL nz_ok (Db hC h8 hp (Bz S')) (As (ds:=[.str "stop",.str "read",.str "write"]) (AR (Aa Ak (Aa Ak (Aa Ak Ad))) (by walk_at"sz")) (Ac (BM "int" (Aa (AX (evv 2) Ab FN (Af _)) Ad) E6 rfl T.b_int (by decide+kernel)) (BM "int" (Aa (AX (evv 2) Ab (eqz 10) (Af _)) Ad) E6 rfl T.b_int (by decide+kernel)) AH) (Sa hh o0)) rfl)
 have hh:Cp S op c="":=by simpa using hh
 rw[if_pos hh]at es
 rw[hh]at ew
 subst es ew
 obtain⟨hop0,hr9,hr10⟩:=R6 hh
 refine BJ (B7 (i:=10) (d:=.int b) sc_law_step.nd rfl (ni 10 (by decide) (by decide)) (inl rfl) (B2 nz_ok (evv 7) rfl)) ?_
 refine BJ (G1:=frS S op x y m n b c (toL S op x m n b) (if 3<=op/\op<=8 then some (.list [.int (recL op (boxM S x) (boxM S y)).1,.bool (recL op (boxM S x) (boxM S y)).2])else none)) (I1:=NZ K R (effL S op x y m n b)) ?mid ?_
 case mid=>
  have lx:x<((S.bx.map int).length:Int):=by rw[length_map];have:=ok.bl;omega
  by_cases h38:3<=op/\op<=8
  .have hb38:(decide (3<=op)&&decide (op<=8))=true:=by rw[decide_eq_true h38.1,decide_eq_true h38.2];rfl
   have et:toL S op x m n b=b:=by
    unfold toL
    rw[if_neg (by omega),if_neg (by omega),if_neg (λz=>by rcases z with z|⟨z,_⟩<;>omega)]
   have ee:effL S op x y m n b={S with tz:=decide ((recL op (boxM S x) (boxM S y)).1=0),tl:=(recL op (boxM S x) (boxM S y)).2,bx:=if op=8 then S.bx else S.bx.set x.toNat (recL op (boxM S x) (boxM S y)).1}:=by unfold effL;rw[if_pos h38]
   rw[et,ee,if_pos h38]
   have hrec:Nh [.int op,.int (boxM S x),.int (boxM S y)] [.int (recL op (boxM S x) (boxM S y)).1,.bool (recL op (boxM S x) (boxM S y)).2]:=⟨op,boxM S x,boxM S y,bxx.1,bxx.2,byy.1,byy.2,rfl,rfl⟩
   generalize recL op (boxM S x) (boxM S y)=q at hrec
   refine Bm (k:=true) (AQ nz_ok (Am (Gh Ef Ef Ab (evv 2) Ab) hb38)) (λ_=>?_) nofun
   refine At (B7 (i:=11) (d:=.list [.int q.1,.bool q.2]) sc_law_step.nd rfl (ni 11 (by decide) (by decide)) (inl rfl) (QV nz_ok (Db hC h8 hp (Bz S)) (Ku D_rec (by walk_at"rm") rfl (Aa (evv 2) (Aa (As (evv 8) (evv 3) (Cb ok x0 x1)) (Aa (As (evv 8) (evv 4) (Cb ok y0 y1)) Ad))) hrec) rfl)) ?_
   refine At (Bu (I2:=NZ K R {S with tz:=decide (q.1=0),tl:=q.2}) (Hg (f:="truths") (d:=.tuple [.bool (decide (q.1=0)),.bool q.2]) (CZ (by walk_at"un")) hC (Cz hC) (pv 0) (AW (ds:=[.bool (decide (q.1=0)),.bool q.2]) (Aa (AX (As (ds:=[.int q.1,.bool q.2]) (evv 11) Ab (AF (by decide) rfl)) Ab (Bs (by walk_at"un") rfl rfl (by walk_at"dp") (Bo _ _)) (Af _)) (Aa (As (ds:=[.int q.1,.bool q.2]) (evv 11) Ab (AF (by decide) rfl)) Ad)) (by walk_at"sz")) rfl Ak (mem_of_getElem? (i:=3) rfl)) (by rw[IU];rfl)) ?_
   have nez:OD (cxOf CX0 P w K mg base ["now","row","op","x","y","m","n","behind","boxes","cell","to","found"] "_law_step" (Ae CF) f cdv A outer s H E).nox (compareOp .NotEq) (.int op) (.int 8) (.bool (!decide (op=8))):=Eo (by walk_at"un") rfl rfl (by walk_at"dp") (by rw[Bo])
   by_cases hop8:op=8
   .rw[if_pos hop8]
    exact At (Iu nz_ok (AQ nz_ok (Am (Ah (evv 2) Ab nez (Af _)) (by rw[decide_eq_true hop8];rfl)))) A7
   .rw[if_neg hop8]
    exact At (Bm (k:=true) (AQ nz_ok (Am (Ah (evv 2) Ab nez (Af _)) (by rw[decide_eq_false hop8];rfl))) (λ_=>At (Bu (I2:=NZ K R {S with tz:=decide (q.1=0),tl:=q.2,bx:=S.bx.set x.toNat q.1}) (IM (j:=8) (f:="boxes") (ds:=S.bx.map int) (d:=.int q.1) (z:=x) h8 hp (pv 8) (Cz hC) (As (ds:=[.int q.1,.bool q.2]) (evv 11) Ab (AF (by decide) rfl)) rfl (evv 3) (Bz {S with tz:=decide (q.1=0),tl:=q.2}) x0 lx) (by rw[EH,H_];rfl)) A7) nofun) A7
  have hb38:(decide (3<=op)&&decide (op<=8))=false:=EL h38
  rw[if_neg h38]
  refine Bm (k:=false) (AQ nz_ok (Am (Gh Ef Ef Ab (evv 2) Ab) hb38)) nofun (λ_=>At ?_ A7)
  by_cases h4:op=1\/op=2\/op=9\/op=13
  .have ee:effL S op x y m n b={S with bx:=S.bx.set x.toNat (valL S op y m n b)}:=by unfold effL;rw[if_neg h38,if_pos h4]
   rw[ee]
   refine Bm (k:=true) (AQ nz_ok (Am (Ah (evv 2) (AR (ds:=[.int 1,.int 2,.int 9,.int 13]) (Aa Ab (Aa Ab (Aa Ab (Aa Ab Ad)))) (by walk_at"sz")) (FV (.inl rfl) rfl rfl (La op)) (by with_unfolding_all rfl)) (decide_eq_true h4))) (λ_=>?_) nofun
   refine At (G1:=frS S op x y m n b c (toL S op x m n b) none) (I1:=NZ K R S) ?t13 ?_
   case t13=>
    by_cases h13:op=13
    .have et:toL S op x m n b=n:=by unfold toL;rw[if_pos h13]
     rw[et]
     exact Bm (k:=true) (AQ nz_ok (Am (Ah (evv 2) Ab (eqz 13) (Af _)) (decide_eq_true h13))) (λ_=>At (B7 (i:=10) (d:=.int n) sc_law_step.nd rfl (ni 10 (by decide) (by decide)) (inl rfl) (B2 nz_ok (evv 6) rfl)) A7) nofun
    .have et:toL S op x m n b=b:=by
      unfold toL
      rw[if_neg h13,if_neg (by omega),if_neg (λz=>by rcases z with z|⟨z,_⟩<;>omega)]
     rw[et]
     exact Iu nz_ok (AQ nz_ok (Am (Ah (evv 2) Ab (eqz 13) (Af _)) (decide_eq_false h13)))
   have hml2:0<((S.mem.map int).length:Int):=by rw[hml];have:=ok.p1;omega
   refine At (Bu (I2:=NZ K R {S with bx:=S.bx.set x.toNat (valL S op y m n b)}) (IM (j:=8) (f:="boxes") (ds:=S.bx.map int) (d:=.int (valL S op y m n b)) (z:=x) h8 hp (pv 8) (Db hC h8 hp (Bz S)) (QO (CZ (by walk_at"un")) (Fv Ab (evv 6) (Fv Ab (As (evv 8) (evv 4) (Cb ok y0 y1)) (Fv Ab (As (AZ (by walk_at"un") (evv 0) (BH _)) (A2 (Ac (evv 9) (Au "len" (Aa (AZ (by walk_at"un") (evv 0) (BH _)) Ad) B1 rfl T.b_len (by decide+kernel)) (A1 hml2)) (show _=int (BV S y m%(S.mem.length:Int)) by rw[length_map,hc])) (Bf (by rw[length_map]at hml2;exact emod_nonneg _ (by omega)) (by rw[length_map]at hml2;exact emod_lt_of_pos _ hml2))) (Fv Ab (evv 7) S7)))) (by show([1,2,9,13]:List Int).Nodup;decide) (by show 4<=15;decide) (evv 2) (Sj h4)) rfl (evv 3) (Bz S) x0 lx) (by rw[EH,H_];rfl)) A7
  refine Bm (k:=false) (AQ nz_ok (Am (Ah (evv 2) (AR (ds:=[.int 1,.int 2,.int 9,.int 13]) (Aa Ab (Aa Ab (Aa Ab (Aa Ab Ad)))) (by walk_at"sz")) (FV (.inl rfl) rfl rfl (La op)) (by with_unfolding_all rfl)) (decide_eq_false h4))) nofun (λ_=>At ?_ A7)
  by_cases h10:op=10
  .have ee:effL S op x y m n b={S with mem:=S.mem.set c.toNat (boxM S x),sto:=S.sto++[c]}:=by unfold effL;rw[if_neg h38,if_neg h4,if_pos h10,hc]
   have et:toL S op x m n b=b:=by
    unfold toL
    rw[if_neg (by omega),if_neg (by omega),if_neg (λz=>by rcases z with z|⟨z,_⟩<;>omega)]
   rw[ee,et]
   have hr:=DH (hr10 h10)
   refine Bm (k:=true) (AQ nz_ok (Am (Ah (evv 2) Ab (eqz 10) (Af _)) (decide_eq_true h10))) (λ_=>?_) nofun
   refine At (Bu (I2:=NZ K R {S with mem:=S.mem.set c.toNat (boxM S x)}) (IT (f:="cells") (ds:=S.mem.map int) (d:=.int (boxM S x)) (z:=c) (CZ (by walk_at"un")) hC (pv 0) (Db hC h8 hp (Bz S)) Ak (As (evv 8) (evv 3) (Cb ok x0 x1)) rfl (evv 9) (BH S) c0 (by rw[hml];exact hr.2)) (by rw[EH,KC];rfl)) ?_
   exact At (Bu (I2:=NZ K R {S with mem:=S.mem.set c.toNat (boxM S x),sto:=S.sto++[c]}) (D_ (f:="stored") (ds:=S.sto.map int) (d:=.int c) (CZ (by walk_at"un")) hC (pv 0) (Cz hC) Ak (evv 9) rfl (FU {S with mem:=S.mem.set c.toNat (boxM S x)}) (by rw[length_map,sizeLine_eq];have:=few.1;omega)) (by rw[EA,Je];rfl)) A7
  refine Bm (k:=false) (AQ nz_ok (Am (Ah (evv 2) Ab (eqz 10) (Af _)) (decide_eq_false h10))) nofun (λ_=>At ?_ A7)
  by_cases h15:op=15
  .have ee:effL S op x y m n b={S with told:=S.told++[boxM S x]}:=by unfold effL;rw[if_neg h38,if_neg h4,if_neg h10,if_pos h15]
   have et:toL S op x m n b=b:=by
    unfold toL
    rw[if_neg (by omega),if_neg (by omega),if_neg (λz=>by rcases z with z|⟨z,_⟩<;>omega)]
   rw[ee,et]
   refine Bm (k:=true) (AQ nz_ok (Am (Ah (evv 2) Ab (eqz 15) (Af _)) (decide_eq_true h15))) (λ_=>?_) nofun
   exact At (Bu (I2:=NZ K R {S with told:=S.told++[boxM S x]}) (D_ (f:="told") (ds:=S.told.map int) (d:=.int (boxM S x)) (CZ (by walk_at"un")) hC (pv 0) (Db hC h8 hp (Bz S)) Ak (As (evv 8) (evv 3) (Cb ok x0 x1)) rfl (Js S) (by rw[length_map,sizeLine_eq];have:=few.2;omega)) (by rw[EA,NH];rfl)) A7
  have ee:effL S op x y m n b=S:=by unfold effL;rw[if_neg h38,if_neg h4,if_neg h10,if_neg h15]
  rw[ee]
  refine Bm (k:=false) (AQ nz_ok (Am (Ah (evv 2) Ab (eqz 15) (Af _)) (decide_eq_false h15))) nofun (λ_=>At ?_ A7)
  by_cases h14:op=14
  .have et:toL S op x m n b=boxM S x:=by unfold toL;rw[if_neg (by omega),if_pos h14]
   rw[et]
   exact Bm (k:=true) (AQ nz_ok (Am (Ah (evv 2) Ab (eqz 14) (Af _)) (decide_eq_true h14))) (λ_=>At (B7 (i:=10) (d:=.int (boxM S x)) sc_law_step.nd rfl (ni 10 (by decide) (by decide)) (inl rfl) (HL nz_ok (Db hC h8 hp (Bz S)) (As (evv 8) (evv 3) (Cb ok x0 x1)) rfl)) A7) nofun
  refine Bm (k:=false) (AQ nz_ok (Am (Ah (evv 2) Ab (eqz 14) (Af _)) (decide_eq_false h14))) nofun (λ_=>At ?_ A7)
  have et:toL S op x m n b=if(decide (op=11)||brB (m%4) S.tz S.tl)=true then n else b:=by
   unfold toL
   rw[if_neg (by omega),if_neg h14]
   by_cases h11:op=11
   .rw[if_pos (.inl h11),decide_eq_true h11,Bool.true_or,if_pos rfl]
   .have h12:op=12:=by omega
    rw[decide_eq_false h11,Bool.false_or]
    by_cases hbr:brB (m%4) S.tz S.tl=true
    .rw[if_pos (.inr ⟨h12,hbr⟩),if_pos hbr]
    .rw[if_neg (λz=>z.elim h11 λw=>hbr w.2),if_neg hbr]
  rw[et]
  refine Bm (k:=decide (op=11)||brB (m%4) S.tz S.tl) (Mf nz_ok (Cz hC) (Bn (BE (Ah (evv 2) Ab (eqz 11) (Af _)) (λ_=>By (AM (An D_goes (by walk_at"rm") rfl (Aa (AZ (by walk_at"un") (evv 0) (HY _)) (Aa (evv 5) Ad)) ⟨S.tz,S.tl,m,rfl,rfl⟩)))))) (λh=>?_) (λh=>?_)
  .rw[if_pos h]
   exact At (B7 (i:=10) (d:=.int n) sc_law_step.nd rfl (ni 10 (by decide) (by decide)) (inl rfl) (B2 nz_ok (evv 6) rfl)) A7
  .rw[if_neg (by rw[h];decide)]
   exact A7
 refine BJ (Bu (I2:=NZ K R {effL S op x y m n b with here:=toL S op x m n b}) (Hg (f:="place") (CZ (by walk_at"un")) hC (Cz hC) (pv 0) (evv 10) rfl Ak (mem_of_getElem? (i:=4) rfl)) (by rw[KB];rfl)) ?_
 refine BJ (Bu (I2:=NZ K R (lawS S op x y m n b)) (Hg (f:="done") (d:=.int (S.done+1)) (CZ (by walk_at"un")) hC (Cz hC) (pv 0) (A2 (Ac (AZ (by walk_at"un") (evv 0) (LB _)) Ab (by walk_at"od")) (by show int ((effL S op x y m n b).done+1)=_;rw[Pe])) rfl Ak (mem_of_getElem? (i:=7) rfl)) (by rw[NB];rfl)) ?_
 exact Gb (B2 nz_ok Ak rfl)
theorem C5(l:List Int):(list (l.map int)).depth<=2:=by
 have:=Ec (f:=int) (n:=1) l λ_ _=>by simp[depth]
 simp[depth]
 omega
theorem DX(l:List Int):(list (l.map int)).canLay0=true:=Dk l λ_ _=>rfl
theorem Hm(S:MS):(staD S).canLay0=true:=by
 have h1:=DX S.bx
 have h2:=DX S.mem
 have h3:=DX S.told
 unfold staD
 unfold canLay0 at h1 h2 h3 ⊢
 simp only[canLayAll0,canLay0,h1,h2,h3,Bool.and_self]
theorem IP(S:MS):(staD S).depth<=60:=by
 have h1:=C5 S.bx
 have h2:=C5 S.mem
 have h3:=C5 S.told
 have:(staD S).depth<=60:=by
  unfold staD
  simp only[depth,depthAll]at h1 h2 h3 ⊢
  omega
 exact this
theorem OX(l:List (Bool×Bool×Bool)):(list (l.map AI)).canLay0=true:=Dk l λ_ _=>rfl
theorem Ll(l:List (Bool×Bool×Bool)):(list (l.map AI)).depth<=60:=by
 have:=Ec (f:=AI) (n:=2) l λq _=>by simp[AI,depth,depthAll]
 simp[depth]
 omega
theorem KR(l:List Int):(list (l.map int)).depth<=60:=le_trans (C5 l) (by decide)
def L8(ds:List PyData)(d:PyData):Prop:=∃S:MS,ds=[.dict (dfD (nowD S))]/\d=staD S
theorem Kv(T:Txt mg)(F:Fun K "_law_state" "_law_state" Ej f fd)(hm:mg "_law_state"=some (.ref f)):DFn P w K mg base 1 "_law_state" L8:=by
 refine F.data hm (by walk_at"b1") sc_law_state (λds d ⟨_,e,_⟩=>by rw[e];rfl) λcdv A outer s H E ds d hr ⟨S,e,e2⟩=>?_
 subst e e2
 refine Ai (AE (i:=1) (d:=staD S) sc_law_state.nd rfl (inl rfl) ?_) (Ag (Ap (evv 1)))
 unfold staD
 refine AW (ds:=[.list (S.bx.map int),.tuple [.bool S.tz,.bool S.tl],.int S.here,.list (S.mem.map int),.list (S.told.map int),.int S.done]) ?_ (by walk_at"sz")
 refine Aa (Dv (AC (AZ (by walk_at"un") (evv 0) (Bz _)) rfl T.b_list)) ?_
 refine Aa (AZ (by walk_at"un") (evv 0) (HY _)) ?_
 refine Aa (AZ (by walk_at"un") (evv 0) (Fu _)) ?_
 refine Aa (Dv (AC (AZ (by walk_at"un") (evv 0) (BH _)) rfl T.b_list)) ?_
 refine Aa (Dv (AC (AZ (by walk_at"un") (evv 0) (Js _)) rfl T.b_list)) ?_
 exact Aa (AZ (by walk_at"un") (evv 0) (LB _)) Ad
structure Tells(P:Program)(w:World)(K:Frag)(mg:Str->Option Value)(base:Heap)(C:Addr):Prop where
 pages:MFn P w K mg base 1 C "pages" (λds d=>∃S:MS,ds=[mcD C S]/\d=.list (S.pg.map AI))
 cells:MFn P w K mg base 1 C "cells" (λds d=>∃S:MS,ds=[mcD C S]/\d=.list (S.mem.map int))
 boxes:MFn P w K mg base 1 C "boxes" (λds d=>∃S:MS,ds=[mcD C S]/\d=.list (S.bx.map int))
 truths:MFn P w K mg base 1 C "truths" (λds d=>∃S:MS,ds=[mcD C S]/\d=.tuple [.bool S.tz,.bool S.tl])
 place:MFn P w K mg base 1 C "place" (λds d=>∃S:MS,ds=[mcD C S]/\d=.int S.here)
 told:MFn P w K mg base 1 C "told" (λds d=>∃S:MS,ds=[mcD C S]/\d=.list (S.told.map int))
 done:MFn P w K mg base 1 C "done" (λds d=>∃S:MS,ds=[mcD C S]/\d=.int S.done)
 stored:MFn P w K mg base 1 C "stored" (λds d=>∃S:MS,ds=[mcD C S]/\d=.list (S.sto.map int))
 state:MFn P w K mg base 2 C "state" (λds d=>∃S:MS,ds=[mcD C S]/\d=staD S)
def Kt(C:Addr)(ds:List PyData)(d:PyData):Prop:=∃S:MS,ds=[mcD C S,.dict (dfD (nowD S))]/\d=.bool true
theorem J5(CM:ClsM K mg C)(M:Tells P w K mg base C)(D_state:DFn P w K mg base 1 "_law_state" L8)(F:Fun K "_law_stands" "_law_stands" C4 f fd)(hm:mg "_law_stands"=some (.ref f)):DFn P w K mg base 3 "_law_stands" (Kt C):=by
 refine F.data hm (by walk_at"b2") sc_law_stands (λds d ⟨_,e,_⟩=>by rw[e];rfl) λcdv A outer s H E ds d hr ⟨S,e,e2⟩=>?_
 subst e e2
 have ne:∀{d:PyData},d.canLay0=true->d.depth<=60->OD (cxOf CX0 P w K mg base ["machine","now","parts"] "_law_stands" (Ae C4) f cdv A outer s H E).nox (compareOp .NotEq) d d (.bool false):=λ{d} h1 h2=>Eo (by walk_at"un") h1 h1 (le_trans (min_le_left _ _) h2) (by rw[Et _ h1];rfl)
 refine Ai (Ax (k:=false) (Bn (BE (k:=false) (k':=false) (Ah (AG CM.cl M.state (by walk_at"rm") (evv 0) ⟨S,rfl,rfl⟩) (An D_state (by walk_at"rm") rfl (Aa (evv 1) Ad) ⟨S,rfl,rfl⟩) (ne (Hm S) (IP S)) (Af _)) (λ_=>BE (k:=false) (k':=false) (Ah (AG CM.cl M.stored (by walk_at"rm") (evv 0) ⟨S,rfl,rfl⟩) (AZ (by walk_at"un") (evv 1) (FU _)) (ne (DX _) (KR _)) (Af _)) (λ_=>By (Ah (AG CM.cl M.pages (by walk_at"rm") (evv 0) ⟨S,rfl,rfl⟩) (AZ (by walk_at"un") (evv 1) (Ju _)) (ne (OX _) (Ll _)) (Af _)))))) nofun (λ_=>Ar)) ?_
 refine Ai (AE (i:=2) (d:=staD S) sc_law_stands.nd rfl (inl rfl) ?_) ?_
 .unfold staD
  refine AW (ds:=[.list (S.bx.map int),.tuple [.bool S.tz,.bool S.tl],.int S.here,.list (S.mem.map int),.list (S.told.map int),.int S.done]) ?_ (by walk_at"sz")
  refine Aa (AG CM.cl M.boxes (by walk_at"rm") (evv 0) ⟨S,rfl,rfl⟩) ?_
  refine Aa (AG CM.cl M.truths (by walk_at"rm") (evv 0) ⟨S,rfl,rfl⟩) ?_
  refine Aa (AG CM.cl M.place (by walk_at"rm") (evv 0) ⟨S,rfl,rfl⟩) ?_
  refine Aa (AG CM.cl M.cells (by walk_at"rm") (evv 0) ⟨S,rfl,rfl⟩) ?_
  refine Aa (AG CM.cl M.told (by walk_at"rm") (evv 0) ⟨S,rfl,rfl⟩) ?_
  exact Aa (AG CM.cl M.done (by walk_at"rm") (evv 0) ⟨S,rfl,rfl⟩) Ad
 .exact Ag (Ap (AX (evv 2) (An D_state (by walk_at"rm") rfl (Aa (evv 1) Ad) ⟨S,rfl,rfl⟩) (Bs (by walk_at"un") (Hm S) (Hm S) (le_trans (min_le_left _ _) (IP S)) (Et _ (Hm S))) (Af _)))
def NS(C:Addr)(ds:List PyData)(d:PyData):Prop:=∃S:MS,S.bx.length+S.mem.length+S.told.length+S.sto.length<=1000000/\ds=[mcD C S]/\d=.bool true
theorem KZ(T:Txt mg)(CM:ClsM K mg C)(M:Tells P w K mg base C)(D_whole:DFn P w K mg base 1 "_law_whole" JY)(F:Fun K "_law_kinds" "_law_kinds" Eu f fd)(hm:mg "_law_kinds"=some (.ref f)):DFn P w K mg base 3 "_law_kinds" (NS C):=by
 refine F.data hm (by walk_at"b1") sc_law_kinds (λds d ⟨_,_,e,_⟩=>by rw[e];rfl) λcdv A outer s H E ds d hr ⟨S,hz,e,e2⟩=>?_
 subst e e2
 refine Ai (G1:=[some (mcD C S),some (.list (S.bx.map int)),some (.tuple [.bool S.tz,.bool S.tl]),some (.int S.here),some (.list (S.mem.map int)),some (.list (S.told.map int)),some (.int S.done),none,none]) (Q0 (k:=0) (B:=Nu [1,2,3,4,5,6]) (d:=staD S) (AG CM.cl M.state (by walk_at"rm") (evv 0) ⟨S,rfl,rfl⟩) (Dl rfl (A5 (Aw (i:=1) sc_law_kinds.nd rfl (by first|exact inl rfl|exact Or.inr rfl)) (A5 (Aw (i:=2) sc_law_kinds.nd rfl (by first|exact inl rfl|exact Or.inr rfl)) (A5 (Aw (i:=3) sc_law_kinds.nd rfl (by first|exact inl rfl|exact Or.inr rfl)) (A5 (Aw (i:=4) sc_law_kinds.nd rfl (by first|exact inl rfl|exact Or.inr rfl)) (A5 (Aw (i:=5) sc_law_kinds.nd rfl (by first|exact inl rfl|exact Or.inr rfl)) (A5 (Aw (i:=6) sc_law_kinds.nd rfl (by first|exact inl rfl|exact Or.inr rfl)) BT))))))) (JW [1,2,3,4,5,6] _ rfl) rfl) ?_
 refine Ai (G1:=[some (mcD C S),some (.list (S.bx.map int)),some (.tuple [.bool S.tz,.bool S.tl]),some (.int S.here),some (.list (S.mem.map int)),some (.list (S.told.map int)),some (.int S.done),none,none])
  (Lv (k:=0) (as:=[S.bx.map int,S.mem.map int,S.told.map int,S.sto.map int,S.pg.map AI]) (D:=list) (g:=BO 7) (B:=Hy 7) (λ_=>[some (mcD C S),some (.list (S.bx.map int)),some (.tuple [.bool S.tz,.bool S.tl]),some (.int S.here),some (.list (S.mem.map int)),some (.list (S.told.map int)),some (.int S.done),none,none]) never rfl
   (FA (AR (ds:=[.list (S.bx.map int),.list (S.mem.map int),.list (S.told.map int),.list (S.sto.map int),.list (S.pg.map AI)]) (Aa (evv 1) (Aa (evv 4) (Aa (evv 5) (Aa (AG CM.cl M.stored (by walk_at"rm") (evv 0) ⟨S,rfl,rfl⟩) (Aa (AG CM.cl M.pages (by walk_at"rm") (evv 0) ⟨S,rfl,rfl⟩) Ad))))) (by walk_at"sz"))) (Aw (i:=7) sc_law_kinds.nd rfl (inl rfl)) (λ_ _=>NU 7 _) ?b1) ?_
 case b1=>
  intro i a ha
  refine Fk (G1:=[some (mcD C S),some (.list (S.bx.map int)),some (.tuple [.bool S.tz,.bool S.tl]),some (.int S.here),some (.list (S.mem.map int)),some (.list (S.told.map int)),some (.int S.done),some (.list a),none]) ?_ rfl ?_
  .exact Ai (Ax (k:=false) (AT (k:=true) (AM (E_ (n:="list") (evv 7) rfl T.b_isinstance rfl T.b_list (by decide+kernel) (by rfl)))) nofun (λ_=>Ar)) Ar
  .intro j d e
   match j,e with
   |0,e=>exact e
   |1,e=>exact e
   |2,e=>exact e
   |3,e=>exact e
   |4,e=>exact e
   |5,e=>exact e
   |6,e=>exact e
   |7,e=>cases e
   |8,e=>cases e
   |n+9,e=>cases e
 refine Ai (G1:=[some (mcD C S),some (.list (S.bx.map int)),some (.tuple [.bool S.tz,.bool S.tl]),some (.int S.here),some (.list (S.mem.map int)),some (.list (S.told.map int)),some (.int S.done),none,none])
  (Lv (k:=0) (as:=S.bx++S.mem++S.told++[S.here,S.done]++S.sto) (D:=int) (g:=BO 8) (B:=Hy 8) (λ_=>[some (mcD C S),some (.list (S.bx.map int)),some (.tuple [.bool S.tz,.bool S.tl]),some (.int S.here),some (.list (S.mem.map int)),some (.list (S.told.map int)),some (.int S.done),none,none]) never rfl
   (FA (A2 (Ac (Ac (Ac (Ac (evv 1) (evv 4) (C6 ?z1)) (evv 5) (C6 ?z2)) (AR (ds:=[.int S.here,.int S.done]) (Aa (evv 3) (Aa (evv 6) Ad)) (by walk_at"sz")) (C6 ?z3)) (AG CM.cl M.stored (by walk_at"rm") (evv 0) ⟨S,rfl,rfl⟩) (C6 ?z4)) ?eq)) (Aw (i:=8) sc_law_kinds.nd rfl (inl rfl)) (λ_ _=>NU 8 _) ?b2) ?_
 case z1=>rw[sizeLine_eq,length_map,length_map];omega
 case z2=>rw[sizeLine_eq,length_append,length_map,length_map,length_map];omega
 case z3=>rw[sizeLine_eq,length_append,length_append,length_map,length_map,length_map];show _+2<=_;omega
 case z4=>rw[sizeLine_eq,length_append,length_append,length_append,length_map,length_map,length_map,length_map];show _+2+_<=_;omega
 case eq=>simp only[map_append,map_cons,map_nil]
 case b2=>
  intro i a ha
  refine Fk (G1:=[some (mcD C S),some (.list (S.bx.map int)),some (.tuple [.bool S.tz,.bool S.tl]),some (.int S.here),some (.list (S.mem.map int)),some (.list (S.told.map int)),some (.int S.done),none,some (.int a)]) ?_ rfl ?_
  .exact Ai (Ax (k:=false) (AT (k:=true) (AM (An D_whole (by walk_at"rm") rfl (Aa (evv 8) Ad) ⟨a,rfl,rfl⟩))) nofun (λ_=>Ar)) Ar
  .intro j d e
   match j,e with
   |0,e=>exact e
   |1,e=>exact e
   |2,e=>exact e
   |3,e=>exact e
   |4,e=>exact e
   |5,e=>exact e
   |6,e=>exact e
   |7,e=>cases e
   |8,e=>cases e
   |n+9,e=>cases e
 refine Ag (Ap (Cj (k:=true) (E_ (n:="tuple") (evv 2) rfl T.b_isinstance rfl T.b_tuple (by decide+kernel) (by rfl)) (λ_=>Cj (k:=true) (AX (Au "len" (Aa (evv 2) Ad) Mv rfl T.b_len (by decide+kernel)) Ab (Bs (by walk_at"un") rfl rfl (by walk_at"dp") rfl) (Af _)) (λ_=>Dt (A2 (Au "all" (ds:=[.list (([S.tz,S.tl].map λ_=>true).map PyData.bool)]) (Aa (A2 (GX (ix:=[]) (N:=["one"]) (B:=bind1) (as:=[S.tz,S.tl]) (D:=PyData.bool) (λ_=>true) (λ_=>PyData.bool true) rfl (of_decide_eq_true (by kernel_rfl)) (Ct (by decide)) (Td (evv 2)) (by walk_at"sz") (λ_ _=>JO _) (λ_ _ _ _ _=>Aw (i:=0) (show Nodup (["one"]:List Str) by decide+kernel) rfl (inl rfl)) (λa ha cl C s H fp=>II) (λa ha hP cl C s H fp=>E_ (n:="bool") (evv 0) rfl T.b_isinstance rfl T.b_bool (by decide+kernel) (by rfl))) rfl) Ad) (JV rfl) rfl T.b_all (by decide+kernel)) rfl)) nofun) nofun))
theorem K7{S':MS}{wd:Str}(ok:MsOk S)(st:DI S wd S'):canLay0 (.str wd)=true:=by
 rcases st with⟨e,_⟩|⟨j,q,nums,row,e,ew,_⟩
 .rcases IY ok S.here with⟨w2,hw,e2⟩|⟨j,q,nums,row,e2⟩
  .rw[e]at e2
   cases e2
   first|exact hw|(rcases hw with rfl|rfl|rfl<;>decide+kernel)|(rcases hw with rfl|rfl<;>decide+kernel)|(subst hw;decide+kernel)
  .rw[e]at e2
   cases e2
 .rw[ew]
  exact K8 _ _ _
theorem RT{L:List Addr}{I I1 I2:Hp->Prop}{rs:List (Nat×Addr)}{a b:Expr}{da db:PyData}{k:Bool}{op:CmpOp}(ok2:ZOk L I2)(ha:ZE X L I rs G a da I1)(hb:ZE X L I1 rs G b db I2)(ho:OD X (compareOp op) da db (.bool k))(hm:behindInMarks op b=false):ZTI X L I rs G (.Compare a [op] [b] pos) k I2:=
 (NM ho ha hb hm).imp λσ H Q ⟨r,q⟩=>⟨r,λx H1 i1 s1 d1=>⟨r.next i1 s1,λy H2 i2 s2 d2=>⟨(d1.mono s2).mono lef_same,d2.mono lef_same,λv H3 s3 dv=>⟨k,dv.of_bl,q H3 (ok2.step i2 s3) ((s1.trans s2).trans s3.lef)⟩⟩⟩⟩
abbrev names5:List Str:=["pages","cells","boxes","told","stored"]
theorem Oq(S:MS):∀(k:Nat) (x:PyData),(names5.map str)[k]?=some x->∃f ws,x=.str f/\(f,list ws)∈nowD S/\noLs ws=true/\f∉names5.take k/\names5.take (k+1)=names5.take k++[f]
 |0,x,h=>⟨_,_,(Option.some.inj h).symm,Ju S,HX _,by decide+kernel,rfl⟩
 |1,x,h=>⟨_,_,(Option.some.inj h).symm,BH S,A_ _,by decide+kernel,rfl⟩
 |2,x,h=>⟨_,_,(Option.some.inj h).symm,Bz S,A_ _,by decide+kernel,rfl⟩
 |3,x,h=>⟨_,_,(Option.some.inj h).symm,Js S,A_ _,by decide+kernel,rfl⟩
 |4,x,h=>⟨_,_,(Option.some.inj h).symm,FU S,A_ _,by decide+kernel,rfl⟩
 |n+5,x,h=>by cases h
theorem Vv(S:MS):∀q∈nowD S,q.1∉names5->noL q.2=true:=by
 intro q hq
 unfold nowD at hq
 simp only[mem_cons,not_mem_nil,or_false]at hq
 rcases hq with rfl|rfl|rfl|rfl|rfl|rfl|rfl|rfl<;>intro h
 .exact absurd (mem_of_getElem? (i:=0) rfl) h
 .exact absurd (mem_of_getElem? (i:=1) rfl) h
 .exact absurd (mem_of_getElem? (i:=2) rfl) h
 .rfl
 .rfl
 .exact absurd (mem_of_getElem? (i:=3) rfl) h
 .exact absurd (mem_of_getElem? (i:=4) rfl) h
 .rfl
def L7(ds:List PyData)(df:DF):Prop:=∃S:MS,ds=[.dict (dfD (nowD S))]/\df=nowD S
theorem Mi(T:Txt mg)(F:Fun K "_law_copy" "_law_copy" Fc f fd)(hm:mg "_law_copy"=some (.ref f)):NnFn P w K mg base 1 "_law_copy" L7:=by
 refine F.dictN hm (by walk_at"b1") sc_law_copy (λds df ⟨_,e,_⟩=>by rw[e];rfl) λcdv A outer s H E ds df hr ⟨S,e,e2⟩=>?_
 subst e e2
 refine U2 (i:=1) (Pi (G:=[some (.dict (dfD (nowD S))),none,none]) sc_law_copy.nd rfl (inl rfl) rfl (evv 0) rfl (LO S) (by show 8<=40;decide) rfl T.b_dict) λa=>?_
 refine Nt (β:=NR) (Lo:=NR.L) (Io:=Mz K (nowD S)) (Go:=λ_=>[some (.dict (dfD (nowD S))),none,none]) (j:=2) (Rx:=λd=>d=.list (names5.map str)) (rs:=[(1,a)]) (λxs k R=>xs=names5.map str/\R.a=a/\R.ls.map (·.1)=names5.take k) ⟨a,[]⟩ UJ never rfl (λq hq=>by rw[mem_singleton.mp hq];show(1:Nat)≠2;decide) (Aw (i:=2) sc_law_copy.nd rfl (inl rfl)) (JN (d:=.list (names5.map str)) (AR (ds:=names5.map str) (Aa Ak (Aa Ak (Aa Ak (Aa Ak (Aa Ak Ad))))) (by walk_at"sz")) rfl) (λd e=>⟨_,e⟩) (λxs e=>⟨list.inj e,rfl,rfl⟩) ?hs ?hd
 case hs=>
  rintro xs k x R hx hk ⟨rfl,rfl,hls⟩
  obtain⟨f,ws,rfl,hf,hn,hfn,htk⟩:=Oq S k x hk
  refine Ba (β:=Addr) (Lo:=λp=>NR.L ⟨R.a,R.ls++[(f,p)]⟩) (Io:=λp=>Mz K (nowD S) ⟨R.a,R.ls++[(f,p)]⟩) (ro:=λ_=>[(1,R.a)]) (Go:=λ_=>[some (.dict (dfD (nowD S))),none,some (.str f)]) (λ_=>True) (Nr (λL' σ' H' ⟨p,e,r⟩=>⟨p,True.intro,e,r⟩) (Sn (f:=f) (ws:=ws) (CZ (by walk_at"un")) mem_cons_self (pv 1) (AC (Rb (CZ (by walk_at"un")) (evv 0) (evv 2) (LO S) hf rfl) rfl T.b_list) hn (evv 2) hf (by rw[hls];exact hfn))) λp _=>Gc λσ H r=>⟨⟨R.a,R.ls++[(f,p)]⟩,⟨rfl,rfl,by rw[map_append,hls,htk];rfl⟩,rfl,r.1,r.2.1,?_⟩
  exact EC (j:=2) (x:=some (.str f)) r.2.2 rfl
 case hd=>
  rintro xs R hx ⟨rfl,rfl,hls⟩
  exact Rw mem_cons_self (pv 1) (by rw[hls];exact Vv S)
theorem RE{α:Type}{P:α->Prop}{a b c:α}(h1:P a)(h2:P b)(h3:P c):∀x∈[a,b,c],P x:=λx hx=>by
 simp only[mem_cons,not_mem_nil,or_false]at hx
 rcases hx with rfl|rfl|rfl<;>assumption
abbrev mI(K:Frag)(R:OR)(S:MS):Zt:=(R.L,MZ K R S)
abbrev nI(K:Frag)(N:NR)(S:MS):Zt:=(N.L,NZ K N S)
theorem EI{R:OR}:Gd (mI K R S):=V2 (RE rfl rfl rfl)
theorem A3{it:Zt}{its:List Zt}(h:Gd it)(hs:Gds its):Gds (it::its):=λz hz=>by
 rcases mem_cons.mp hz with rfl|hz
 .exact h
 .exact hs z hz
theorem BU:Gds []:=λz hz=>by cases hz
def Gm(r:Int):List Int:=[r%4096,r/3%4096,r/7%4096,r/11%4096]
noncomputable def AD (S:MS) (n:Int):MS:=
 if n%6=0 then CL S (n/6%S.mem.length) (n/6/128%4096)
 else if n%6=1 then DB S (n/6%4096)
 else if n%6=2 then putM S (Gm (n/6)) (decide (n/6%2=0)) (decide (n/6/2%2=0)) (n/6%4096) (n/6%100)
 else(Bb S).2
theorem NX(ok:MsOk S)(n:Int):MsOk (AD S n)/\(AD S n).sto.length<=S.sto.length+1/\(AD S n).told.length<=S.told.length+1:=by
 have mw:∀z:Int,0<=z%4096/\z%4096<4096:=λz=>by omega
 unfold AD
 split
 .refine⟨⟨ok.p1,ok.p8,?_,Fy ok.mw (mw _),ok.bl,ok.bw,ok.h⟩,?_,le_succ _⟩
  .show(S.mem.set _ _).length=_
   rw[length_set];exact ok.ml
  .show(S.sto++[_]).length<=_
   rw[length_append];exact le_refl _
 split
 .refine⟨⟨ok.p1,ok.p8,ok.ml,ok.mw,ok.bl,ok.bw,ok.h⟩,le_succ _,?_⟩
  show(S.told++[_]).length<=_
  rw[length_append];exact le_refl _
 split
 .refine⟨⟨ok.p1,ok.p8,ok.ml,ok.mw,rfl,λz hz=>?_,mw _⟩,le_succ _,le_succ _⟩
  have hz:z∈Gm (n/6):=hz
  unfold Gm at hz
  simp only[mem_cons,not_mem_nil,or_false]at hz
  rcases hz with rfl|rfl|rfl|rfl<;>exact mw _
 .have kp:=G7 ok (Hl ok)
  exact⟨kp.ok,kp.sto,kp.told⟩
def spDd(K:Frag)(C:Addr):Sp:=λvs H Q _=>∃(R:OR) (N:NR) (S:MS) (n:Int),R.C=C/\vs=[.ref R.a,.ref N.a,.int n]/\0<=n/\MsOk S/\FewM S/\TZ [mI K R S,nI K N S] H/\∀(R':OR) (N':NR) H',R'.C=C->R'.a=R.a->N'.a=N.a->TZ [mI K R' (AD S n),nI K N' (AD S n)] H'->Same (lef (LZ [mI K R S,nI K N S]) H) (lef (LZ [mI K R' (AD S n),nI K N' (AD S n)]) H')->Q (.bl true) H'
def DdFn(P:Program)(w:World)(K:Frag)(mg:Str->Option Value)(base:Heap)(k:Nat)(C:Addr)(x:Str):Prop:=
 ∃f fd ps,FnOk P w K mg base CX0 k f fd ps (spDd K C)/\mg x=some (.ref f)/\keepIn K (.ref f)=true/\Binds K fd ps []
abbrev frD(n:Int)(x3 x4 x5 x8:Option PyData):Gam:=[none,none,some (.int n),x3,x4,x5,none,none,x8]
abbrev RtD(K:Frag)(R:OR)(N:NR)(S':MS):List Addr->V->Hp->Prop:=λL' v H'=>v=.bl true/\∃(R':OR) (N':NR),R'.C=R.C/\R'.a=R.a/\N'.a=N.a/\L'=LZ [mI K R' S',nI K N' S']/\TZ [mI K R' S',nI K N' S'] H'
theorem Da{L:List Addr}{I:Hp->Prop}{rs:List (Nat×Addr)}{c:Expr}{k k':Bool}(ok:ZOk L I)(h:TV X G c k)(e:k=k'):ZTI X L I rs G c k' I:=e▸QW (AQ ok h)
theorem KF(T:Txt mg)(CM:ClsM K mg C)(O_poke:OFn P w K mg base 1 C "poke" (De Nc))(O_tell:OFn P w K mg base 1 C "tell" (De MX))(D_put:YFn P w K mg base 1 C "put" MC)(D_stp:OFn P w K mg base 6 C "step" P4)(M_peek:MFn P w K mg base 1 C "peek" (NC C))(D_step:NzFn P w K mg base 3 "_law_step" Mc)(F:Fun K "_law_deed" "_law_deed" DP f fd)(hm:mg "_law_deed"=some (.ref f)):DdFn P w K mg base 7 C "_law_deed":=by
 refine⟨f,fd,["machine","now","number"],F.ok sc_law_deed (λvs H Q E ⟨R,N,S,n,_,e,_⟩=>by rw[e];rfl) ?_,hm,F.kp,by walk_at"b3"⟩
 rintro cdv A outer s H vs Q E hr ⟨R,N,S,n,hC,e,n0,okS,few,tz,q⟩
 subst hC e
 have h0:((0:Nat),R.a)∈[(0,R.a),(1,N.a)]:=mem_cons_self
 have h1:((1:Nat),N.a)∈[(0,R.a),(1,N.a)]:=mem_cons_of_mem _ mem_cons_self
 have all:∀q∈[((0:Nat),R.a),(1,N.a)],q∈[(0,R.a),(1,N.a)]:=λq hq=>hq
 have ni:∀i:Nat,i≠0->i≠1->i∉[((0:Nat),R.a),(1,N.a)].map (·.1):=λi a1 a2=>by show i∉[0,1];simp[a1,a2]
 have g2:∀S T:MS,Gds [mI K R S,nI K N T]:=λS T=>A3 EI (A3 FQ BU)
 have ok2:∀S T:MS,ZOk (LZ [mI K R S,nI K N T]) (TZ [mI K R S,nI K N T]):=λS T=>(g2 S T).ok
 have see:∀(S T:MS) (G:Gam),Sees K (LZ [mI K R S,nI K N T]) (TZ [mI K R S,nI K N T]) [(0,R.a),(1,N.a)] G ((G.set 0 (some (mcD R.C S))).set 1 (some (.dict (dfD (nowD T))))):=λS T G=>HZ h0 h1 (λH t=>(tz_two.mp t).2.1.dv) (λH t=>(tz_two.mp t).2.2.dv)
 have eqz:∀n m:Int,OD (cxOf CX0 P w K mg base ["machine","now","number","rest","size","cell","boxes","handed","word"] "_law_deed" (Ae DP) f cdv A outer s H E).nox (compareOp .Eq) (.int n) (.int m) (.bool (decide (n=m))):=λn m=>Bs (by walk_at"un") rfl rfl (by walk_at"dp") (Bo n m)
 have hml:=okS.ml
 have hp1:=okS.p1
 have hp8:=okS.p8
 refine⟨zV K (LZ [mI K R S,nI K N S]) (TZ [mI K R S,nI K N S]) [(0,R.a),(1,N.a)] (frD n none none none none) (λ_ _ _=>False) (RtD K R N (AD S n)),?_,⟨λz hz=>?_,tz,?_⟩,λ_ _ _ f=>f.elim,λL' v H' ⟨ev,R',N',e1,e2,e3,e4,t'⟩ s'=>by subst ev e4;exact q R' N' H' e1 e2 e3 t' s'⟩
 rotate_left
 .rcases mem_cons.mp hz with rfl|hz
  .rfl
  .rw[mem_singleton.mp hz];rfl
 .refine⟨rfl,λi d e=>?_⟩
  match i,e with
  |0,e=>cases e
  |1,e=>cases e
  |2,e=>exact⟨.int n,rfl,by cases e;exact .int n⟩
  |3,e=>cases e
  |4,e=>cases e
  |5,e=>cases e
  |6,e=>cases e
  |7,e=>cases e
  |8,e=>cases e
  |k+9,e=>cases e
 refine B0 (B7 (i:=3) (d:=.int (n/6)) sc_law_deed.nd rfl (ni 3 (by decide) (by decide)) (inl rfl) (B2 (ok2 S S) (Ac (evv 2) Ab (B8 ⟨by decide,by decide⟩)) rfl)) ?_
 refine B0 (G1:=frD n (some (.int (n/6))) (some (.int S.mem.length)) none none) (B7 (i:=4) (d:=.int S.mem.length) sc_law_deed.nd rfl (ni 4 (by decide) (by decide)) (inl rfl) (HL (ok2 S S) (see S S _) (A2 (Au "len" (Aa (AZ (by walk_at"un") (evv 1) (BH _)) Ad) B1 rfl T.b_len (by decide+kernel)) (by rw[length_map])) rfl)) ?_
 by_cases c0:n%6=0
 .have ed:AD S n=CL S (n/6%S.mem.length) (n/6/128%4096):=by unfold AD;rw[if_pos c0]
  rw[ed]
  have z0:0<=n/6%(S.mem.length:Int):=emod_nonneg _ (by omega)
  have z1:n/6%(S.mem.length:Int)<(S.mem.length:Int):=emod_lt_of_pos _ (by omega)
  refine Gj (k:=true) (Da (ok2 S S) (Ah (Ac (evv 2) Ab (A1 (by decide))) Ab (eqz _ _) (Af _)) (decide_eq_true c0)) (λ_=>?_) nofun (λ_ _ _ _ h=>h)
  refine B0 (G1:=frD n (some (.int (n/6))) (some (.int S.mem.length)) (some (.int (n/6%S.mem.length))) none) (B7 (i:=5) (d:=.int (n/6%S.mem.length)) sc_law_deed.nd rfl (ni 5 (by decide) (by decide)) (inl rfl) (B2 (ok2 S S) (Ac (evv 3) (evv 4) (A1 (by omega))) rfl)) ?_
  refine B0 (I1:=TZ [mI K R S,nI K N {S with mem:=S.mem.set (n/6%S.mem.length).toNat (n/6/128%4096)}]) (DS (A:=[mI K R S]) (B:=[]) (g2 S S) nz_ok (Ib rfl) (Bu (I2:=NZ K N {S with mem:=S.mem.set (n/6%S.mem.length).toNat (n/6/128%4096)}) (IT (f:="cells") (d:=.int (n/6/128%4096)) (z:=n/6%S.mem.length) (CZ (by walk_at"un")) h1 (pv 1) (Cz h1) Ak (Ac (Ac (evv 3) Ab (B8 ⟨by decide,by decide⟩)) Ab (A1 (by decide))) rfl (evv 5) (BH S) z0 (by rw[length_map];exact z1)) (by rw[EH,KC];rfl))) ?_
  refine B0 (I1:=TZ [mI K R S,nI K N (CL S (n/6%S.mem.length) (n/6/128%4096))]) (DS (A:=[mI K R S]) (B:=[]) (g2 S _) nz_ok (Ib rfl) (Bu (I2:=NZ K N (CL S (n/6%S.mem.length) (n/6/128%4096))) (D_ (f:="stored") (d:=.int (n/6%S.mem.length)) (CZ (by walk_at"un")) h1 (pv 1) (Cz h1) Ak (evv 5) rfl (FU _) (by rw[length_map,sizeLine_eq];have:=few.1;show S.sto.length<_;omega)) (by rw[EA,Je];rfl))) ?_
  refine B0 (I1:=TZ [mI K R (CL S (n/6%S.mem.length) (n/6/128%4096)),nI K N (CL S (n/6%S.mem.length) (n/6/128%4096))]) (DS (A:=[]) (B:=[nI K N _]) (g2 S _) oz_ok (Ib rfl) (Eb (DT (ds:=[.int (n/6%S.mem.length),.int (n/6/128%4096)]) CM.cl O_poke (by walk_at"rm") h0 (pv 0) (BY (B2 oz_ok (evv 5) rfl) (BY (B2 oz_ok (Ac (Ac (evv 3) Ab (B8 ⟨by decide,by decide⟩)) Ab (A1 (by decide))) rfl) Ga)) ⟨⟨S,_,_,z0,z1,few,rfl,rfl,rfl,rfl,rfl⟩,rfl⟩))) ?_
  exact Lz (B2 (ok2 (CL S (n/6%S.mem.length) (n/6/128%4096)) (CL S (n/6%S.mem.length) (n/6/128%4096))) EM rfl) λv H' i' dv=>⟨dv.of_bl,R,N,rfl,rfl,rfl,rfl,i'⟩
 refine Gj (k:=false) (Da (ok2 S S) (Ah (Ac (evv 2) Ab (A1 (by decide))) Ab (eqz _ _) (Af _)) (decide_eq_false c0)) nofun (λ_=>?_) nofun
 by_cases c1:n%6=1
 .have ed:AD S n=DB S (n/6%4096):=by unfold AD;rw[if_neg c0,if_pos c1]
  rw[ed]
  refine Gj (k:=true) (Da (ok2 S S) (Ah (Ac (evv 2) Ab (A1 (by decide))) Ab (eqz _ _) (Af _)) (decide_eq_true c1)) (λ_=>?_) nofun (λ_ _ _ _ h=>h)
  refine B0 (I1:=TZ [mI K R S,nI K N (DB S (n/6%4096))]) (DS (A:=[mI K R S]) (B:=[]) (g2 S _) nz_ok (Ib rfl) (Bu (I2:=NZ K N (DB S (n/6%4096))) (D_ (f:="told") (d:=.int (n/6%4096)) (CZ (by walk_at"un")) h1 (pv 1) (Cz h1) Ak (Ac (evv 3) Ab (A1 (by decide))) rfl (Js _) (by rw[length_map,sizeLine_eq];have:=few.2;omega)) (by rw[EA,NH];rfl))) ?_
  refine B0 (I1:=TZ [mI K R (DB S (n/6%4096)),nI K N (DB S (n/6%4096))]) (DS (A:=[]) (B:=[nI K N _]) (g2 S _) oz_ok (Ib rfl) (Eb (DT (ds:=[.int (n/6%4096)]) CM.cl O_tell (by walk_at"rm") h0 (pv 0) (BY (B2 oz_ok (Ac (evv 3) Ab (A1 (by decide))) rfl) Ga) ⟨⟨S,_,few,rfl,rfl,rfl,rfl,rfl⟩,rfl⟩))) ?_
  exact Lz (B2 (ok2 (DB S (n/6%4096)) (DB S (n/6%4096))) EM rfl) λv H' i' dv=>⟨dv.of_bl,R,N,rfl,rfl,rfl,rfl,i'⟩
 refine Gj (k:=false) (Da (ok2 S S) (Ah (Ac (evv 2) Ab (A1 (by decide))) Ab (eqz _ _) (Af _)) (decide_eq_false c1)) nofun (λ_=>?_) nofun
 by_cases c2:n%6=2
 .have ed:AD S n=putM S (Gm (n/6)) (decide (n/6%2=0)) (decide (n/6/2%2=0)) (n/6%4096) (n/6%100):=by unfold AD;rw[if_neg c0,if_neg c1,if_pos c2]
  rw[ed]
  obtain⟨bs,hbs⟩:∃bs,bs=Gm (n/6):=⟨_,rfl⟩
  obtain⟨S',hS'⟩:∃S',S'=putM S (Gm (n/6)) (decide (n/6%2=0)) (decide (n/6/2%2=0)) (n/6%4096) (n/6%100):=⟨_,rfl⟩
  rw[<-hS']
  refine Gj (k:=true) (Da (ok2 S S) (Ah (Ac (evv 2) Ab (A1 (by decide))) Ab (eqz _ _) (Af _)) (decide_eq_true c2)) (λ_=>?_) nofun (λ_ _ _ _ h=>h)
  have l4:(bs.map int).length=4:=by rw[hbs];rfl
  refine Ba (Lo:=λq=>LZ [mI K R S,nI K N S,([q],Kz K q (bs.map int))]) (Io:=λq=>TZ [mI K R S,nI K N S,([q],Kz K q (bs.map int))]) (ro:=λq=>[(6,q),(0,R.a),(1,N.a)]) (Go:=λ_=>frD n (some (.int (n/6))) (some (.int S.mem.length)) none none) (λ_=>True) (No (its:=[mI K R S,nI K N S]) (ws:=bs.map int) (j:=6) (g2 S S) sc_law_deed.nd rfl (ni 6 (by decide) (by decide)) (inl rfl) rfl (see S S _) ?mkb (A_ _)) λq _=>?_
  case mkb=>
   rw[hbs]
   exact DU (Aa (Ac (evv 3) Ab (A1 (by decide))) (Aa (Ac (Ac (evv 3) Ab (B8 ⟨by decide,by decide⟩)) Ab (A1 (by decide))) (Aa (Ac (Ac (evv 3) Ab (B8 ⟨by decide,by decide⟩)) Ab (A1 (by decide))) (Aa (Ac (Ac (evv 3) Ab (B8 ⟨by decide,by decide⟩)) Ab (A1 (by decide))) Ad)))) (by rw[sizeLine_eq];show 4<=16777216;decide)
  have gq:Gds [mI K R S,nI K N S,([q],Kz K q (bs.map int))]:=A3 EI (A3 FQ (A3 Oa BU))
  refine Ba (Lo:=λh=>LZ [mI K R S,nI K N S,([q],Kz K q (bs.map int)),([h],Kz K h (bs.map int))]) (Io:=λh=>TZ [mI K R S,nI K N S,([q],Kz K q (bs.map int)),([h],Kz K h (bs.map int))]) (ro:=λh=>[(7,h),(6,q),(0,R.a),(1,N.a)]) (Go:=λ_=>frD n (some (.int (n/6))) (some (.int S.mem.length)) none none) (λ_=>True) (No (its:=[mI K R S,nI K N S,([q],Kz K q (bs.map int))]) (ws:=bs.map int) (j:=7) gq sc_law_deed.nd rfl (by show 7∉[6,0,1];decide) (inl rfl) rfl (E1 (i:=6) (a:=q) (d1:=.list (bs.map int)) mem_cons_self λH t=>(show Kz K q (bs.map int) H from t.2 ([q],Kz K q (bs.map int)) (mem_of_getElem? (i:=2) rfl)).dv) (AC (evv 6) rfl T.b_list) (A_ _)) λh _=>?_
  have m7:((7:Nat),h)∈[(7,h),(6,q),(0,R.a),(1,N.a)]:=mem_of_getElem? (i:=0) rfl
  have m6:((6:Nat),q)∈[(7,h),(6,q),(0,R.a),(1,N.a)]:=mem_of_getElem? (i:=1) rfl
  have m0:((0:Nat),R.a)∈[(7,h),(6,q),(0,R.a),(1,N.a)]:=mem_of_getElem? (i:=2) rfl
  have m1:((1:Nat),N.a)∈[(7,h),(6,q),(0,R.a),(1,N.a)]:=mem_of_getElem? (i:=3) rfl
  obtain⟨S1,hS1⟩:∃S1:MS,S1={S with bx:=bs,tz:=decide (n/6%2=0),tl:=decide (n/6/2%2=0),here:=n/6%4096}:=⟨_,rfl⟩
  have eu:upD "place" (.int (n/6%4096)) (upD "truths" (.tuple [.bool (decide (n/6%2=0)),.bool (decide (n/6/2%2=0))]) (upD "boxes" (.list (bs.map int)) (nowD S)))=nowD S1:=by rw[H_,IU,KB,hS1]
  refine Ba (β:=NR) (Lo:=λN'=>LZ [mI K R S,nI K N' S1,([h],Kz K h (bs.map int))]) (Io:=λN'=>TZ [mI K R S,nI K N' S1,([h],Kz K h (bs.map int))]) (ro:=λ_=>[(7,h),(6,q),(0,R.a),(1,N.a)]) (Go:=λ_=>frD n (some (.int (n/6))) (some (.int S.mem.length)) none none) (λN'=>N'.a=N.a) (Nr (λL' σ' H' ⟨N',⟨ea,_⟩,eL,r⟩=>⟨N',ea,by rw[eu]at eL;exact eL,by rw[eu]at r;exact r⟩) (Sr (A:=[mI K R S]) (B:=[([h],Kz K h (bs.map int))]) (N:=N) (df:=nowD S) (ws:=bs.map int) (f1:="boxes") (f2:="truths") (f3:="place") (d2:=.tuple [.bool (decide (n/6%2=0)),.bool (decide (n/6/2%2=0))]) (d3:=.int (n/6%4096)) (A3 EI (A3 FQ (A3 Oa (A3 Oa BU)))) m1 m6 (pv 1) (pv 6) Ak Ak (AW (ds:=[.bool (decide (n/6%2=0)),.bool (decide (n/6/2%2=0))]) (Aa (AX (Ac (evv 3) Ab (A1 (by decide))) Ab (eqz _ _) (Af _)) (Aa (AX (Ac (Ac (evv 3) Ab (B8 ⟨by decide,by decide⟩)) Ab (A1 (by decide))) Ab (eqz _ _) (Af _)) Ad)) (by walk_at"sz")) rfl Ak (Ac (evv 3) Ab (A1 (by decide))) rfl (Bz S) (mem_of_getElem? (i:=3) rfl) (mem_of_getElem? (i:=4) rfl) (by decide+kernel) ⟨rfl,rfl,rfl,rfl⟩)) λN' eN=>?_
  have m1':((1:Nat),N'.a)∈[(7,h),(6,q),(0,R.a),(1,N.a)]:=by rw[eN];exact m1
  have g3:∀S T:MS,Gds [mI K R S,nI K N' T,([h],Kz K h (bs.map int))]:=λS T=>A3 EI (A3 FQ (A3 Oa BU))
  have see3:∀(T:MS) (G:Gam),Sees K (LZ [mI K R S,nI K N' T,([h],Kz K h (bs.map int))]) (TZ [mI K R S,nI K N' T,([h],Kz K h (bs.map int))]) [(7,h),(6,q),(0,R.a),(1,N.a)] G (G.set 1 (some (.dict (dfD (nowD T))))):=λT G=>E1 m1' λH t=>(show NZ K N' T H from t.2 (nI K N' T) (mem_of_getElem? (i:=1) rfl)).dv
  have eD:nowD S'=nowD {S1 with done:=S1.done+n/6%100}:=by rw[hS',hS1,hbs];rfl
  refine B0 (I1:=TZ [mI K R S,nI K N' S',([h],Kz K h (bs.map int))]) (DS (A:=[mI K R S]) (B:=[([h],Kz K h (bs.map int))]) (g3 S S1) nz_ok (Ib rfl) (Bu (I2:=NZ K N' S') (Hg (f:="done") (d:=.int (S1.done+n/6%100)) (CZ (by walk_at"un")) m1' (Cz m1') (pv 1) (Ac (AZ (by walk_at"un") (evv 1) (LB _)) (Ac (evv 3) Ab (A1 (by decide))) AH) rfl Ak (mem_of_getElem? (i:=7) rfl)) (by rw[NB];show Nz K N' _=Nz K N' _;rw[eD]))) ?_
  refine Ba (β:=OR) (Lo:=λR'=>LZ [mI K R' S',nI K N' S',([h],Kz K h (bs.map int))]) (Io:=λR'=>TZ [mI K R' S',nI K N' S',([h],Kz K h (bs.map int))]) (ro:=λ_=>[(7,h),(6,q),(0,R.a),(1,N.a)]) (Go:=λ_=>frD n (some (.int (n/6))) (some (.int S.mem.length)) none none) (λR'=>R'.C=R.C/\R'.a=R.a) (Sm (F:=MC) (R:=R) (B:=[nI K N' S',([h],Kz K h (bs.map int))]) (ws:=bs.map int) (ds:=[.tuple [.bool (decide (n/6%2=0)),.bool (decide (n/6/2%2=0))],.int (n/6%4096),.int (n/6%100)]) (g3 S S') (mem_of_getElem? (i:=1) rfl) CM.cl D_put (by walk_at"rm") m0 m7 (pv 0) (pv 7) (see3 S' _) (Aa (A2 (AZ (by walk_at"un") (evv 1) (HY _)) (by rw[hS'];rfl)) (Aa (Ac (evv 3) Ab (A1 (by decide))) (Aa (Ac (evv 3) Ab (A1 (by decide))) Ad))) rfl ⟨S,bs,_,_,_,_,rfl,rfl,rfl,by rw[hS',hbs],by rw[hS',hbs]⟩) λR' ⟨eC,eR⟩=>?_
  refine B0 (I1:=TZ [mI K R' S',nI K N' S',([h],Kz K h ((bs.map int).set 0 (.int 5)))]) (DS (A:=[mI K R' S',nI K N' S']) (B:=[]) (A3 EI (A3 FQ (A3 Oa BU))) kz_ok (Ib rfl) (Ta (z:=0) (d:=.int 5) m7 (pv 7) (Tn m7) Ab rfl Ab (by decide) (by rw[l4];decide))) ?_
  refine R7 (B2 (A3 EI (A3 FQ (A3 Oa BU)):Gds [mI K R' S',nI K N' S',([h],Kz K h ((bs.map int).set 0 (.int 5)))]).ok EM rfl) λv H' i' dv=>?_
  obtain⟨t',s'⟩:=MR (A:=[mI K R' S',nI K N' S']) (B:=[]) i'
  exact⟨_,⟨dv.of_bl,R',N',eC,eR,eN,rfl,t'⟩,s'⟩
 refine Gj (k:=false) (Da (ok2 S S) (Ah (Ac (evv 2) Ab (A1 (by decide))) Ab (eqz _ _) (Af _)) (decide_eq_false c2)) nofun (λ_=>?_) nofun
 have ed:AD S n=(Bb S).2:=by unfold AD;rw[if_neg c0,if_neg c1,if_neg c2]
 rw[ed]
 have st:=Hl okS
 have kp:=G7 okS st
 have hly:=K7 okS st
 have z0:0<=n/6%(S.mem.length:Int):=emod_nonneg _ (by omega)
 have z1:n/6%(S.mem.length:Int)<((Bb S).2.mem.length:Int):=by
  have h1:=kp.ok.ml
  rw[kp.pg]at h1
  have h2:n/6%(S.mem.length:Int)<(S.mem.length:Int):=emod_lt_of_pos _ (by omega)
  omega
 have dw:∀wd:Str,(str wd).depth<=60:=λwd=>by simp[depth]
 refine B0 (G1:=frD n (some (.int (n/6))) (some (.int S.mem.length)) none (some (.str (Bb S).1))) (B7 (i:=8) (d:=.str (Bb S).1) sc_law_deed.nd rfl (ni 8 (by decide) (by decide)) (inl rfl) (Ng (A:=[mI K R S]) (B:=[]) (I':=NZ K N (Bb S).2) (g2 S S) nz_ok all rfl (QI D_step (by walk_at"rm") rfl h1 (pv 1) ⟨S,_,_,okS,few,st,rfl,rfl,rfl,rfl⟩))) ?_
 refine Lz (Ur (Uo (d:=.bool true) (ok2 (Bb S).2 (Bb S).2) (Ng (A:=[]) (B:=[nI K N (Bb S).2]) (d:=.str (Bb S).1) (I':=MZ K R (Bb S).2) (g2 S (Bb S).2) oz_ok all rfl (Qt CM.cl D_stp (by walk_at"rm") h0 (pv 0) ⟨S,_,_,okS,few,st,rfl,rfl,rfl,rfl,rfl,rfl⟩)) (B2 (ok2 (Bb S).2 (Bb S).2) (evv 8) rfl) (Bs (by walk_at"un") hly hly (le_trans (min_le_left _ _) (dw _)) (Et _ hly)) (Af _) rfl) (HL (d:=.bool true) (ok2 (Bb S).2 (Bb S).2) (see (Bb S).2 (Bb S).2 _) (Dt (AX (BF CM.cl M_peek (by walk_at"rm") (evv 0) (Aa (Ac (evv 3) (evv 4) (A1 (by omega))) Ad) ⟨_,_,z0,z1,rfl,rfl⟩) (As (AZ (by walk_at"un") (evv 1) (BH _)) (Ac (evv 3) (evv 4) (A1 (by omega))) (Bf z0 z1)) (Bs (k:=true) (by walk_at"un") rfl rfl (by walk_at"dp") (by rw[Bo];exact decide_eq_true rfl)) (Af _))) rfl)) λv H' i' dv=>⟨dv.of_bl,R,N,rfl,rfl,rfl,rfl,i'⟩
section
variable{A B:List Zt}{o1 o2 e3:Expr}{k:Nat}{f:Str}{N:NR}{n:Int}{p1 p5:Pos}{Aq:List Stmt}
theorem MO(D:DdFn X.prog X.w X.K X.mg X.base k C f)(hr:Room k X.A)(hg:Gl X f)(g:Gds (A++([mI X.K R S,nI X.K N S]++B)))(hC:R.C=C)(ho1:PE X o1 (tAt X.K (LZ (A++([mI X.K R S,nI X.K N S]++B))) (TZ (A++([mI X.K R S,nI X.K N S]++B))) rs G (.ref R.a)))(ho2:PE X o2 (tAt X.K (LZ (A++([mI X.K R S,nI X.K N S]++B))) (TZ (A++([mI X.K R S,nI X.K N S]++B))) rs G (.ref N.a)))(h3:EV X G e3 (.int n))(n0:0<=n)(okS:MsOk S)(few:FewM S)(hdb:(f==("__debug__":Str))=false:=by decide)
  (he:starEach [o1,o2,e3] X.env=(false,eval o1 X.env)::starEach [o2,e3] X.env:=by rfl)(he2:starEach [o2,e3] X.env=(false,eval o2 X.env)::starEach [e3] X.env:=by rfl)(he3:starEach [e3] X.env=(false,eval e3 X.env)::starEach [] X.env:=by rfl)(hpl:(backTo pos (starEach [o2,e3] X.env)).any (·.1)=false:=by rfl):
  PE X (.Call (.Name f p1) [o1,o2,e3] [] pos) (λσ H Q=>RZ X.K (LZ (A++([mI X.K R S,nI X.K N S]++B))) (TZ (A++([mI X.K R S,nI X.K N S]++B))) rs G σ H/\∀(y:OR×NR) H',(y.1.C=C/\y.1.a=R.a/\y.2.a=N.a)->TZ (A++([mI X.K y.1 (AD S n),nI X.K y.2 (AD S n)]++B)) H'->Same (lef (LZ (A++([mI X.K R S,nI X.K N S]++B))) H) (lef (LZ (A++([mI X.K y.1 (AD S n),nI X.K y.2 (AD S n)]++B))) H')->Q (.bl true) H'):=by
 obtain⟨fa,fd,ps,ok,hm,hk,hb⟩:=D
 refine(Ed (E:=E0) (dvs:=[]) (ds:=[]) ok hr hg hm hk hb .nil Cs (BS ho1 (BS ho2 (Aa h3 Ad he3) he2) he) hdb he hpl).imp λσ H Q ⟨r,q⟩=>⟨r,λH1 r1 s1=>⟨r1,λH2 r2 s2=>⟨r2.sd,λvs H3 s3 dvs=>?_⟩⟩⟩
 obtain⟨v,rfl,dv⟩:=dvs.one
 have dv:=dv.of_int
 subst dv
 show spDd X.K C ([.ref R.a,.ref N.a,.int n]++[]) H3 Q E0
 have r3:=r2.step g.ok s3
 refine⟨R,N,S,n,hC,rfl,n0,okS,few,(TZ.mid2.mp r3.2.1).2.1,λR' N' H' e1 e2 e3 t' s'=>?_⟩
 obtain⟨t2,s4⟩:=PX (M:=[mI X.K R S,nI X.K N S]) (M':=[mI X.K R' (AD S n),nI X.K N' (AD S n)]) g r3.2.1 s' t'
 exact q (R',N') H' ⟨e1,e2,e3⟩ t2 (((s1.trans s2).trans s3).lef.trans s4)
theorem Jc(h:PE X (.Call (.Name f p1) [o1,o2,e3] [] pos) (λσ H Q=>RZ X.K (LZ (A++([mI X.K R S,nI X.K N S]++B))) (TZ (A++([mI X.K R S,nI X.K N S]++B))) rs G σ H/\∀(y:OR×NR) H',(y.1.C=C/\y.1.a=R.a/\y.2.a=N.a)->TZ (A++([mI X.K y.1 (AD S n),nI X.K y.2 (AD S n)]++B)) H'->Same (lef (LZ (A++([mI X.K R S,nI X.K N S]++B))) H) (lef (LZ (A++([mI X.K y.1 (AD S n),nI X.K y.2 (AD S n)]++B))) H')->Q (.bl true) H')):
  PS X (.If (.UnaryOp .Not (.Call (.Name f p1) [o1,o2,e3] [] pos) p5) Aq [] pos2) (zV X.K (LZ (A++([mI X.K R S,nI X.K N S]++B))) (TZ (A++([mI X.K R S,nI X.K N S]++B))) rs G (λL' σ' H'=>∃y:OR×NR,(y.1.C=C/\y.1.a=R.a/\y.2.a=N.a)/\L'=LZ (A++([mI X.K y.1 (AD S n),nI X.K y.2 (AD S n)]++B))/\RZ X.K (LZ (A++([mI X.K y.1 (AD S n),nI X.K y.2 (AD S n)]++B))) (TZ (A++([mI X.K y.1 (AD S n),nI X.K y.2 (AD S n)]++B))) rs G σ' H') noRt):=
 (Cu (Q5 (PR h)) (AA (sts:=Aq)) pss_nil).imp λD σ H ⟨r,q,_⟩=>⟨r,λy H' hy t' s'=>⟨true,rfl,iteF (q _ σ H' ⟨y,hy,rfl,r.1,t',r.2.2.mono s'⟩ s')⟩⟩
end
structure Y15 where
 R0:OR
 N0:NR
 R1:OR
 N1:NR
 S0:MS
 S1:MS
abbrev lI(p:Addr)(us:List V):Zt:=([p],Rf p us)
abbrev its6(K:Frag)(nl ml:Addr)(y:Y15):List Zt:=[lI nl [.ref y.N0.a,.ref y.N1.a],lI ml [.ref y.R0.a,.ref y.R1.a],mI K y.R0 y.S0,nI K y.N0 y.S0,mI K y.R1 y.S1,nI K y.N1 y.S1]
theorem gds6{nl ml:Addr}{us vs:List V}{R0 R1:OR}{N0 N1:NR}{S0 T0 S1 T1:MS}:Gds [lI nl us,lI ml vs,mI K R0 S0,nI K N0 T0,mI K R1 S1,nI K N1 T1]:=A3 Me (A3 Me (A3 EI (A3 FQ (A3 EI (A3 FQ BU)))))
abbrev fr15(ns:List Int)(S0:MS)(x7 x8 x9:Option PyData):Gam:=[some (.list (ns.map int)),some (.list (S0.pg.map AI)),some (.list (S0.mem.map int)),some (.list (S0.bx.map int)),some (.int S0.here),none,none,x7,x8,x9]
noncomputable def Cc:Nat->MS->MS
 |0,S=>S
 |k+1,S=>(Bb (Cc k S)).2
theorem Ig{S:MS}(ok:MsOk S):∀k,MsOk (Cc k S)/\(Cc k S).sto.length<=S.sto.length+k/\(Cc k S).told.length<=S.told.length+k
 |0=>⟨ok,le_refl _,le_refl _⟩
 |k+1=>by
  obtain⟨h1,h2,h3⟩:=Ig ok k
  have kp:=G7 h1 (Hl h1)
  have a:=kp.sto
  have b:=kp.told
  exact⟨kp.ok,by show(Bb (Cc k S)).2.sto.length<=_;omega,by show(Bb (Cc k S)).2.told.length<=_;omega⟩
structure Ok15(C:Addr)(k:Nat)(y:Y15):Prop where
 c0:y.R0.C=C
 c1:y.R1.C=C
 o0:MsOk y.S0
 o1:MsOk y.S1
 s0:y.S0.sto.length<=5+k
 t0:y.S0.told.length<=5+k
 s1:y.S1.sto.length<=5+k
 t1:y.S1.told.length<=5+k
theorem TY{H:Hp}(hC:R.C=C)(h:MZ K R S H):DV K H (.ref R.a) (mcD C S):=by
 have:=Oz.dv h
 rw[hC]at this
 exact this
theorem TH(T:Txt mg)(CM:ClsM K mg C)(D0:OIFn P w K mg base 5 C R8)(R_law_numbers:RFn P w K mg base 1 "_law_numbers" numF JG)(R_law_program:RFn P w K mg base 3 "_law_program" NW MD)(D_stp:OFn P w K mg base 6 C "step" P4)(D_twin:NMFn P w K mg base 7 C "twin" (PK C))(D_new:NnFn P w K mg base 1 "_law_new" NV)(D_copy:NnFn P w K mg base 1 "_law_copy" L7)(D_step:NzFn P w K mg base 3 "_law_step" Mc)(D_deed:DdFn P w K mg base 7 C "_law_deed")(D_stands:DFn P w K mg base 3 "_law_stands" (Kt C))(D_kinds:DFn P w K mg base 3 "_law_kinds" (NS C))
  (F:Fun K "law" "law" Li f fd):FnOk P w K mg base CX0 20 f fd ["script"] (spD K Nn):=by
 refine F.dataOk sc_law (λds d ⟨_,e,_⟩=>by rw[e];rfl) λcdv A outer s H E ds d hr ⟨ns,e,hns,e2⟩=>?_
 subst e e2
 refine Rj (is:=[1,2,3,4]) (Ij R_law_program (by walk_at"rm") rfl (Aa (evv 0) (Aa Ab Ad)) ⟨ns,0,hns,rfl⟩) (Dl rfl (A5 (Aw (i:=1) sc_law.nd rfl (by first|exact inl rfl|exact Or.inr rfl)) (A5 (Aw (i:=2) sc_law.nd rfl (by first|exact inl rfl|exact Or.inr rfl)) (A5 (Aw (i:=3) sc_law.nd rfl (by first|exact inl rfl|exact Or.inr rfl)) (A5 (Aw (i:=4) sc_law.nd rfl (by first|exact inl rfl|exact Or.inr rfl)) BT))))) ?_ ?_
 .rintro d ⟨S,_,rfl⟩
  exact⟨_,rfl,rfl⟩
 rintro dd ⟨S00,ok00,e⟩ _
 cases e
 obtain⟨S0,hS0,ok0⟩:∃S0:MS,S0={S00 with tz:=false,tl:=false,told:=[],sto:=[],done:=0}/\MsOk S0:=⟨_,rfl,⟨ok00.p1,ok00.p8,ok00.ml,ok00.mw,ok00.bl,ok00.bw,ok00.h⟩⟩
 have q1:S00.pg=S0.pg:=by rw[hS0]
 have q2:S00.mem=S0.mem:=by rw[hS0]
 have q3:S00.bx=S0.bx:=by rw[hS0]
 have q4:S00.here=S0.here:=by rw[hS0]
 have q5:S0.sto=[]:=by rw[hS0]
 have q6:S0.told=[]:=by rw[hS0]
 have mk:R8 [.list (S0.pg.map AI),.list (S0.mem.map int),.list (S0.bx.map int),.int S0.here] (lfM S0) (dfM S0):=⟨S0,ok0,by rw[hS0],by rw[hS0],q6,q5,by rw[hS0],rfl,rfl,rfl⟩
 have nw:NV [.list (S0.pg.map AI),.list (S0.mem.map int),.list (S0.bx.map int),.int S0.here] (nowD S0):=⟨S0,by rw[hS0],by rw[hS0],q6,q5,by rw[hS0],rfl,rfl⟩
 rw[q1,q2,q3,q4]
 clear hS0 q1 q2 q3 q4
 have ne:∀{d:PyData},d.canLay0=true->d.depth<=60->OD (cxOf CX0 P w K mg base ["script","pages","cells","boxes","place","machines","nows","turn","number","which"] "law" (Ae Li) f cdv A outer s H E).nox (compareOp .NotEq) d d (.bool false):=λ{d} h1 h2=>Eo (by walk_at"un") h1 h1 (le_trans (min_le_left _ _) h2) (by rw[Et _ h1];rfl)
 have eqz:∀n m:Int,OD (cxOf CX0 P w K mg base ["script","pages","cells","boxes","place","machines","nows","turn","number","which"] "law" (Ae Li) f cdv A outer s H E).nox (compareOp .Eq) (.int n) (.int m) (.bool (decide (n=m))):=λn m=>Bs (by walk_at"un") rfl rfl (by walk_at"dp") (Bo n m)
 have dw:∀wd:Str,(str wd).depth<=60:=λwd=>by simp[depth]
 refine TC (G:=fr15 ns S0 none none none) (β:=Addr×OR) (Lo':=λq=>LZ [lI q.1 [.ref q.2.a],mI K q.2 S0]) (Io':=λq=>TZ [lI q.1 [.ref q.2.a],mI K q.2 S0]) (ro:=λq=>[(5,q.1)]) (Go:=λ_=>fr15 ns S0 none none none) (λq=>q.2.C=C) (Iq (P:=λR:OR=>R.C=C) (Lo:=OR.L) (Io:=λR=>Oz K R (lfM S0) (dfM S0)) (ad:=OR.a) (its:=[]) (j:=5) BU (λR=>EI) sc_law.nd rfl (by show 5∉[];decide) (inl rfl) rfl (Mm (lf:=lfM S0) (df:=dfM S0) (λσ H r=>r.sd) D0 (by walk_at"rm") rfl CM.at_ (Aa (evv 1) (Aa (evv 2) (Aa (evv 3) (Aa (evv 4) Ad)))) mk)) ?_
 rintro⟨ml,R⟩ hC
 have hC:R.C=C:=hC
 refine Ba (β:=Addr×NR) (Lo:=λq=>LZ [lI q.1 [.ref q.2.a],lI ml [.ref R.a],mI K R S0,nI K q.2 S0]) (Io:=λq=>TZ [lI q.1 [.ref q.2.a],lI ml [.ref R.a],mI K R S0,nI K q.2 S0]) (ro:=λq=>[(6,q.1),(5,ml)]) (Go:=λ_=>fr15 ns S0 none none none) (λ_=>True) (Iq (P:=λ_:NR=>True) (Lo:=NR.L) (Io:=λN=>Nz K N (nowD S0)) (ad:=NR.a) (its:=[lI ml [.ref R.a],mI K R S0]) (j:=6) (A3 Me (A3 EI BU)) (λN=>FQ) sc_law.nd rfl (by show 6∉[5];decide) (inl rfl) rfl (DZ (df:=nowD S0) (λσ H r=>r.sd) D_new (by walk_at"rm") rfl (Aa (evv 1) (Aa (evv 2) (Aa (evv 3) (Aa (evv 4) Ad)))) nw)) ?_
 rintro⟨nl,N⟩ _
 have h5:((5:Nat),ml)∈[(6,nl),(5,ml)]:=mem_cons_of_mem _ mem_cons_self
 have h6:((6:Nat),nl)∈[(6,nl),(5,ml)]:=mem_cons_self
 have ni:∀i:Nat,i≠6->i≠5->i∉[((6:Nat),nl),(5,ml)].map (·.1):=λi a1 a2=>by show i∉[6,5];simp[a1,a2]
 have nj:∀i:Nat,i≠6->i≠5->∀q∈[((6:Nat),nl),(5,ml)],q.1≠i:=λi a1 a2 q hq=>by
  rcases mem_cons.mp hq with rfl|hq
  .exact symm a1
  .rw[mem_singleton.mp hq];exact symm a2
 have g4:∀S T:MS,Gds [lI nl [.ref N.a],lI ml [.ref R.a],mI K R S,nI K N T]:=λS T=>A3 Me (A3 Me (A3 EI (A3 FQ BU)))
 have see4:∀(S:MS) (G:Gam),Sees K (LZ [lI nl [.ref N.a],lI ml [.ref R.a],mI K R S,nI K N S]) (TZ [lI nl [.ref N.a],lI ml [.ref R.a],mI K R S,nI K N S]) [(6,nl),(5,ml)] G ((G.set 5 (some (.list [mcD C S]))).set 6 (some (.list [.dict (dfD (nowD S))]))):=λS G=>HZ h5 h6 (λH t=>.lst (SqL.of (t.2 _ (mem_of_getElem? (i:=1) rfl))) (.cons (TY hC (t.2 _ (mem_of_getElem? (i:=2) rfl))) .nil)) (λH t=>.lst (SqL.of (t.2 _ (mem_of_getElem? (i:=0) rfl))) (.cons (Nz.dv (t.2 _ (mem_of_getElem? (i:=3) rfl))) .nil))
 refine B0 (G1:=fr15 ns S0 none none none) (I1:=TZ [lI nl [.ref N.a],lI ml [.ref R.a],mI K R (Cc 5 S0),nI K N (Cc 5 S0)]) (Ss (α:=MS) (Iv:=λS=>TZ [lI nl [.ref N.a],lI ml [.ref R.a],mI K R S,nI K N S]) (T:=S0) (T1:=Cc 5 S0) (j:=7) (n:=5) (λk G S=>(∃x7,G=fr15 ns S0 x7 none none)/\S=Cc k S0) (λS=>(g4 S S).ok) never rfl (nj 7 (by decide) (by decide)) (Aw (i:=7) sc_law.nd rfl (inl rfl)) (see4 S0 _) Ab (by decide) rfl T.b_range ⟨⟨none,rfl⟩,rfl⟩ ?hs1 ?hd1) ?_
 case hd1=>
  rintro G S σ H ⟨⟨x7,rfl⟩,rfl⟩ r
  exact⟨r.1,r.2.1,EC (j:=7) (x:=x7) r.2.2 rfl⟩
 case hs1=>
  rintro k G S hk ⟨⟨x7,rfl⟩,rfl⟩
  obtain⟨okS,hs,ht⟩:=Ig ok0 k
  rw[q5]at hs
  rw[q6]at ht
  have hs:(Cc k S0).sto.length<=0+k:=hs
  have ht:(Cc k S0).told.length<=0+k:=ht
  have few:FewM (Cc k S0):=⟨by omega,by omega⟩
  have st:=Hl okS
  have hly:=K7 okS st
  refine⟨fr15 ns S0 (some (.int (0+(k:Int)))) none none,(Bb (Cc k S0)).2,⟨⟨_,rfl⟩,rfl⟩,?_⟩
  generalize Cc k S0=S at okS few st hly
  rw[<-hC]at D_stp
  exact At (Qq (k:=false) (I1:=TZ [lI nl [.ref N.a],lI ml [.ref R.a],mI K R (Bb S).2,nI K N (Bb S).2]) (RT (I1:=TZ [lI nl [.ref N.a],lI ml [.ref R.a],mI K R (Bb S).2,nI K N S]) (da:=.str (Bb S).1) ((g4 (Bb S).2 (Bb S).2).ok) (Ou (A:=[lI nl [.ref N.a],lI ml [.ref R.a]]) (R:=R) (B:=[nI K N S]) (g4 S S) (λ_ _=>oz_ok) (by rw[hC];exact CM.cl) D_stp (by walk_at"rm") (DO (us:=[.ref R.a]) (z:=0) (g4 S S).ok h5 (λH t=>t.2 _ (mem_of_getElem? (i:=1) rfl)) (pv 5) Ab rfl) ⟨S,_,_,okS,few,st,rfl,rfl,rfl,rfl,rfl,rfl⟩ rfl) (Ov (A:=[lI nl [.ref N.a],lI ml [.ref R.a],mI K R (Bb S).2]) (N:=N) (B:=[]) (g4 (Bb S).2 S) D_step (by walk_at"rm") rfl (DO (us:=[.ref N.a]) (z:=0) (g4 (Bb S).2 S).ok h6 (λH t=>t.2 _ (mem_of_getElem? (i:=0) rfl)) (pv 6) Ab rfl) ⟨S,_,_,okS,few,st,rfl,rfl,rfl,rfl⟩ rfl) (ne hly (dw _)) (Af _)) nofun (λ_=>A7)) A7
 obtain⟨ok5,hs5,ht5⟩:=Ig ok0 5
 rw[q5]at hs5
 rw[q6]at ht5
 have hs5:(Cc 5 S0).sto.length<=5:=hs5
 have ht5:(Cc 5 S0).told.length<=5:=ht5
 generalize Cc 5 S0=S5 at ok5 hs5 ht5
 refine Ba (β:=OR) (Lo:=λR1=>LZ [lI nl [.ref N.a],lI ml [.ref R.a,.ref R1.a],mI K R S5,nI K N S5,mI K R1 S5]) (Io:=λR1=>TZ [lI nl [.ref N.a],lI ml [.ref R.a,.ref R1.a],mI K R S5,nI K N S5,mI K R1 S5]) (ro:=λ_=>[(6,nl),(5,ml)]) (Go:=λ_=>fr15 ns S0 none none none) (λR1=>R1.C=C) (IN (A:=[lI nl [.ref N.a]]) (p:=ml) (us:=[.ref R.a]) (B:=[mI K R S5,nI K N S5]) (g4 S5 S5) (λR1=>EI) h5 (pv 5) (EQ (lf:=lfM S5) (df:=dfM S5) (see4 S5 _) CM.cl D_twin (by walk_at"rm") (As (ds:=[mcD C S5]) (evv 5) Ab (AF (by decide) rfl)) ⟨S5,ok5,rfl,rfl,rfl⟩) (by rw[sizeLine_eq];show 1<16777216;decide)) λR1 hC1=>?_
 have g5:Gds [lI nl [.ref N.a],lI ml [.ref R.a,.ref R1.a],mI K R S5,nI K N S5,mI K R1 S5]:=A3 Me (A3 Me (A3 EI (A3 FQ (A3 EI BU))))
 refine Ba (β:=NR) (Lo:=λN1=>LZ (its6 K nl ml ⟨R,N,R1,N1,S5,S5⟩)) (Io:=λN1=>TZ (its6 K nl ml ⟨R,N,R1,N1,S5,S5⟩)) (ro:=λ_=>[(6,nl),(5,ml)]) (Go:=λ_=>fr15 ns S0 none none none) (λ_=>True) (IN (A:=[]) (p:=nl) (us:=[.ref N.a]) (B:=[lI ml [.ref R.a,.ref R1.a],mI K R S5,nI K N S5,mI K R1 S5]) g5 (λN1=>FQ) h6 (pv 6) (DZ (df:=nowD S5) (E1 (i:=6) (a:=nl) (d1:=.list [.dict (dfD (nowD S5))]) h6 λH t=>.lst (SqL.of (t.2 _ (mem_of_getElem? (i:=0) rfl))) (.cons (Nz.dv (t.2 _ (mem_of_getElem? (i:=3) rfl))) .nil)) D_copy (by walk_at"rm") rfl (Aa (As (ds:=[.dict (dfD (nowD S5))]) (evv 6) Ab (AF (by decide) rfl)) Ad) ⟨S5,rfl,rfl⟩) (by rw[sizeLine_eq];show 1<16777216;decide)) λN1 _=>?_
 have see6:∀(y:Y15) (j:Nat) (G:Gam),Ok15 C j y->Sees K (LZ (its6 K nl ml y)) (TZ (its6 K nl ml y)) [(6,nl),(5,ml)] G ((G.set 5 (some (.list [mcD C y.S0,mcD C y.S1]))).set 6 (some (.list [.dict (dfD (nowD y.S0)),.dict (dfD (nowD y.S1))]))):=λy j G hy=>HZ h5 h6 (λH t=>.lst (SqL.of (t.2 _ (mem_of_getElem? (i:=1) rfl))) (.cons (TY hy.c0 (t.2 _ (mem_of_getElem? (i:=2) rfl))) (.cons (TY hy.c1 (t.2 _ (mem_of_getElem? (i:=4) rfl))) .nil))) (λH t=>.lst (SqL.of (t.2 _ (mem_of_getElem? (i:=0) rfl))) (.cons (Nz.dv (t.2 _ (mem_of_getElem? (i:=3) rfl))) (.cons (Nz.dv (t.2 _ (mem_of_getElem? (i:=5) rfl))) .nil)))
 refine Nt (β:=Y15) (Lo:=λy=>LZ (its6 K nl ml y)) (Io:=λy=>TZ (its6 K nl ml y)) (Go:=λ_=>fr15 ns S0 none none none) (j:=8) (Rx:=numF [.list (ns.map int),.int 0,.int (30:Nat)]) (λxs k y=>k<=30/\xs.length=30/\Ok15 C k y) ⟨R,N,R1,N1,S5,S5⟩ gds6.fr never rfl (nj 8 (by decide) (by decide)) (Aw (i:=8) sc_law.nd rfl (inl rfl)) (Ij R_law_numbers (by walk_at"rm") rfl (Aa (evv 0) (Aa Ab (Aa Ab Ad))) ⟨ns,0,30,hns,by decide,rfl⟩) ?hR ?h0 ?hs ?hd
 case hR=>
  rintro d ⟨_,_,many,em,rs,_,_,rfl⟩
  exact⟨_,rfl⟩
 case h0=>
  rintro xs ⟨_,_,many,em,rs,hl,_,e⟩
  have:=List.cons.inj (List.cons.inj (List.cons.inj em).2).2
  have em:=int.inj this.1
  have ex:=list.inj e
  refine⟨zero_le _,by rw[ex,length_map,hl];omega,⟨hC,hC1,ok5,ok5,hs5,ht5,hs5,ht5⟩⟩
 case hd=>
  rintro xs y hx ⟨_,hl,hy⟩
  rw[hl]at hy
  have a1:=hy.o0.bl
  have a2:=hy.o0.ml
  have a3:=hy.o0.p8
  have b1:=hy.o1.bl
  have b2:=hy.o1.ml
  have b3:=hy.o1.p8
  have c1:=hy.s0
  have c2:=hy.t0
  have c3:=hy.s1
  have c4:=hy.t1
  exact Ug (see6 y _ _ hy) (Ag (Ap (Cj (k:=true) (An D_kinds (by walk_at"rm") rfl (Aa (As (ds:=[mcD C y.S0,mcD C y.S1]) (evv 5) Ab (AF (by decide) rfl)) Ad) ⟨y.S0,by omega,rfl,rfl⟩) (λ_=>Dt (An D_kinds (by walk_at"rm") rfl (Aa (As (ds:=[mcD C y.S0,mcD C y.S1]) (evv 5) Ab (AF (by decide) rfl)) Ad) ⟨y.S1,by omega,rfl,rfl⟩)) nofun)))
 case hs=>
  rintro xs k x y ⟨_,_,many,em,rs,hl,hrs,e⟩ hxk ⟨hk,hxl,hy⟩
  have ex:=list.inj e
  have hk1:k<30:=by
   have:=(List.getElem?_eq_some_iff.mp hxk).1
   omega
  obtain⟨num,rfl,n0⟩:∃num:Int,x=.int num/\0<=num:=by
   rw[ex,getElem?_map]at hxk
   obtain⟨num,h1,h2⟩:=Option.map_eq_some_iff.mp hxk
   exact⟨num,h2.symm,(hrs num (mem_of_getElem? h1)).1⟩
  clear em hl hrs e ex hxk
  obtain⟨R0,N0,R1,N1,S,T1⟩:=y
  have fewS:FewM S:=⟨by have:=hy.s0;show S.sto.length<_;have:S.sto.length<=5+k:=hy.s0;omega,by have:S.told.length<=5+k:=hy.t0;omega⟩
  have fewT:FewM T1:=⟨by have:T1.sto.length<=5+k:=hy.s1;omega,by have:T1.told.length<=5+k:=hy.t1;omega⟩
  have okS:MsOk S:=hy.o0
  have okT:MsOk T1:=hy.o1
  have n24:0<=num/24:=by omega
  have hw:num%2=0\/num%2=1:=by omega
  refine B0 (G1:=fr15 ns S0 none (some (.int num)) (some (.int (num%2)))) (B7 (i:=9) (d:=.int (num%2)) sc_law.nd rfl (ni 9 (by decide) (by decide)) (inl rfl) (B2 gds6.ok (Ac (evv 8) Ab (A1 (by decide))) rfl)) ?_
  refine Ba (β:=Y15) (Lo:=λy=>LZ (its6 K nl ml y)) (Io:=λy=>TZ (its6 K nl ml y)) (ro:=λ_=>[(6,nl),(5,ml)]) (Go:=λ_=>fr15 ns S0 none (some (.int num)) (some (.int (num%2)))) (λy=>Ok15 C (k+1) y) ?mid λy' hy'=>?fin
  case fin=>
   refine B0 (Qq (k:=false) (QW (Mf gds6.ok (see6 y' _ _ hy') (Bn (BE (k:=false) (k':=false) (AT (k:=true) (AM (An D_stands (by walk_at"rm") rfl (Aa (As (ds:=[mcD C y'.S0,mcD C y'.S1]) (evv 5) Ab (AF (by decide) rfl)) (Aa (As (ds:=[.dict (dfD (nowD y'.S0)),.dict (dfD (nowD y'.S1))]) (evv 6) Ab (AF (by decide) rfl)) Ad)) ⟨y'.S0,rfl,rfl⟩))) (λ_=>By (AT (k:=true) (AM (An D_stands (by walk_at"rm") rfl (Aa (As (ds:=[mcD C y'.S0,mcD C y'.S1]) (evv 5) Ab (AF (by decide) rfl)) (Aa (As (ds:=[.dict (dfD (nowD y'.S0)),.dict (dfD (nowD y'.S1))]) (evv 6) Ab (AF (by decide) rfl)) Ad)) ⟨y'.S1,rfl,rfl⟩)))))))) nofun (λ_=>A7)) (Gc λσ H r=>⟨y',⟨by omega,hxl,hy'⟩,rfl,r.1,r.2.1,?_⟩)
   exact EC (j:=8) (x:=some (.int num)) (EC (j:=9) (x:=some (.int (num%2))) r.2.2 rfl) rfl
  have hs0:S.sto.length<=5+k:=hy.s0
  have ht0:S.told.length<=5+k:=hy.t0
  have hs1:T1.sto.length<=5+k:=hy.s1
  have ht1:T1.told.length<=5+k:=hy.t1
  by_cases c5:num/2%12=5
  .refine ST (k:=true) (Da gds6.ok (Ah (Ac (Ac (evv 8) Ab (B8 ⟨by decide,by decide⟩)) Ab (A1 (by decide))) Ab (eqz _ _) (Af _)) (decide_eq_true c5)) (λ_=>?_) nofun
   rcases hw with hw|hw
   .refine Ba (β:=OR) (Lo:=λR'=>LZ [lI nl [.ref N0.a,.ref N1.a],lI ml [.ref R'.a,.ref R1.a],mI K R' T1,nI K N0 S,mI K R1 T1,nI K N1 T1]) (Io:=λR'=>TZ [lI nl [.ref N0.a,.ref N1.a],lI ml [.ref R'.a,.ref R1.a],mI K R' T1,nI K N0 S,mI K R1 T1,nI K N1 T1]) (ro:=λ_=>[(6,nl),(5,ml)]) (Go:=λ_=>fr15 ns S0 none (some (.int num)) (some (.int (num%2)))) (λR'=>R'.C=C) (E8 (A0:=[lI nl [.ref N0.a,.ref N1.a]]) (p:=ml) (us:=[.ref R0.a,.ref R1.a]) (A:=[]) (it:=mI K R0 S) (B:=[nI K N0 S,mI K R1 T1,nI K N1 T1]) (z:=0) gds6 (λR'=>EI) h5 (pv 5) (EQ (lf:=lfM T1) (df:=dfM T1) (see6 ⟨R0,N0,R1,N1,S,T1⟩ _ _ hy) CM.cl D_twin (by walk_at"rm") (As (ds:=[mcD C S,mcD C T1]) (i:=1) (evv 5) (A2 (Ac Ab (evv 9) Hu) (by rw[hw];rfl)) (AF (by decide) rfl)) ⟨T1,okT,rfl,rfl,rfl⟩) (A2 (evv 9) (by rw[hw])) (by decide) (by show(0:Int)<2;decide)) λR' hR'=>?_
    refine Ba (β:=NR) (Lo:=λN'=>LZ [lI nl [.ref N'.a,.ref N1.a],lI ml [.ref R'.a,.ref R1.a],mI K R' T1,nI K N' T1,mI K R1 T1,nI K N1 T1]) (Io:=λN'=>TZ [lI nl [.ref N'.a,.ref N1.a],lI ml [.ref R'.a,.ref R1.a],mI K R' T1,nI K N' T1,mI K R1 T1,nI K N1 T1]) (ro:=λ_=>[(6,nl),(5,ml)]) (Go:=λ_=>fr15 ns S0 none (some (.int num)) (some (.int (num%2)))) (λ_=>True) (E8 (A0:=[]) (p:=nl) (us:=[.ref N0.a,.ref N1.a]) (A:=[lI ml [.ref R'.a,.ref R1.a],mI K R' T1]) (it:=nI K N0 S) (B:=[mI K R1 T1,nI K N1 T1]) (z:=0) gds6 (λN'=>FQ) h6 (pv 6) (DZ (df:=nowD T1) (E1 (i:=6) (a:=nl) (d1:=.list [.dict (dfD (nowD S)),.dict (dfD (nowD T1))]) h6 λH t=>.lst (SqL.of (t.2 _ (mem_of_getElem? (i:=0) rfl))) (.cons (Nz.dv (t.2 _ (mem_of_getElem? (i:=3) rfl))) (.cons (Nz.dv (t.2 _ (mem_of_getElem? (i:=5) rfl))) .nil))) D_copy (by walk_at"rm") rfl (Aa (As (ds:=[.dict (dfD (nowD S)),.dict (dfD (nowD T1))]) (i:=1) (evv 6) (A2 (Ac Ab (evv 9) Hu) (by rw[hw];rfl)) (AF (by decide) rfl)) Ad) ⟨T1,rfl,rfl⟩) (A2 (evv 9) (by rw[hw])) (by decide) (by show(0:Int)<2;decide)) λN' _=>?_
    exact Gc λσ H r=>⟨⟨R',N',R1,N1,T1,T1⟩,⟨hR',hy.c1,okT,okT,by show T1.sto.length<=_;omega,by show T1.told.length<=_;omega,by show T1.sto.length<=_;omega,by show T1.told.length<=_;omega⟩,rfl,r⟩
   .refine Ba (β:=OR) (Lo:=λR'=>LZ [lI nl [.ref N0.a,.ref N1.a],lI ml [.ref R0.a,.ref R'.a],mI K R0 S,nI K N0 S,mI K R' S,nI K N1 T1]) (Io:=λR'=>TZ [lI nl [.ref N0.a,.ref N1.a],lI ml [.ref R0.a,.ref R'.a],mI K R0 S,nI K N0 S,mI K R' S,nI K N1 T1]) (ro:=λ_=>[(6,nl),(5,ml)]) (Go:=λ_=>fr15 ns S0 none (some (.int num)) (some (.int (num%2)))) (λR'=>R'.C=C) (E8 (A0:=[lI nl [.ref N0.a,.ref N1.a]]) (p:=ml) (us:=[.ref R0.a,.ref R1.a]) (A:=[mI K R0 S,nI K N0 S]) (it:=mI K R1 T1) (B:=[nI K N1 T1]) (z:=1) gds6 (λR'=>EI) h5 (pv 5) (EQ (lf:=lfM S) (df:=dfM S) (see6 ⟨R0,N0,R1,N1,S,T1⟩ _ _ hy) CM.cl D_twin (by walk_at"rm") (As (ds:=[mcD C S,mcD C T1]) (i:=0) (evv 5) (A2 (Ac Ab (evv 9) Hu) (by rw[hw];rfl)) (AF (by decide) rfl)) ⟨S,okS,rfl,rfl,rfl⟩) (A2 (evv 9) (by rw[hw])) (by decide) (by show(1:Int)<2;decide)) λR' hR'=>?_
    refine Ba (β:=NR) (Lo:=λN'=>LZ [lI nl [.ref N0.a,.ref N'.a],lI ml [.ref R0.a,.ref R'.a],mI K R0 S,nI K N0 S,mI K R' S,nI K N' S]) (Io:=λN'=>TZ [lI nl [.ref N0.a,.ref N'.a],lI ml [.ref R0.a,.ref R'.a],mI K R0 S,nI K N0 S,mI K R' S,nI K N' S]) (ro:=λ_=>[(6,nl),(5,ml)]) (Go:=λ_=>fr15 ns S0 none (some (.int num)) (some (.int (num%2)))) (λ_=>True) (E8 (A0:=[]) (p:=nl) (us:=[.ref N0.a,.ref N1.a]) (A:=[lI ml [.ref R0.a,.ref R'.a],mI K R0 S,nI K N0 S,mI K R' S]) (it:=nI K N1 T1) (B:=[]) (z:=1) gds6 (λN'=>FQ) h6 (pv 6) (DZ (df:=nowD S) (E1 (i:=6) (a:=nl) (d1:=.list [.dict (dfD (nowD S)),.dict (dfD (nowD T1))]) h6 λH t=>.lst (SqL.of (t.2 _ (mem_of_getElem? (i:=0) rfl))) (.cons (Nz.dv (t.2 _ (mem_of_getElem? (i:=3) rfl))) (.cons (Nz.dv (t.2 _ (mem_of_getElem? (i:=5) rfl))) .nil))) D_copy (by walk_at"rm") rfl (Aa (As (ds:=[.dict (dfD (nowD S)),.dict (dfD (nowD T1))]) (i:=0) (evv 6) (A2 (Ac Ab (evv 9) Hu) (by rw[hw];rfl)) (AF (by decide) rfl)) Ad) ⟨S,rfl,rfl⟩) (A2 (evv 9) (by rw[hw])) (by decide) (by show(1:Int)<2;decide)) λN' _=>?_
    exact Gc λσ H r=>⟨⟨R0,N0,R',N',S,S⟩,⟨hy.c0,hR',okS,okS,by show S.sto.length<=_;omega,by show S.told.length<=_;omega,by show S.sto.length<=_;omega,by show S.told.length<=_;omega⟩,rfl,r⟩
  .refine ST (k:=false) (Da gds6.ok (Ah (Ac (Ac (evv 8) Ab (B8 ⟨by decide,by decide⟩)) Ab (A1 (by decide))) Ab (eqz _ _) (Af _)) (decide_eq_false c5)) nofun (λ_=>?_)
   rcases hw with hw|hw
   .obtain⟨d1,d2,d3⟩:=NX okS (num/24)
    refine Ba (β:=OR×NR) (Lo:=λq=>LZ [lI nl [.ref N0.a,.ref N1.a],lI ml [.ref R0.a,.ref R1.a],mI K q.1 (AD S (num/24)),nI K q.2 (AD S (num/24)),mI K R1 T1,nI K N1 T1]) (Io:=λq=>TZ [lI nl [.ref N0.a,.ref N1.a],lI ml [.ref R0.a,.ref R1.a],mI K q.1 (AD S (num/24)),nI K q.2 (AD S (num/24)),mI K R1 T1,nI K N1 T1]) (ro:=λ_=>[(6,nl),(5,ml)]) (Go:=λ_=>fr15 ns S0 none (some (.int num)) (some (.int (num%2)))) (λq=>q.1.C=C/\q.1.a=R0.a/\q.2.a=N0.a) (Jc (A:=[lI nl [.ref N0.a,.ref N1.a],lI ml [.ref R0.a,.ref R1.a]]) (B:=[mI K R1 T1,nI K N1 T1]) (MO (A:=[lI nl [.ref N0.a,.ref N1.a],lI ml [.ref R0.a,.ref R1.a]]) (B:=[mI K R1 T1,nI K N1 T1]) D_deed (by walk_at"rm") rfl gds6 hy.c0 (DO (us:=[.ref R0.a,.ref R1.a]) (z:=0) gds6.ok h5 (λH t=>t.2 _ (mem_of_getElem? (i:=1) rfl)) (pv 5) (A2 (evv 9) (by rw[hw])) rfl) (DO (us:=[.ref N0.a,.ref N1.a]) (z:=0) gds6.ok h6 (λH t=>t.2 _ (mem_of_getElem? (i:=0) rfl)) (pv 6) (A2 (evv 9) (by rw[hw])) rfl) (Ac (evv 8) Ab (B8 ⟨by decide,by decide⟩)) n24 okS fewS)) ?_
    rintro⟨R',N'⟩ ⟨e1,e2,e3⟩
    refine Gc λσ H r=>⟨⟨R',N',R1,N1,AD S (num/24),T1⟩,⟨e1,hy.c1,d1,okT,by show(AD S (num/24)).sto.length<=_;omega,by show(AD S (num/24)).told.length<=_;omega,by show T1.sto.length<=_;omega,by show T1.told.length<=_;omega⟩,rfl,?_⟩
    have e2:R'.a=R0.a:=e2
    have e3:N'.a=N0.a:=e3
    rw[<-e2,<-e3]at r
    exact r
   .obtain⟨d1,d2,d3⟩:=NX okT (num/24)
    refine Ba (β:=OR×NR) (Lo:=λq=>LZ [lI nl [.ref N0.a,.ref N1.a],lI ml [.ref R0.a,.ref R1.a],mI K R0 S,nI K N0 S,mI K q.1 (AD T1 (num/24)),nI K q.2 (AD T1 (num/24))]) (Io:=λq=>TZ [lI nl [.ref N0.a,.ref N1.a],lI ml [.ref R0.a,.ref R1.a],mI K R0 S,nI K N0 S,mI K q.1 (AD T1 (num/24)),nI K q.2 (AD T1 (num/24))]) (ro:=λ_=>[(6,nl),(5,ml)]) (Go:=λ_=>fr15 ns S0 none (some (.int num)) (some (.int (num%2)))) (λq=>q.1.C=C/\q.1.a=R1.a/\q.2.a=N1.a) (Jc (A:=[lI nl [.ref N0.a,.ref N1.a],lI ml [.ref R0.a,.ref R1.a],mI K R0 S,nI K N0 S]) (B:=[]) (MO (A:=[lI nl [.ref N0.a,.ref N1.a],lI ml [.ref R0.a,.ref R1.a],mI K R0 S,nI K N0 S]) (B:=[]) D_deed (by walk_at"rm") rfl gds6 hy.c1 (DO (us:=[.ref R0.a,.ref R1.a]) (z:=1) gds6.ok h5 (λH t=>t.2 _ (mem_of_getElem? (i:=1) rfl)) (pv 5) (A2 (evv 9) (by rw[hw])) rfl) (DO (us:=[.ref N0.a,.ref N1.a]) (z:=1) gds6.ok h6 (λH t=>t.2 _ (mem_of_getElem? (i:=0) rfl)) (pv 6) (A2 (evv 9) (by rw[hw])) rfl) (Ac (evv 8) Ab (B8 ⟨by decide,by decide⟩)) n24 okT fewT)) ?_
    rintro⟨R',N'⟩ ⟨e1,e2,e3⟩
    refine Gc λσ H r=>⟨⟨R0,N0,R',N',S,AD T1 (num/24)⟩,⟨hy.c0,e1,okS,d1,by show S.sto.length<=_;omega,by show S.told.length<=_;omega,by show(AD T1 (num/24)).sto.length<=_;omega,by show(AD T1 (num/24)).told.length<=_;omega⟩,rfl,?_⟩
    have e2:R'.a=R1.a:=e2
    have e3:N'.a=N1.a:=e3
    rw[<-e2,<-e3]at r
    exact r
def BA(K:Frag)(C:Addr)(m qual:Str)(st:Stmt):Prop:=∃f fd,Fun K m qual st f fd/\Meth K C m f
theorem mthIn_mk{f:Addr}{m qual:Str}{st:Stmt}{oc:Value}{od an:Option Addr}{osl:Array (Option Value)}{kV doc pm cdv ct:Value}(a:findIn K (.ref C) m=some (some (.ref f)))(i:isFn K (.ref f)=true)(l:K.lookup f=some ⟨oc,od,.func (fnOf m qual (DW st) (AN st) (Ae st) .none kV doc pm an cdv ct),osl⟩)(c:codeIn K cdv qual=true)(k:keepIn K (.ref f)=true):BA K C m qual st:=⟨f,_,Mt l c k,a,i,k⟩
def S_(K:Frag)(C:Addr)(qual:Str)(st:Stmt):Prop:=∃f fd,Fun K "__init__" qual st f fd/\Mk K C f
theorem iniIn_mk{f:Addr}{qual:Str}{st:Stmt}{oc:Value}{od an:Option Addr}{osl:Array (Option Value)}{kV doc pm cdv ct:Value}(a:findIn K (.ref C) "__init__"=some (some (.ref f)))(i:isFn K (.ref f)=true)(l:K.lookup f=some ⟨oc,od,.func (fnOf "__init__" qual (DW st) (AN st) (Ae st) .none kV doc pm an cdv ct),osl⟩)(c:codeIn K cdv qual=true)(k:keepIn K (.ref f)=true)(m1:makesIn K C=true)(m2:keepIn K (.ref C)=true):S_ K C qual st:=⟨f,_,Mt l c k,m1,a,i,m2⟩
theorem all_mk{l:PySem.W.OpenLaw}{h:Heap}{fa:Addr}{t0:Tok}(X:K.In h)(G:h.Ns mainGlobals mg)(hfa:mg "law"=some (.ref fa))
  (f1:∃f fd,FnIn K "is_below" Fb f fd)
  (f2:∃f fd,FnIn K "is_row" HD f fd)
  (f3:∃f fd,FnIn K "first_word" Ee f fd)
  (f4:∃f fd,FnIn K "number_in" Ew f fd)
  (f5:∃f fd,FnIn K "is_word" Gp f fd)
  (f6:∃f fd,FnIn K "row_in" HG f fd)
  (f7:∃f fd,FnIn K "cells_of" ER f fd)
  (f8:∃f fd,FnIn K "cells_from" DR f fd)
  (f9:∃f fd,FnIn K "has_right" Ev f fd)
  (f10:∃f fd,FnIn K "may_read" Fj f fd)
  (f11:∃f fd,FnIn K "may_write" Eh f fd)
  (f12:∃f fd,FnIn K "may_run" G8 f fd)
  (f13:∃f fd,FnIn K "are_words" E3 f fd)
  (f14:∃f fd,FnIn K "check_pages" Di f fd)
  (f15:∃f fd,FnIn K "check_state" Dq f fd)
  (f16:∃f fd,FnIn K "row_at" FL f fd)
  (f17:∃f fd,FnIn K "result_of" Dg f fd)
  (f18:∃f fd,FnIn K "less_of" Dz f fd)
  (f19:∃f fd,FnIn K "branch_goes" Dm f fd)
  (f20:∃f fd,FnIn K "_law_numbers" Dp f fd)
  (f21:∃f fd,FnIn K "_law_kind" Fl f fd)
  (f22:∃f fd,FnIn K "_law_wide" Fd f fd)
  (f23:∃f fd,FnIn K "_law_row_words" Bi f fd)
  (f24:∃f fd,FnIn K "_law_goal" Fh f fd)
  (f25:∃f fd,FnIn K "_law_pages" Ep f fd)
  (f26:∃f fd,FnIn K "_law_laid" Fg f fd)
  (f27:∃f fd,FnIn K "_law_program" BD f fd)
  (f28:∃f fd,FnIn K "_law_whole" Es f fd)
  (f29:∃f fd,FnIn K "_law_new" G5 f fd)
  (f30:∃f fd,FnIn K "_law_may" G6 f fd)
  (f31:∃f fd,FnIn K "_law_row_here" CQ f fd)
  (f32:∃f fd,FnIn K "_law_reckoned" BX f fd)
  (f33:∃f fd,FnIn K "_law_goes" Fi f fd)
  (f34:∃f fd,FnIn K "_law_step" CF f fd)
  (f35:∃f fd,FnIn K "_law_state" Ej f fd)
  (f36:∃f fd,FnIn K "_law_stands" C4 f fd)
  (f37:∃f fd,FnIn K "_law_kinds" Eu f fd)
  (f38:∃f fd,FnIn K "_law_copy" Fc f fd)
  (f39:∃f fd,FnIn K "_law_deed" DP f fd)
  (f40:∃f fd,FnIn K "law" Li f fd)
  (z1:nsIn K mainGlobals "len"=some none)
  (z2:nsIn K mainGlobals "isinstance"=some none)
  (z3:nsIn K mainGlobals "int"=some none)
  (z4:nsIn K mainGlobals "bool"=some none)
  (z5:nsIn K mainGlobals "all"=some none)
  (z6:nsIn K mainGlobals "zip"=some none)
  (z7:nsIn K mainGlobals "sum"=some none)
  (z8:nsIn K mainGlobals "tuple"=some none)
  (z9:nsIn K mainGlobals "list"=some none)
  (z10:nsIn K mainGlobals "range"=some none)
  (z11:nsIn K mainGlobals "str"=some none)
  (z12:nsIn K mainGlobals "dict"=some none)
  (i1:nsIn K mainGlobals "PAGE_CELLS"=some (some (.int 16 t0)))
  (p0:nsIn K mainGlobals "Machine"=some (some (.ref C)))(p1:plainGet K C Str.empty=true)(p2:hasDictIn K C=true)(p3:plainOver K C=true)(p4:findIn K (.ref C) "__setattr__"=some (some (.builtin "object.__setattr__")))(p5:findIn K (.ref C) "rights"=some none)(p6:findIn K (.ref C) "memory"=some none)(p7:findIn K (.ref C) "box_words"=some none)(p8:findIn K (.ref C) "here"=some none)(p9:findIn K (.ref C) "truth_pair"=some none)(p10:findIn K (.ref C) "told_words"=some none)(p11:findIn K (.ref C) "stored_cells"=some none)(p12:findIn K (.ref C) "done_count"=some none)
  (j0:S_ K C "Machine.__init__" CO)
  (m1:BA K C "address" "Machine.address" BQ)
  (m2:BA K C "hindrance" "Machine.hindrance" BB)
  (m3:BA K C "next_place" "Machine.next_place" B4)
  (m4:BA K C "peek" "Machine.peek" C_)
  (m5:BA K C "poke" "Machine.poke" CK)
  (m6:BA K C "tell" "Machine.tell" CH)
  (m7:BA K C "reckon" "Machine.reckon" Cm)
  (m8:BA K C "fill" "Machine.fill" CA)
  (m9:BA K C "do" "Machine.do" Ea)
  (m10:BA K C "step" "Machine.step" CB)
  (m11:BA K C "pages" "Machine.pages" Cw)
  (m12:BA K C "cells" "Machine.cells" C0)
  (m13:BA K C "boxes" "Machine.boxes" Cy)
  (m14:BA K C "truths" "Machine.truths" Ci)
  (m15:BA K C "place" "Machine.place" C1)
  (m16:BA K C "told" "Machine.told" CS)
  (m17:BA K C "stored" "Machine.stored" Cd)
  (m18:BA K C "done" "Machine.done" CY)
  (m19:BA K C "state" "Machine.state" C2)
  (m20:BA K C "put" "Machine.put" Dx)
  (m21:BA K C "twin" "Machine.twin" CC)
  (t1:GTup K mg "NAMES" nameL)(d1:GE K mg w.params "PARTS" Qk)(d2:GE K mg w.params "BOUNDS" Lr)(d3:GE K mg w.params "WEIGHTS" JT)(t2:GTup K mg "RECKONING" ["add","sub","mul","and","xor","cmp"]):
  ∃fd:FuncData,(∀(s:Shared) (v:Value),BindsTo s fd ⟨[v],[]⟩ [("script",v)])/\∀base:Heap,K.In base->base.Ns mainGlobals mg->FnOk l.prog w K mg base CX0 20 fa fd ["script"] (spD K Nn):=by
 have T:TxtR K mg w.params:=⟨⟨mg_none_of X G z1,mg_none_of X G z2,mg_none_of X G z3,mg_none_of X G z4,mg_none_of X G z5,mg_none_of X G z6,mg_none_of X G z7,mg_none_of X G z8,mg_none_of X G z9,mg_none_of X G z10,mg_none_of X G z11,mg_none_of X G z12,⟨t0,mg_of X G i1⟩⟩,t1,d1,d2,d3,t2⟩
 have CM:ClsM K mg C:=⟨⟨p1,p2,p3,p4⟩,p5,p6,p7,p8,p9,p10,p11,p12,mg_of X G p0⟩
 obtain⟨ai,bi,FI,MI⟩:=j0
 obtain⟨am1,bm1,FM1,MM1⟩:=m1
 obtain⟨am2,bm2,FM2,MM2⟩:=m2
 obtain⟨am3,bm3,FM3,MM3⟩:=m3
 obtain⟨am4,bm4,FM4,MM4⟩:=m4
 obtain⟨am5,bm5,FM5,MM5⟩:=m5
 obtain⟨am6,bm6,FM6,MM6⟩:=m6
 obtain⟨am7,bm7,FM7,MM7⟩:=m7
 obtain⟨am8,bm8,FM8,MM8⟩:=m8
 obtain⟨am9,bm9,FM9,MM9⟩:=m9
 obtain⟨am10,bm10,FM10,MM10⟩:=m10
 obtain⟨am11,bm11,FM11,MM11⟩:=m11
 obtain⟨am12,bm12,FM12,MM12⟩:=m12
 obtain⟨am13,bm13,FM13,MM13⟩:=m13
 obtain⟨am14,bm14,FM14,MM14⟩:=m14
 obtain⟨am15,bm15,FM15,MM15⟩:=m15
 obtain⟨am16,bm16,FM16,MM16⟩:=m16
 obtain⟨am17,bm17,FM17,MM17⟩:=m17
 obtain⟨am18,bm18,FM18,MM18⟩:=m18
 obtain⟨am19,bm19,FM19,MM19⟩:=m19
 obtain⟨am20,bm20,FM20,MM20⟩:=m20
 obtain⟨am21,bm21,FM21,MM21⟩:=m21
 obtain⟨a1,b1,F1⟩:=f1
 obtain⟨a2,b2,F2⟩:=f2
 obtain⟨a3,b3,F3⟩:=f3
 obtain⟨a4,b4,F4⟩:=f4
 obtain⟨a5,b5,F5⟩:=f5
 obtain⟨a6,b6,F6⟩:=f6
 obtain⟨a7,b7,F7⟩:=f7
 obtain⟨a8,b8,F8⟩:=f8
 obtain⟨a9,b9,F9⟩:=f9
 obtain⟨a10,b10,F10⟩:=f10
 obtain⟨a11,b11,F11⟩:=f11
 obtain⟨a12,b12,F12⟩:=f12
 obtain⟨a13,b13,F13⟩:=f13
 obtain⟨a14,b14,F14⟩:=f14
 obtain⟨a15,b15,F15⟩:=f15
 obtain⟨a16,b16,F16⟩:=f16
 obtain⟨a17,b17,F17⟩:=f17
 obtain⟨a18,b18,F18⟩:=f18
 obtain⟨a19,b19,F19⟩:=f19
 obtain⟨a20,b20,F20⟩:=f20
 obtain⟨a21,b21,F21⟩:=f21
 obtain⟨a22,b22,F22⟩:=f22
 obtain⟨a23,b23,F23⟩:=f23
 obtain⟨a24,b24,F24⟩:=f24
 obtain⟨a25,b25,F25⟩:=f25
 obtain⟨a26,b26,F26⟩:=f26
 obtain⟨a27,b27,F27⟩:=f27
 obtain⟨a28,b28,F28⟩:=f28
 obtain⟨a29,b29,F29⟩:=f29
 obtain⟨a30,b30,F30⟩:=f30
 obtain⟨a31,b31,F31⟩:=f31
 obtain⟨a32,b32,F32⟩:=f32
 obtain⟨a33,b33,F33⟩:=f33
 obtain⟨a34,b34,F34⟩:=f34
 obtain⟨a35,b35,F35⟩:=f35
 obtain⟨a36,b36,F36⟩:=f36
 obtain⟨a37,b37,F37⟩:=f37
 obtain⟨a38,b38,F38⟩:=f38
 obtain⟨a39,b39,F39⟩:=f39
 obtain⟨a40,b40,F40⟩:=f40
 have e:=hfa.symm.trans (mg_of X G F40.ns)
 cases e
 have bs:∀(s:Shared) (v:Value),BindsTo s b40 ⟨[v],[]⟩ [("script",v)]:=by
  obtain⟨oc,od,kV,doc,pm,an,cdv,ct,osl,rfl,_⟩:=F40.fn.ex
  exact λs v=>.of_eq rfl
 refine⟨b40,bs,λbase _ _=>?_⟩
 have D1:DFn l.prog w K mg base 1 "is_below" CG:=LN T.toTxt F1.fn (mg_of X G F1.ns)
 have D2:=Pc T D1 F2.fn (mg_of X G F2.ns)
 have D3:DFn l.prog w K mg base 1 "first_word" E5:=JB T F3.fn (mg_of X G F3.ns)
 have D4:DFn l.prog w K mg base 1 "number_in" HV:=Lh T F4.fn (mg_of X G F4.ns)
 have D5:=OF D1 F5.fn (mg_of X G F5.ns)
 have D6:=Q6 T D5 D2 D3 D4 F6.fn (mg_of X G F6.ns)
 have D7:=FFn.data (LW T D2 D3 F7.fn (mg_of X G F7.ns))
 have D8:=JM T D6 D7 F8.fn (mg_of X G F8.ns)
 have D9:=K6 T.toTxt D1 F9.fn (mg_of X G F9.ns)
 have D10:=LH D9 F10.fn (mg_of X G F10.ns)
 have D11:=Lb D9 F11.fn (mg_of X G F11.ns)
 have D12:=Oc D9 F12.fn (mg_of X G F12.ns)
 have D15:=Kw T.toTxt D5 F13.fn (mg_of X G F13.ns)
 have D16:=IB (P:=l.prog) (w:=w) (base:=base) T.toTxt F14.fn (mg_of X G F14.ns)
 have D17:=IF T.toTxt D16 D15 D5 F15.fn (mg_of X G F15.ns)
 have I0:=Tr T.toTxt CM D17 FI MI
 have D18:=QP T.toTxt D12 D8 D6 F16.fn (mg_of X G F16.ns)
 have D19:DFn l.prog w K mg base 1 "result_of" P5:=Kx F17.fn (mg_of X G F17.ns)
 have D20:DFn l.prog w K mg base 1 "less_of" P0:=OM F18.fn (mg_of X G F18.ns)
 have D21:DFn l.prog w K mg base 1 "branch_goes" Uj:=IG F19.fn (mg_of X G F19.ns)
 have M1:MFn l.prog w K mg base 1 C "address" (KS C):=OE CM FM1 MM1
 have M2:=KL CM D10 D11 M1 FM2 MM2
 have M3:=JJ CM D21 FM3 MM3
 have M4:MFn l.prog w K mg base 1 C "peek" (NC C):=Tu CM FM4 MM4
 have O1:OFn l.prog w K mg base 1 C "poke" (De Nc):=Ut CM FM5 MM5
 have O2:OFn l.prog w K mg base 1 C "tell" (De MX):=TD CM FM6 MM6
 have O4:=P1 CM D19 D20 FM7 MM7
 have O5:=Uf CM M4 M1 FM8 MM8
 have O6:=Vz T CM D7 M3 M1 O4 O1 O2 O5 FM9 MM9
 have O7:=Uy CM D18 M2 O6 FM10 MM10
 have R1:RFn l.prog w K mg base 1 "_law_numbers" numF JG:=IC T.toTxt F20.fn (mg_of X G F20.ns)
 have D22:DFn l.prog w K mg base 1 "_law_kind" LI:=Mh F21.fn (mg_of X G F21.ns)
 have D23:DFn l.prog w K mg base 1 "_law_wide" Ma:=Lw T.toTxt F22.fn (mg_of X G F22.ns)
 have D24:DFn l.prog w K mg base 1 "_law_row_words" Tt:=GJ F23.fn (mg_of X G F23.ns)
 have D25:DFn l.prog w K mg base 1 "_law_goal" Mu:=LX T.toTxt F24.fn (mg_of X G F24.ns)
 have D26:DFn l.prog w K mg base 1 "_law_pages" N9:=KH T.toTxt F25.fn (mg_of X G F25.ns)
 have D27:=L9 T.toTxt D22 D23 D24 D25 F26.fn (mg_of X G F26.ns)
 have R2:=IE T.toTxt R1 D27 D26 F27.fn (mg_of X G F27.ns)
 have N1:=So (P:=l.prog) (w:=w) (base:=base) T.toTxt CM FM11 MM11
 have N2:=RK (P:=l.prog) (w:=w) (base:=base) T.toTxt CM FM12 MM12
 have N3:=Ru (P:=l.prog) (w:=w) (base:=base) T.toTxt CM FM13 MM13
 have N4:=Q9 (P:=l.prog) (w:=w) (base:=base) T.toTxt CM FM14 MM14
 have N5:=RF (P:=l.prog) (w:=w) (base:=base) T.toTxt CM FM15 MM15
 have N6:=Ux (P:=l.prog) (w:=w) (base:=base) T.toTxt CM FM16 MM16
 have N7:=Tz (P:=l.prog) (w:=w) (base:=base) T.toTxt CM FM18 MM18
 have N8:=Sv CM N3 N4 N5 N2 N6 N7 FM19 MM19
 have M5:=Q1 (P:=l.prog) (w:=w) (base:=base) T.toTxt CM FM17 MM17
 have TL:Tells l.prog w K mg base C:=⟨N1,N2,N3,N4,N5,N6,N7,M5,N8⟩
 have D30:DFn l.prog w K mg base 1 "_law_whole" JY:=Km T.toTxt F28.fn (mg_of X G F28.ns)
 have D31:DFn l.prog w K mg base 1 "_law_may" Gq:=ON T.toTxt F30.fn (mg_of X G F30.ns)
 have D32:FFn l.prog w K mg base 1 "_law_reckoned" Nh:=Ir F32.fn (mg_of X G F32.ns)
 have D33:DFn l.prog w K mg base 1 "_law_goes" LP:=Ls F33.fn (mg_of X G F33.ns)
 have D34:=HM T.toTxt D31 F31.fn (mg_of X G F31.ns)
 have D35:NnFn l.prog w K mg base 1 "_law_new" NV:=OL T.toTxt F29.fn (mg_of X G F29.ns)
 have D36:=Ln T.toTxt D34 D31 D32 D33 F34.fn (mg_of X G F34.ns)
 have D37:DFn l.prog w K mg base 1 "_law_state" L8:=Kv T.toTxt F35.fn (mg_of X G F35.ns)
 have D38:=J5 CM TL D37 F36.fn (mg_of X G F36.ns)
 have D39:=KZ T.toTxt CM TL D30 F37.fn (mg_of X G F37.ns)
 have Y1:=Vm (P:=l.prog) (w:=w) (base:=base) T.toTxt CM FM20 MM20
 have TW:=Uk T.toTxt CM I0 Y1 FM21 MM21
 have CP:NnFn l.prog w K mg base 1 "_law_copy" L7:=Mi T.toTxt F38.fn (mg_of X G F38.ns)
 have DD:=KF T.toTxt CM O1 O2 Y1 O7 M4 D36 F39.fn (mg_of X G F39.ns)
 exact TH T.toTxt CM I0 R1 R2 O7 TW D35 CP D36 DD D38 D39 F40.fn
end My
open PySem PySem.W PyProof.Rows
local macro_rules| `(tactic|walk_at"f")=>`(tactic|(refine' L2.fnIn_mk ?a ?l ?c ?k;(case a=>k_is);(case l=>k_is);(case c=>k_is);(case k=>k_is)))
local macro_rules| `(tactic|walk_at"m")=>`(tactic|(refine' My.mthIn_mk ?a ?i ?l ?c ?k;(case a=>k_is);(case i=>k_is);(case l=>k_is);(case c=>k_is);(case k=>k_is)))
set_option maxRecDepth 100000 in
set_option maxHeartbeats 0 in
theorem PySem.Challenge.cw_likewise_k15_twins_holds : PySem.Challenge.rw_likewise_k15_twins.Holds := by
 w_on;o_law;k_head;(case hw=>w_witness2)
 k_fill
 refine L2.walk_D (l:=PySem.Challenge.rw_likewise_k15_twins) rfl rfl (fun w h Y=>PySem.W.kIn_of Y) ?F
 case F=>
  intro w mg fa h KX G hmg
  refine' My.all_mk KX G hmg ?f1 ?f2 ?f3 ?f4 ?f5 ?f6 ?f7 ?f8 ?f9 ?f10 ?f11 ?f12 ?f13 ?f14 ?f15 ?f16 ?f17 ?f18 ?f19 ?f20 ?f21 ?f22 ?f23 ?f24 ?f25 ?f26 ?f27 ?f28 ?f29 ?f30 ?f31 ?f32 ?f33 ?f34 ?f35 ?f36 ?f37 ?f38 ?f39 ?f40 ?z1 ?z2 ?z3 ?z4 ?z5 ?z6 ?z7 ?z8 ?z9 ?z10 ?z11 ?z12 ?i1 ?p0 ?p1 ?p2 ?p3 ?p4 ?p5 ?p6 ?p7 ?p8 ?p9 ?p10 ?p11 ?p12 ?j0 ?m1 ?m2 ?m3 ?m4 ?m5 ?m6 ?m7 ?m8 ?m9 ?m10 ?m11 ?m12 ?m13 ?m14 ?m15 ?m16 ?m17 ?m18 ?m19 ?m20 ?m21 ?t1 ?d1 ?d2 ?d3 ?t2
  (case f1=>walk_at "f")
  (case f2=>walk_at "f")
  (case f3=>walk_at "f")
  (case f4=>walk_at "f")
  (case f5=>walk_at "f")
  (case f6=>walk_at "f")
  (case f7=>walk_at "f")
  (case f8=>walk_at "f")
  (case f9=>walk_at "f")
  (case f10=>walk_at "f")
  (case f11=>walk_at "f")
  (case f12=>walk_at "f")
  (case f13=>walk_at "f")
  (case f14=>walk_at "f")
  (case f15=>walk_at "f")
  (case f16=>walk_at "f")
  (case f17=>walk_at "f")
  (case f18=>walk_at "f")
  (case f19=>walk_at "f")
  (case f20=>walk_at "f")
  (case f21=>walk_at "f")
  (case f22=>walk_at "f")
  (case f23=>walk_at "f")
  (case f24=>walk_at "f")
  (case f25=>walk_at "f")
  (case f26=>walk_at "f")
  (case f27=>walk_at "f")
  (case f28=>walk_at "f")
  (case f29=>walk_at "f")
  (case f30=>walk_at "f")
  (case f31=>walk_at "f")
  (case f32=>walk_at "f")
  (case f33=>walk_at "f")
  (case f34=>walk_at "f")
  (case f35=>walk_at "f")
  (case f36=>walk_at "f")
  (case f37=>walk_at "f")
  (case f38=>walk_at "f")
  (case f39=>walk_at "f")
  (case f40=>walk_at "f")
  (case z1=>k_is)
  (case z2=>k_is)
  (case z3=>k_is)
  (case z4=>k_is)
  (case z5=>k_is)
  (case z6=>k_is)
  (case z7=>k_is)
  (case z8=>k_is)
  (case z9=>k_is)
  (case z10=>k_is)
  (case z11=>k_is)
  (case z12=>k_is)
  (case i1=>k_is)
  (case p0=>k_is)
  (case p1=>k_is)
  (case p2=>k_is)
  (case p3=>k_is)
  (case p4=>k_is)
  (case p5=>k_is)
  (case p6=>k_is)
  (case p7=>k_is)
  (case p8=>k_is)
  (case p9=>k_is)
  (case p10=>k_is)
  (case p11=>k_is)
  (case p12=>k_is)
  (case j0=>refine' My.iniIn_mk ?a ?i ?l ?c ?k ?mk1 ?mk2;(case a=>k_is);(case i=>k_is);(case l=>k_is);(case c=>k_is);(case k=>k_is);(case mk1=>k_is);(case mk2=>k_is))
  (case m1=>walk_at "m")
  (case m2=>walk_at "m")
  (case m3=>walk_at "m")
  (case m4=>walk_at "m")
  (case m5=>walk_at "m")
  (case m6=>walk_at "m")
  (case m7=>walk_at "m")
  (case m8=>walk_at "m")
  (case m9=>walk_at "m")
  (case m10=>walk_at "m")
  (case m11=>walk_at "m")
  (case m12=>walk_at "m")
  (case m13=>walk_at "m")
  (case m14=>walk_at "m")
  (case m15=>walk_at "m")
  (case m16=>walk_at "m")
  (case m17=>walk_at "m")
  (case m18=>walk_at "m")
  (case m19=>walk_at "m")
  (case m20=>walk_at "m")
  (case m21=>walk_at "m")
  (case t1=>refine' L2.gtup_mk KX G ?a ?l ?s ?v;(case a=>k_is);(case l=>k_is);(case s=>rfl);(case v=>rfl))
  (case d1=>refine' L2.gdict_mk KX G ?a ?l ?k ?t ?n;(case a=>k_is);(case l=>k_is);(case k=>k_keys);(case t=>rfl);(case n=>decide +kernel))
  (case d2=>refine' L2.gdict_mk KX G ?a ?l ?k ?t ?n;(case a=>k_is);(case l=>k_is);(case k=>k_keys);(case t=>rfl);(case n=>decide +kernel))
  (case d3=>refine' L2.gdict_mk KX G ?a ?l ?k ?t ?n;(case a=>k_is);(case l=>k_is);(case k=>k_keys);(case t=>rfl);(case n=>decide +kernel))
  (case t2=>refine' L2.gtup_mk KX G ?a ?l ?s ?v;(case a=>k_is);(case l=>k_is);(case s=>rfl);(case v=>rfl))

import PyProof.Rows.All
import Wide.All
import OpenK.AllK
import Wide.FinOn
import Lean
import PyProof.EqAt
import PyProof.EqKinds
import PyProof.TupleCall
import KE.KSortTup
import KE.KItemsList
import PyProof.Draws
import PyProof.EnumFor
import PyProof.EnumStmt
import PyProof.AttrMissHeap
import PyProof.WalksS
import PyProof.WalksMore
import KE.KDictOf
import KE.KDictSum
import PyProof.TupleKey
import PyProof.P3Eq
import PyProof.Rows.TupTab
import PyProof.DictRoadsH
import PyProof.MinMaxWalk
import PyProof.WalkInts
import PyProof.FactsAll.tuple_1
import PyProof.FactsAll.tuple_2
import PyProof.P3In
import PyProof.Walks
import PyProof.Seq
import PyProof.Rows.CallKwBuiltin
import KE.KRevSl
import PySem.Challenge.RW_likewise_k55_steps_followed
set_option maxRecDepth 100000
set_option maxHeartbeats 8000000
set_option Elab.async false
set_option linter.all false
namespace PySem.W.Fast
def tw1213402281088800032:=()
def tw7244688274118561825:=()
def tw18135543487745005153:=()
def tw10347755016990335778:=()
def tw15428069652361359716:=()
def tw1534696739445291237:=()
def tw6015018993329390853:=()
def tw1944864375165773926:=()
def tw3775217008083774438:=()
def tw7448193812205417896:=()
def tw1745376664509330538:=()
def tw7185801782673728074:=()
def tw9635775671318611882:=()
def tw17935482892968655786:=()
def tw9770648764386217898:=()
def tw6725571947242163403:=()
def tw9688975548595940204:=()
def tw3480436297805451917:=()
def tw18085665879326512686:=()
def tw2735119680774862063:=()
def tw12985734841408699025:=()
def tw16817622961443528401:=()
def tw2895588289741914001:=()
def tw18418858520225151155:=()
def tw7977571534289050963:=()
def tw10899274187262964982:=()
def tw1430936395913863643:=()
def tw4202066112420797179:=()
def tw8019527342889299013:=()
def tw14131956833284600159:=()
def tw8771570899808787921:=()
def tw8035915945054415834:=()
def tw13005930808418043878:=()
def tw6370106734533433856:=()
def tw18188207785113886794:=()
def tw11109418949395120891:=()
def tw8996117989207065107:=()
def tw14017721403189306695:=()
def tw16474615355017025986:=()
def tw15244170311253365059:=()
def tw15824596822917282912:=()
def tw16970947611119007804:=()
def tw972728119986815736:=()
def tw5764458125861990279:=()
def tw6934530202973109562:=()
def tw5661174581197788654:=()
def tw14580424075544158896:=()
def tw12400283939090422700:=()
def tw905376586665670298:=()
def tw3396553509883450069:=()
def tw1699919463388246629:=()
def tw18064555438439607596:=()
def tw9644677886615815073:=()
def tw5355997890513354023:=()
def tw16878205870759435803:=()
def tw11141333092382837236:=()
def tw615032764506890802:=()
def tw4152378566946727679:=()
def tw3469513675777267968:=()
def tw6876671052524717906:=()
def tw17492112626683042531:=()
def tw16886494987243430473:=()
def tw12098907609384434084:=()
def tw10004252150008123877:=()
def tw14596367798783150479:=()
def tw10825849034069875953:=()
def tw2278437747285626967:=()
def tw1053467479618595221:=()
def tw9778434704491573375:=()
def tw14746773930315439231:=()
def tw14096926875331821773:=()
def tw6561345119464833042:=()
def tw4372765850900149779:=()
def tw1310611964758620638:=()
def tw5235950441587421668:=()
def tw3697540782077137161:=()
def tw5046179356358487459:=()
def tw2894992601016592788:=()
def tw3640075033117770119:=()
def tw15030118309193705641:=()
def tw3789057429486471600:=()
def tw1560120697846218356:=()
def tw16948453141840998064:=()
def tw2215811555630501704:=()
def tw15467868750494296038:=()
def tw11373355558855924170:=()
def tw6047697667714022329:=()
def tw13235141866024765437:=()
def tw11875583505250570952:=()
def tw6936283975515419914:=()
def tw13535273111128795199:=()
def tw9373032162272423465:=()
def tw15201248438467496867:=()
def tw16101678462696069849:=()
def tw3377877713440148304:=()
def tw9825016568951036553:=()
def tw18006791471823565641:=()
def tw13356618616801982456:=()
def tw13825834904682663527:=()
def tw6997936338855473863:=()
def tw8836057265723443140:=()
def tw9492115309019372888:=()
def tw1451784702774335283:=()
def tw13646097578100156319:=()
def tw4562190843220807538:=()
def tw2918643271760185843:=()
def tw2864140298256588056:=()
def tw15885135269515217697:=()
def tw5680660652153081324:=()
def tw3665365374818262783:=()
def tw8015674858354352253:=()
def tw2649718353113500069:=()
end PySem.W.Fast
open Array(getElem?_eq_none length_toList toList)
open Bool(and_eq_true false_eq_true)
open ForInStep(yield)
open Int(emod_lt_of_pos emod_nonneg toNat_natCast zero_add)
open List(Nodup all_cons all_eq_true all_map any_cons any_eq_true any_map any_nil append_nil cons_append ext_getElem? find?_cons flatten_cons foldl foldl_cons forIn_cons getD_eq_getElem?_getD getElem?_append_left getElem?_eq_getElem getElem?_map getElem?_replicate getElem?_set_ne getElem?_set_self getElem_mem length_append length_cons length_drop length_map length_nil length_replicate length_set length_take length_zip lookup_cons map map_append map_congr_left map_cons map_drop map_id map_map map_nil map_take mem_append mem_append_left mem_append_right mem_cons mem_cons_of_mem mem_cons_self mem_map mem_map_of_mem mem_of_getElem? mem_range mem_singleton nodup_append nodup_cons nodup_nil not_mem_nil of_mem_zip pairwise_cons range replicate replicate_succ size_toArray sum_cons take_add_one take_of_length_le toArray zip_cons_cons)
open Nat(add_assoc add_comm le_of_lt le_refl le_succ le_trans lt_irrefl lt_of_lt_of_le lt_or_ge lt_trans ne_of_gt ne_of_lt not_lt_of_le zero_le)
open Ne(symm)
open Or(inl inr)
open PySem.Builtin.Slice(sliceAdjust sliceApplied sliceFields slicePlaces)
open PySem.Builtin.SmallTypes(ownedTupleHandOut ownedTupleIsFree)
open PySem.Builtin.Tuple(tupleExact tupleHashOf tupleItemsOf)
open PySem.F(entry_dict_get entry_zip_next plainAttrs_list slot_dict_get slot_tuple_add slot_zip_next)
open PySem.Heap(SameBut get?_push_of_some get?_push_size get?_update_other get?_update_self lt_size size_push)
open PySem.PassesOwn(never)
open PySem.PyData(canLay0 canLayAll0 depth depthAll eqv eqvAll int list str tuple)
open PySem.SeqAt.EqAt(bool_bool bool_int bool_none bool_str int_bool int_int int_none int_str none_bool none_int none_str str_bool str_int str_none str_str)
open PySem.W(CodeHd Frag KasT KeysLit KitX callWith_K callWith_K0 cellsFrom_some codeHdIn codeHd_of_K codeIn emptyDict envX findIn find_K fnOf handedIn hasDictIn instObj isFn keepIn kia_one kitOne kitx_dict kitx_list kitx_tuple kla_fn kla_obj lookIn makesIn methodCall_KW methodObj mg_none_of mg_of mroIn nsIn plainGet plainGet_of plainOver specialIn tabObj takerIn typeIn)
namespace L2
open PySem PySem.Spec PyProof.Rows
abbrev Key:=Sum Int Str
def Ik:Key->Value->Bool
 | .inl k,v=>Value.isInt k v
 | .inr x,v=>Value.isStrOf x v
def keyH(w:World):Key->Int
 | .inl k=>hashInt k
 | .inr x=>hashStr w x
theorem AO:∀{k:Key}{v:Value},Ik k v=true->(∃i t,k=Sum.inl i/\v=Value.int i t)\/(∃x t,k=Sum.inr x/\v=Value.str x t)
 | .inl i,v,h=>by
   obtain⟨t,e⟩:=Value.isInt_shape (k:=i) (v:=v) h
   exact .inl ⟨i,t,rfl,e⟩
 | .inr x,v,h=>by
   obtain⟨t,e⟩:=Value.isStrOf_shape (x:=x) (v:=v) h
   exact .inr ⟨x,t,rfl,e⟩
theorem Nn(i:Int)(t:Tok):Ik (.inl i) (.int i t)=true:=by simp[Ik,Value.isInt]
theorem MQ(x:Str)(t:Tok):Ik (.inr x) (.str x t)=true:=by simp[Ik,Value.isStrOf]
theorem Tn(a b:Int):decide ((Sum.inl a:Key)=Sum.inl b)=(a==b):=by
 by_cases e:a=b
 .subst e;simp
 .have h:¬(Sum.inl a:Key)=Sum.inl b:=λq=>e (Sum.inl.inj q)
  rw[decide_eq_false h]
  exact(beq_eq_false_iff_ne.mpr e).symm
theorem Tf(a b:Str):decide ((Sum.inr a:Key)=Sum.inr b)=decide (a=b):=by
 by_cases e:a=b
 .subst e;simp
 .have h:¬(Sum.inr a:Key)=Sum.inr b:=λq=>e (Sum.inr.inj q)
  rw[decide_eq_false h,decide_eq_false e]
theorem S8(a:Int)(b:Str):decide ((Sum.inl a:Key)=Sum.inr b)=false:=decide_eq_false (λq=>nomatch q)
theorem SI(a:Str)(b:Int):decide ((Sum.inr a:Key)=Sum.inl b)=false:=decide_eq_false (λq=>nomatch q)
def AC(prog:Program)(w:World):PySem.KeyKind prog w Key where
 is:=Ik
 hash:=keyH w
 inj:=λv a b ha hb=>by
  rcases AO ha with⟨i,t,rfl,rfl⟩|⟨x,t,rfl,rfl⟩
  .rcases AO hb with⟨j,u,rfl,e⟩|⟨y,u,rfl,e⟩
   .injection e with e1 _;rw[e1]
   .exact nomatch e
  .rcases AO hb with⟨j,u,rfl,e⟩|⟨y,u,rfl,e⟩
   .exact nomatch e
   .injection e with e1 _;rw[e1]
 byValue:=λk v h=>by
  rcases AO h with⟨i,t,rfl,rfl⟩|⟨x,t,rfl,rfl⟩<;>rfl
 pyHash:=λhv h=>by
  rcases AO hv with⟨i,t,rfl,rfl⟩|⟨x,t,rfl,rfl⟩
  .exact wpAny_pyHash_int h
  .exact wpAny_pyHash_str h
 eqBool:=λhu hv h=>by
  rcases AO hu with⟨i,t,rfl,rfl⟩|⟨x,t,rfl,rfl⟩
  .rcases AO hv with⟨j,u,rfl,rfl⟩|⟨y,u,rfl,rfl⟩
   .rw[Tn]at h;exact wpAny_eqBool_int h
   .rw[S8]at h;exact int_str i t y u _ _ _ _ h
  .rcases AO hv with⟨j,u,rfl,rfl⟩|⟨y,u,rfl,rfl⟩
   .rw[SI]at h;exact str_int x t j u _ _ _ _ h
   .rw[Tf]at h;exact wpAny_eqBool_str h
 «strs»:=λk x t v h=>by
  rcases AO h with⟨i,u,rfl,e⟩|⟨y,u,rfl,e⟩
  .exact nomatch e
  .injection e with e1 _
   subst e1
   cases v<;>rfl
theorem JN(prog:Program)(w:World)(i:Int)(t:Tok):(AC prog w).is (.inl i) (.int i t)=true:=Nn i t
theorem Jm(prog:Program)(w:World)(x:Str)(t:Tok):(AC prog w).is (.inr x) (.str x t)=true:=MQ x t
inductive V where
 |non|bl (b:Bool)|int (i:Int)|str (x:Str)|byt (b:Array UInt8)|flt (b:UInt64)|ref (a:Addr)|ty (n:String)
 deriving DecidableEq
def RelV:V->Value->Prop
 | .non,u=>u=Value.none
 | .bl b,u=>u=Value.bool b
 | .int i,u=>∃t,u=Value.int i t
 | .str x,u=>∃t,u=Value.str x t
 | .byt b,u=>∃t,u=Value.bytes b t
 | .flt b,u=>∃t,u=Value.float b t
 | .ref a,u=>u=Value.ref a
 | .ty n,u=>u=Value.type n
abbrev Vals:List V->List Value->Prop:=Paired RelV
variable{us:List Value}
theorem Vals.length{xs:List V}(r:Vals xs us):xs.length=us.length:=Paired.length r
theorem Vals.get:∀{xs:List V}{us:List Value}{i:Nat}{x:V},Vals xs us->xs[i]?=some x->∃u,us[i]?=some u/\RelV x u
 |_,_,_,_,.nil,e=>by simp at e
 |_,_,0,_,.cons r _,e=>by simp at e;subst e;exact⟨_,rfl,r⟩
 |_,_,i+1,x,.cons _ t,e=>by
  obtain⟨u,h1,h2⟩:=Vals.get (i:=i) (x:=x) t (by simpa using e)
  exact⟨u,by simpa using h1,h2⟩
variable{u:Value}
theorem Vals.set{x:V}(r:RelV x u):∀{xs:List V}{us:List Value}(i:Nat),Vals xs us->Vals (xs.set i x) (us.set i u)
 |_,_,_,.nil=>.nil
 |_,_,0,.cons _ t=>.cons r t
 |_,_,i+1,.cons q t=>.cons q (Vals.set r i t)
theorem Vals.append:∀{xs ys:List V}{us ws:List Value},Vals xs us->Vals ys ws->Vals (xs++ys) (us++ws)
 |_,_,_,_,.nil,s=>s
 |_,_,_,_,.cons r t,s=>.cons r (Vals.append t s)
theorem Vals.take:∀{xs:List V}{us:List Value}(n:Nat),Vals xs us->Vals (xs.take n) (us.take n)
 |_,_,0,_=>.nil
 |_,_,_+1,.nil=>.nil
 |_,_,n+1,.cons r t=>.cons r (Vals.take n t)
theorem Vals.drop:∀{xs:List V}{us:List Value}(n:Nat),Vals xs us->Vals (xs.drop n) (us.drop n)
 |_,_,0,r=>r
 |_,_,_+1,.nil=>.nil
 |_,_,n+1,.cons _ t=>Vals.drop n t
def RelO:Option V->Option Value->Prop
 |some v,some u=>RelV v u
 |none,none=>True
 |_,_=>False
def KV{κ:Type}:List (κ×V)->List (κ×Value)->Prop:=Paired λ(p:κ×V) (q:κ×Value)=>p.1=q.1/\RelV p.2 q.2
def kV:Key->V
 | .inl i=>.int i
 | .inr x=>.str x
inductive HO where
 |lst (xs:List V)
 |tup (xs:List V)
 |dK (kvs:List (Key×V))|dT (kvs:List (List Key×V))
 |set (S:Int->Bool) (n:Nat)
 |ins (C dx:Addr) (fs:List (Str×V))
 |own (x:Addr)
 |xd (fs:List (Str×V))
 |met (f x:Addr)
 |rng (lo hi:Int)
 |frz (o:Obj) (u:HO)
 |tbl (ps:Array Value)
 |ext (φ:Heap->Prop)
abbrev Hp:=Addr->Option HO
def upd(H:Hp)(a:Addr)(o:HO):Hp:=λb=>if b=a then some o else H b
variable{H:Hp}{a:Addr}{o:HO}
theorem Ah:upd H a o a=some o:=by unfold upd;rw[if_pos rfl]
variable{b:Addr}
theorem Ag(h:b≠a):upd H a o b=H b:=by unfold upd;rw[if_neg h]
theorem Mb{u:HO}:upd (upd H a o) a u=upd H a u:=by
 funext b;unfold upd;split<;>rfl
theorem UJ{u:HO}(h:H a=some o)(h':H b=some u)(d:o≠u):a≠b:=by
 intro e;subst e;rw[h]at h';exact d (Option.some.inj h')
theorem Ao(h:H a=some o)(h':H b=none):a≠b:=by
 intro e;subst e;rw[h]at h';cases h'
section
variable(P:Program)(w:World)
def ObjOk(H:Hp)(h:Heap)(a:Addr):HO->Prop
 | .lst xs=>xs.length<=sizeLine/\∃(its:List Value) (n:Nat),Vals xs its/\h.get? a=some {cls:=.type "list",data:=.seq its.toArray n}
 | .tup xs=>xs.length<=sizeLine/\(∃its:List Value,Vals xs its/\IsTup h a its.toArray)/\∃o,h.get? a=some o/\o.dict=none
 | .dK kvs=>kvs.length<=sizeLine/\(a==sysModules)=false/\∃vs,KV kvs vs/\h.DictOf (AC P w) a vs
 | .dT kvs=>kvs.length<=sizeLine/\(a==sysModules)=false/\∃xs:List (List Key×Addr×Value),
   Paired (λ(p:List Key×V) (q:List Key×Addr×Value)=>p.1=q.1/\H q.2.1=some (.tup (p.1.map kV))/\RelV p.2 q.2.2) kvs xs/\
   ∃o es ep,h.get? a=some o/\o.ExactDict/\o.data=.dict es ep/\es.toList=xs.map (entryOfKey (tupleKind (AC P w)))/\(xs.map (·.1)).Nodup
 | .set S n=>h.SetOf (intKind P w) a S n
 | .ins C dx fs=>H dx=some (.own a)/\fs.length<=1000/\dx≠a/\h.get? a=some (instObj C dx)/\
   ∃mA,h.Ns1 dx mA/\(∀f,RelO (fs.lookup f) (mA f))/\PySem.Within mA (fs.map (·.1))
 | .own _=>∃o,h.get? a=some o
 | .xd fs=>∃mA,h.Ns1 a mA/\∀f,RelO (fs.lookup f) (mA f)
 | .rng lo hi=>∃t u v,h.get? a=some {cls:=.type "range",data:=.fields #[.int lo t,.int hi u,.int 1 v]}
 | .frz o u=>h.get? a=some o/\ObjOk H h a u
 | .tbl ps=>h.get? a=some {cls:=.none,data:=.fields ps}
 | .met f x=>h.get? a=some (methodObj (.ref f) (.ref x))
 | .ext φ=>φ h/\(∃o,h.get? a=some o)/\∀h1 h2:Heap,φ h1->(∀o,h1.get? a=some o->h2.get? a=some o)->φ h2
def HOk(H:Hp)(h:Heap):Prop:=∀a o,H a=some o->ObjOk P w H h a o
end
variable{P:Program}{w:World}{H':Hp}{h h':Heap}
theorem ObjOk.lt(x:ObjOk P w H h a o):a<h.objs.size:=by
 cases o with
 |lst xs=>obtain⟨_,_,_,_,e⟩:=x;exact Heap.lt_size e
 |tup xs=>obtain⟨_,⟨_,_,p⟩,_⟩:=x;exact p.lt
 |dK kvs=>obtain⟨_,_,_,_,o,_,_,e,_⟩:=x;exact Heap.lt_size e
 |dT kvs=>obtain⟨_,_,_,_,o,_,_,e,_⟩:=x;exact Heap.lt_size e
 |set S n=>obtain⟨o,_,_,_,e,_⟩:=x;exact Heap.lt_size e
 |ins C dx fs=>obtain⟨_,_,_,e,_⟩:=x;exact Heap.lt_size e
 |own y=>obtain⟨_,e⟩:=x;exact Heap.lt_size e
 |xd fs=>obtain⟨_,⟨_,_,_,e,_⟩,_⟩:=x;exact Heap.lt_size e
 |rng lo hi=>obtain⟨_,_,_,e⟩:=x;exact Heap.lt_size e
 |frz ob u=>obtain⟨e,_⟩:=x;exact Heap.lt_size e
 |tbl ps=>exact Heap.lt_size (show h.get? a=some _ from x)
 |met f y=>exact Heap.lt_size (show h.get? a=some _ from x)
 |ext φ=>obtain⟨_,⟨_,e⟩,_⟩:=x;exact Heap.lt_size e
theorem Paired.mapP{α β:Type}{F G:α->β->Prop}:∀{l₁:List α}{l₂:List β},Paired F l₁ l₂->(∀a b,F a b->G a b)->Paired G l₁ l₂
 |_,_,.nil,_=>.nil
 |_,_,.cons r t,f=>.cons (f _ _ r) (Paired.mapP t f)
theorem ObjOk.stay(x:ObjOk P w H h a o)(k:∀b u,(b=a\/H b=some (.own a))->h.get? b=some u->h'.get? b=some u)
  (ho:∀b,H b=some (.own a)->H' b=some (.own a))(ht:∀b xs,H b=some (.tup xs)->H' b=some (.tup xs)):ObjOk P w H' h' a o:=by
 induction o with
 |lst xs=>obtain⟨z,its,n,r,e⟩:=x;exact⟨z,its,n,r,k _ _ (.inl rfl) e⟩
 |tup xs=>obtain⟨z,⟨its,r,ob,e,c⟩,od,e2,c2⟩:=x;exact⟨z,⟨its,r,ob,k _ _ (.inl rfl) e,c⟩,od,k _ _ (.inl rfl) e2,c2⟩
 |dK kvs=>obtain⟨z,y,vs,r,ob,es,ep,e,c⟩:=x;exact⟨z,y,vs,r,ob,es,ep,k _ _ (.inl rfl) e,c⟩
 |dT kvs=>
  obtain⟨z,y,xs,r,ob,es,ep,e,c⟩:=x
  exact⟨z,y,xs,Paired.mapP r λp q z=>⟨z.1,ht _ _ z.2.1,z.2.2⟩,ob,es,ep,k _ _ (.inl rfl) e,c⟩
 |set S n=>obtain⟨ob,es,ep,t,e,c⟩:=x;exact⟨ob,es,ep,t,k _ _ (.inl rfl) e,c⟩
 |ins C dx fs=>
  obtain⟨d,z,ne,e,mA,⟨od,es,ep,e2,c⟩,r⟩:=x
  exact⟨ho _ d,z,ne,k _ _ (.inl rfl) e,mA,⟨od,es,ep,k _ _ (.inr d) e2,c⟩,r⟩
 |own y=>obtain⟨ob,e⟩:=x;exact⟨ob,k _ _ (.inl rfl) e⟩
 |xd fs=>obtain⟨mA,⟨od,es,ep,e,c⟩,r⟩:=x;exact⟨mA,⟨od,es,ep,k _ _ (.inl rfl) e,c⟩,r⟩
 |rng lo hi=>obtain⟨t,u,v,e⟩:=x;exact⟨t,u,v,k _ _ (.inl rfl) e⟩
 |frz ob u ih=>obtain⟨e,q⟩:=x;exact⟨k _ _ (.inl rfl) e,ih q⟩
 |tbl ps=>
  have e:h.get? a=some {cls:=.none,data:=.fields ps}:=x
  show h'.get? a=some {cls:=.none,data:=.fields ps}
  exact k a _ (.inl rfl) e
 |met f y=>
  have e:h.get? a=some (PySem.W.methodObj (.ref f) (.ref y)):=x
  show h'.get? a=some (PySem.W.methodObj (.ref f) (.ref y))
  exact k a _ (.inl rfl) e
 |ext φ=>obtain⟨p,⟨o,e⟩,st⟩:=x;exact⟨st _ _ p λo q=>k _ _ (.inl rfl) q,⟨o,k _ _ (.inl rfl) e⟩,st⟩
theorem HOk.lt(x:HOk P w H h)(e:H a=some o):a<h.objs.size:=(x a o e).lt
theorem HOk.fresh(x:HOk P w H h)(e:h.objs.size<=a):H a=none:=by
 cases q:H a with
 |none=>rfl
 |some u=>exact absurd (Nat.lt_of_lt_of_le (x.lt q) e) (Nat.lt_irrefl _)
theorem HOk.kept(x:HOk P w H h)(k:∀b u,h.get? b=some u->h'.get? b=some u):HOk P w H h':=λa o e=>
 (x a o e).stay (λb u _ q=>k b u q) (λ_ q=>q) λ_ _ q=>q
theorem HOk.laid(x:HOk P w H h)(k:∀b u,h.get? b=some u->h'.get? b=some u)(hp:h.objs.size<=a)(new:ObjOk P w (upd H a o) h' a o):HOk P w (upd H a o) h':=λb u e=>by
 have hn:=x.fresh hp
 by_cases hb:b=a
 .subst hb;rw[Ah]at e;cases e;exact new
 .rw[Ag hb]at e
  exact(x b u e).stay (λc v _ q=>k c v q) (λc q=>by rw[Ag (Ao q hn)];exact q) λc xs q=>by rw[Ag (Ao q hn)];exact q
def Rd(H:Hp)(a:Addr)(u:HO):Prop:=H a=some u\/∃o,H a=some (.frz o u)
theorem Rd.ok{u:HO}(r:Rd H a u)(x:HOk P w H h):ObjOk P w H h a u:=by
 rcases r with r|⟨o,r⟩
 .exact x a u r
 .obtain⟨_,q⟩:=x a _ r
  exact q
def Mut:Option HO->Prop
 |some (.lst _)=>True
 |some (.dK _)=>True
 |some (.dT _)=>True
 |some (.set _ _)=>True
 |some (.ins _ _ _)=>True
 |some (.ext _)=>True
 |_=>False
section
variable{x e:Addr}{o':HO}
theorem HOk.write(ok:HOk P w H h)(mu:Mut (H x))(he:e=x\/H e=some (.own x))(k:∀b u,b≠e->h.get? b=some u->h'.get? b=some u)(heo:∃u,h'.get? e=some u)
  (new:ObjOk P w (upd H x o') h' x o'):HOk P w (upd H x o') h':=λb u q=>by
 have nown:∀c y,H c=some (.own y)->c≠x:=λc y r z=>by subst z;rw[r]at mu;exact mu
 have ntup:∀c xs,H c=some (.tup xs)->c≠x:=λc xs r z=>by subst z;rw[r]at mu;exact mu
 by_cases hb:b=x
 .subst hb;rw[Ah]at q;cases q;exact new
 .rw[Ag hb]at q
  by_cases hbe:b=e
  .have q':H b=some (.own x):=by
    rcases he with z|z
    .exact absurd (hbe.trans z) hb
    .rw[hbe];exact z
   rw[q]at q';cases q'
   obtain⟨v,hv⟩:=heo
   exact⟨v,by rw[hbe];exact hv⟩
  .refine(ok b u q).stay (λc v hc r=>k c v ?_ r) (λc r=>by rw[Ag (nown c b r)];exact r) λc xs r=>by rw[Ag (ntup c xs r)];exact r
   rcases hc with rfl|hc
   .exact hbe
   .rintro rfl
    rcases he with z|z
    .exact nown c b hc z
    .rw[hc]at z;cases z;exact hb rfl
end
structure Un(fs ex:List Addr)(H H':Hp)(h h':Heap):Prop where
 keep:∀b o,h.get? b=some o->H b=none->b∉fs->b∉ex->h'.get? b=some o
 slot:∀b o,h.get? b=some o->H b=none->b∈fs->b∉ex->∃sl,h'.get? b=some {o with slots:=sl}
 free:∀b o,h.get? b=some o->H b=none->b∉ex->H' b=none
 there:∀b o,h.get? b=some o->b∉ex->∃o',h'.get? b=some o'
 tups:∀b xs,H b=some (.tup xs)->H' b=some (.tup xs)
 frzs:∀b o u,H b=some (.frz o u)->H' b=some (.frz o u)
 tbls:∀b ps,H b=some (.tbl ps)->∃more,H' b=some (.tbl (ps++more))
section
variable{fs fs' ex ex':List Addr}{H1 H2:Hp}{h1 h2:Heap}{x e:Addr}
theorem Un.any(u:Un fs ex H H1 h h1){ob:Obj}(q:h.get? b=some ob)(n:H b=none)(hx:b∉ex):∃sl,h1.get? b=some {ob with slots:=sl}:=by
 by_cases hb:b∈fs
 .exact u.slot b ob q n hb hx
 .exact⟨ob.slots,u.keep b ob q n hb hx⟩
theorem Un.kept(k:∀b u,h.get? b=some u->h'.get? b=some u):Un fs ex H H h h':=
 ⟨λb ob q _ _ _=>k b ob q,λb ob q _ _ _=>⟨ob.slots,k b ob q⟩,λ_ _ _ n _=>n,λb ob q _=>⟨ob,k b ob q⟩,λ_ _ q=>q,λ_ _ _ q=>q,λ_ ps q=>⟨#[],by rw[q];simp⟩⟩
theorem Un.refl:Un fs ex H H h h:=Un.kept λ_ _ q=>q
theorem Un.laid(k:∀b u,h.get? b=some u->h'.get? b=some u)(hp:h.objs.size<=a)(hn:H a=none):Un fs ex H (upd H a o) h h' where
 keep:=λb u q _ _ _=>k b u q
 slot:=λb u q _ _ _=>⟨u.slots,k b u q⟩
 free:=λb u q n _=>by rw[Ag (Nat.ne_of_lt (Nat.lt_of_lt_of_le (Heap.lt_size q) hp))];exact n
 there:=λb u q _=>⟨u,k b u q⟩
 tups:=λb xs q=>by rw[Ag (Ao q hn)];exact q
 frzs:=λb u xs q=>by rw[Ag (Ao q hn)];exact q
 tbls:=λb ps q=>⟨#[],by rw[Ag (Ao q hn),q];simp⟩
theorem Un.write(mu:Mut (H x))(he:e=x\/H e=some (.own x))(k:∀b u,b≠e->h.get? b=some u->h'.get? b=some u)(heo:∃u,h'.get? e=some u):Un fs ex H (upd H x o) h h':=by
 have hx:∀b,H b=none->b≠x:=λb n z=>by subst z;rw[n]at mu;exact mu
 have hb:∀b,H b=none->b≠e:=λb n z=>by
  subst z
  rcases he with r|r
  .exact hx b n r
  .rw[n]at r;cases r
 have hm:∀b u,H b=some u->¬Mut (some u)->b≠x:=λb u q nm z=>by subst z;rw[q]at mu;exact nm mu
 refine⟨λb u q n _ _=>k b u (hb b n) q,λb u q n _ _=>⟨u.slots,k b u (hb b n) q⟩,λb u q n _=>by rw[Ag (hx b n)];exact n,λb u q _=>?_,
  λb xs q=>by rw[Ag (hm b _ q λz=>z)];exact q,λb u xs q=>by rw[Ag (hm b _ q λz=>z)];exact q,λb ps q=>⟨#[],by rw[Ag (hm b _ q λz=>z),q];simp⟩⟩
 by_cases hbe:b=e
 .subst hbe;exact heo
 .exact⟨u,k b u hbe q⟩
end
def trk(h:Heap)(H:Hp):List Addr:=(range h.objs.size).filter λa=>(H a).isSome
def hidT(h:Heap)(H:Hp):Heap:=PySem.W.hideAll h (trk h H)
theorem No(h:Heap)(H:Hp):(hidT h H).objs.size=h.objs.size:=PySem.W.hideAll_size _ _
theorem O3{o:Obj}(e:h.get? b=some o)(n:H b=none):(hidT h H).get? b=some o:=
 PySem.W.hideAll_get _ e λhm=>by
  have q:(H b).isSome=true:=(List.mem_filter.mp hm).2
  rw[n]at q;simp at q
theorem QI{o:Obj}(e:(hidT h H).get? b=some o):h.get? b=some o/\H b=none:=by
 have e':h.get? b=some o:=PySem.W.of_hideAll (trk h H) e
 refine⟨e',?_⟩
 cases q:H b with
 |none=>rfl
 |some x=>
  have hm:b∈trk h H:=List.mem_filter.mpr ⟨mem_range.mpr (lt_size e'),by simp[q]⟩
  have z:(hidT h H).get? b=none:=PySem.W.hideAll_none (trk h H) hm
  rw[z]at e;cases e
def RD(g h:Heap)(L:Addr):List (Addr×Obj):=(range h.objs.size).filterMap λa=>if a=L\/(g.get? a).isSome=true then none else(h.get? a).map λo=>(a,o)
def rest(g h:Heap)(L d:Addr):List (Addr×Obj):=(RD g h L).filter λp=>decide (p.1≠d)
structure Mod(K:Frag)(mg:Str->Option Value)(base:Heap):Prop where
 kin:K.In base
 glob:base.Ns mainGlobals mg
 blt:∃mb,base.Ns builtinsNs mb/\∀x:Str,x≠"__name__"->mb x=bootBuiltins x
 nolimit:base.NoLimit
structure Cx where
 prog:Program
 w:World
 K:Frag
 mg:Str->Option Value
 base:Heap
 A:Around
 N:List Str
 s₀:Shared
 H₀:Hp
 env:Env
 outer:List Env
 stack:List Env
 ex:List Addr
 fn:Str->Bool
 calm:Bool
 pn:List (Addr×Obj)
 xe:Value->Shared->Prop
def frs(l:List Env):List Addr:=l.filterMap (·.frame)
abbrev Cx.fs(X:Cx):List Addr:=frs X.outer
def Vis(sc:Scope)(x:Str):Prop:=sc.names.lookup x=some .local\/sc.names.lookup x=some .cell\/sc.names.lookup x=some .free
def Loc(sc:Scope)(x:Str):Prop:=sc.names.lookup x=some .local\/sc.names.lookup x=some .cell
def Look(env:Env)(h:Heap)(m:Str->Option Value)(x:Str)(u:Value):Prop:=
 (env.kindOf x=some .local/\m x=some u)\/((env.kindOf x=some .cell\/env.kindOf x=some .free)/\∃c,env.cells.lookup x=some c/\h.IsCell c (some u))
structure Cx.Ok(X:Cx):Prop where
 mod:Mod X.K X.mg X.base
 kind:X.env.scope.kind=.function
 glob:X.env.globals=mainGlobals
 blt:X.env.builtins=builtinsNs
 above:X.s₀.heap.objs.size<=X.env.locals
 inj:∀x y c,X.env.cells.lookup x=some c->X.env.cells.lookup y=some c->x=y
 has:∀x,(X.env.kindOf x=some .cell\/X.env.kindOf x=some .free)->∃c,X.env.cells.lookup x=some c
 cab:∀x c,X.fn x=true->X.env.cells.lookup x=some c->X.s₀.heap.objs.size<=c
 hd:X.calm=true->X.A.handled=none
 frames:X.A.frames=some X.stack
 stk:X.stack=X.outer\/(X.stack=X.env::X.outer/\X.env.frame=some X.env.locals)
 exf:∀b∈X.ex,b≠X.env.locals/\∀x c,X.env.cells.lookup x=some c->c≠b
 bs:∀b o,X.base.get? b=some o->X.s₀.heap.get? b=some o/\X.H₀ b=none
 bsz:X.base.objs.size<=X.s₀.heap.objs.size
 noex:∀b o,X.base.get? b=some o->b∉X.ex
 exfs:∀b∈X.ex,b∉X.fs
 funs:X.s₀.heap.FunFrames X.base X.outer
 frf:∀b∈X.fs,X.H₀ b=none
structure Inv(X:Cx)(pins:List (Addr×Obj))(σ:List (Option V))(H:Hp)(s:Shared):Prop where
 ok:X.Ok
 os:s.os=X.s₀.os
 bare:AllBare s.gens
 base:Un X.fs X.ex X.H₀ H X.s₀.heap s.heap
 loc:∃m,s.heap.Ns X.env.locals m/\∀(i:Nat) (x:Str) (v:V),X.N[i]?=some x->σ[i]?=some (some v)->Vis X.env.scope x->∃u,RelV v u/\Look X.env s.heap m x u
 cell:∀x c,X.env.cells.lookup x=some c->∃v,s.heap.IsCell c v
 free:H X.env.locals=none
 freeC:∀x c,X.env.cells.lookup x=some c->H c=none
 pin:∀p∈X.pn++pins,s.heap.get? p.1=some p.2/\H p.1=none/\p.1≠X.env.locals/\p.1∉X.fs/\∀v,p.2.data≠.cell v
 hok:HOk X.prog X.w H s.heap
 len:σ.length=X.N.length
variable{X:Cx}{pins:List (Addr×Obj)}{s:Shared}
section
variable{σ:List (Option V)}
theorem Cx.Ok.nofr(ok:X.Ok){o:Obj}(e:X.base.get? b=some o):b∉X.fs:=λhb=>by
 have:=(ok.funs.mem hb).1
 rw[e]at this;cases this
theorem Inv.bs(I:Inv X pins σ H s):∀b o,X.base.get? b=some o->s.heap.get? b=some o/\H b=none:=λb o e=>
 ⟨I.base.keep b o (I.ok.bs b o e).1 (I.ok.bs b o e).2 (I.ok.nofr e) (I.ok.noex b o e),I.base.free b o (I.ok.bs b o e).1 (I.ok.bs b o e).2 (I.ok.noex b o e)⟩
theorem Inv.bk(I:Inv X pins σ H s):∀b o,X.base.get? b=some o->s.heap.get? b=some o:=λb o e=>(I.bs b o e).1
theorem Inv.mod(I:Inv X pins σ H s):Mod X.K X.mg X.base:=I.ok.mod
theorem Inv.kIn(I:Inv X pins σ H s):X.K.In s.heap:=I.ok.mod.kin.keeps I.bk
theorem Inv.nolimit(I:Inv X pins σ H s):s.heap.NoLimit:=I.ok.mod.nolimit.keeps I.bk
theorem Inv.lt(I:Inv X pins σ H s):X.env.locals<s.heap.objs.size:=let⟨_,hn,_⟩:=I.loc;hn.lt
theorem Inv.sz(I:Inv X pins σ H s):X.s₀.heap.objs.size<=s.heap.objs.size:=Nat.le_trans I.ok.above (Nat.le_of_lt I.lt)
theorem Inv.nofs(I:Inv X pins σ H s)(h:s.heap.objs.size<=a):a∉X.fs:=λhb=>by
 obtain⟨_,o,ho,_⟩:=I.ok.funs.mem hb
 exact absurd (Nat.lt_of_lt_of_le (Heap.lt_size ho) (Nat.le_trans I.sz h)) (Nat.lt_irrefl _)
theorem Inv.cne(I:Inv X pins σ H s):∀x c,X.env.cells.lookup x=some c->c≠X.env.locals:=λx c e z=>by
 obtain⟨v,o,ho,hd⟩:=I.cell x c e
 obtain⟨m,⟨o',es,ep,ho',hd',_⟩,_⟩:=I.loc
 rw[z,ho']at ho;cases ho;rw[hd']at hd;cases hd
theorem Inv.funs(I:Inv X pins σ H s):s.heap.FunFrames X.base X.outer:=by
 have all:∀(l:List Env),(∀b∈frs l,b∈X.fs)->X.s₀.heap.FunFrames X.base l->s.heap.FunFrames X.base l:=by
  intro l
  induction l with
  |nil=>intro _ _;trivial
  |cons env r ih=>
   intro hs hl
   obtain⟨hk,⟨L,o,hf,hn,ho,hd⟩,hr⟩:=hl
   have hL:L∈X.fs:=hs L (by unfold frs;rw[List.filterMap_cons,hf];exact List.mem_cons_self)
   obtain⟨sl,e⟩:=I.base.slot L o ho (I.ok.frf L hL) hL λz=>I.ok.exfs L z hL
   exact⟨hk,⟨L,_,hf,hn,e,hd⟩,ih (λb hb=>hs b (by unfold frs;rw[List.filterMap_cons,hf];exact List.mem_cons_of_mem _ hb)) hr⟩
 exact all X.outer (λ_ hb=>hb) I.ok.funs
theorem Inv.stack(I:Inv X pins σ H s):s.heap.FunFrames X.base X.stack:=by
 rcases I.ok.stk with e|⟨e,hf⟩
 .rw[e];exact I.funs
 .rw[e]
  obtain⟨m,hn,_⟩:=I.loc
  refine .cons (by rw[I.ok.kind];decide) hf hn ?_ I.funs
  exact Heap.get?_none_of_le (Nat.le_trans I.ok.bsz I.ok.above)
theorem Inv.stkSub(I:Inv X pins σ H s):∀b∈frs X.stack,b∈X.env.locals::X.fs:=λb hb=>by
 rcases I.ok.stk with e|⟨e,hf⟩
 .rw[e]at hb;exact List.mem_cons_of_mem _ hb
 .rw[e]at hb
  unfold frs at hb
  rw[List.filterMap_cons,hf]at hb
  exact hb
theorem Inv.stkFree(I:Inv X pins σ H s):∀b∈frs X.stack,H b=none:=λb hb=>by
 rcases List.mem_cons.mp (I.stkSub b hb)with e|hb
 .rw[e];exact I.free
 .obtain⟨_,o,ho,_⟩:=I.ok.funs.mem hb
  exact I.base.free b o ho (I.ok.frf b hb) λz=>I.ok.exfs b z hb
theorem Inv.step{g':Array GenState}{t':Nat}{d':Drawn}{ch:List Addr}(I:Inv X pins σ H s)
  (hch:∀b∈ch,(b∈X.ex\/X.s₀.heap.objs.size<=b)/\b≠X.env.locals/\(∀x c,X.env.cells.lookup x=some c->c≠b)/\∀p∈X.pn++pins,p.1≠b)
  (keep:∀b o,b≠X.env.locals->b∉X.fs->b∉ch->s.heap.get? b=some o->H b=none->h'.get? b=some o)
  (slot:∀b o,b≠X.env.locals->b∈X.fs->b∉ch->s.heap.get? b=some o->H b=none->∃sl,h'.get? b=some {o with slots:=sl})(free:∀b o,b∉ch->s.heap.get? b=some o->H b=none->H' b=none)
  (there:∀b o,b∉ch->s.heap.get? b=some o->∃o',h'.get? b=some o')
  (tups:∀b xs,H b=some (.tup xs)->H' b=some (.tup xs))(frzs:∀b o u,H b=some (.frz o u)->H' b=some (.frz o u))(tbls:∀b ps,H b=some (.tbl ps)->∃more,H' b=some (.tbl (ps++more)))
  (ns:∀m,s.heap.Ns X.env.locals m->h'.Ns X.env.locals m)(hok:HOk X.prog X.w H' h')(hg:AllBare g'):
  Inv X pins σ H' {s with heap:=h',gens:=g',drawn:=d',toks:=t'}:=by
 have neL:∀b o,X.s₀.heap.get? b=some o->b≠X.env.locals:=λb o e=>Nat.ne_of_lt (Nat.lt_of_lt_of_le (Heap.lt_size e) I.ok.above)
 have neC:∀b o,X.s₀.heap.get? b=some o->b∉X.ex->b∉ch:=λb o e hx hb=>by
  rcases(hch b hb).1 with z|z
  .exact hx z
  .exact absurd (Nat.lt_of_lt_of_le (Heap.lt_size e) z) (Nat.lt_irrefl _)
 have cellK:∀x c,X.env.cells.lookup x=some c->∀v,s.heap.IsCell c v->h'.IsCell c v:=λx c e v ⟨o,ho,hd⟩=>by
  have nch:c∉ch:=λz=>(hch c z).2.2.1 x c e rfl
  by_cases hc:c∈X.fs
  .obtain⟨sl,q⟩:=slot c o (I.cne x c e) hc nch ho (I.freeC x c e)
   exact⟨_,q,hd⟩
  .exact⟨o,keep c o (I.cne x c e) hc nch ho (I.freeC x c e),hd⟩
 refine⟨I.ok,I.os,hg,⟨λb o e n hb hx=>?_,λb o e n hb hx=>?_,λb o e n hx=>?_,λb o e hx=>?_,λb xs e=>tups b xs (I.base.tups b xs e),λb o xs e=>frzs b o xs (I.base.frzs b o xs e),λb ps e=>?_⟩,?_,λx c e=>?_,?_,λx c e=>?_,λp hp=>?_,hok,I.len⟩
 .exact keep b o (neL b o e) hb (neC b o e hx) (I.base.keep b o e n hb hx) (I.base.free b o e n hx)
 .obtain⟨sl,e1⟩:=I.base.slot b o e n hb hx
  obtain⟨sl',e2⟩:=slot b _ (neL b o e) hb (neC b o e hx) e1 (I.base.free b o e n hx)
  exact⟨sl',e2⟩
 .obtain⟨o',e1⟩:=I.base.there b o e hx
  exact free b o' (neC b o e hx) e1 (I.base.free b o e n hx)
 .obtain⟨o',e1⟩:=I.base.there b o e hx
  exact there b o' (neC b o e hx) e1
 .obtain⟨m1,e1⟩:=I.base.tbls b ps e
  obtain⟨m2,e2⟩:=tbls b _ e1
  exact⟨m1++m2,by rw[e2,Array.append_assoc]⟩
 .obtain⟨m,hn,hl⟩:=I.loc
  refine⟨m,ns m hn,λi x v e1 e2 e3=>?_⟩
  obtain⟨u,r,l⟩:=hl i x v e1 e2 e3
  refine⟨u,r,?_⟩
  rcases l with l|⟨k,c,e,z⟩
  .exact .inl l
  .exact .inr ⟨k,c,e,cellK x c e _ z⟩
 .obtain⟨v,z⟩:=I.cell x c e
  exact⟨v,cellK x c e v z⟩
 .obtain⟨m,⟨o,_,_,ho,_⟩,_⟩:=I.loc
  exact free _ o (λz=>(hch _ z).2.1 rfl) ho I.free
 .obtain⟨v,o,ho,hd⟩:=I.cell x c e
  exact free c o (λz=>(hch c z).2.2.1 x c e rfl) ho (I.freeC x c e)
 .obtain⟨e,n,ne,nf,d⟩:=I.pin p hp
  have nch:p.1∉ch:=λz=>(hch p.1 z).2.2.2 p hp rfl
  exact⟨keep p.1 p.2 ne nf nch e n,free p.1 p.2 nch e n,ne,nf,d⟩
theorem Inv.un{t':Nat}(I:Inv X pins σ H s)(u:Un X.fs [] H H' s.heap h')(hok:HOk X.prog X.w H' h'):Inv X pins σ H' {s with heap:=h',toks:=t'}:=by
 obtain⟨m,⟨o,es,ep,ho,r⟩,_⟩:=id I.loc
 obtain⟨sl,hL⟩:=u.any ho I.free (by simp)
 exact I.step (g':=s.gens) (d':=s.drawn) (ch:=[]) (λ_ z=>nomatch z) (λb o _ hb _ e n=>u.keep b o e n hb (by simp)) (λb o _ hb _ e n=>u.slot b o e n hb (by simp)) (λb o _ e n=>u.free b o e n (by simp)) (λb o _ e=>u.there b o e (by simp)) u.tups u.frzs u.tbls (λm' hm=>by
  obtain⟨o',es',ep',ho',r'⟩:=hm
  rw[ho]at ho';cases ho'
  exact⟨_,es',ep',hL,r'⟩) hok I.bare
theorem Inv.call{g':Array GenState}{t':Nat}{d':Drawn}{ch:List Addr}(I:Inv X pins σ H s)(u:Un (frs X.stack) ch H H' s.heap h')(hok:HOk X.prog X.w H' h')(hg:AllBare g')
  (hch:∀b∈ch,(b∈X.ex\/X.s₀.heap.objs.size<=b)/\b≠X.env.locals/\(∀x c,X.env.cells.lookup x=some c->c≠b)/\∀p∈X.pn++pins,p.1≠b):
  Inv X pins σ H' {s with heap:=h',gens:=g',drawn:=d',toks:=t'}:=by
 obtain⟨m,⟨o,es,ep,ho,r⟩,_⟩:=id I.loc
 obtain⟨sl,hL⟩:=u.any ho I.free λz=>(hch _ z).2.1 rfl
 exact I.step (ch:=ch) hch (λb o hL hb hc e n=>u.keep b o e n (λz=>(List.mem_cons.mp (I.stkSub b z)).elim hL hb) hc) (λb o _ _ hc e n=>u.any e n hc) (λb o hc e n=>u.free b o e n hc) (λb o hc e=>u.there b o e hc) u.tups u.frzs u.tbls (λm' hm=>by
  obtain⟨o',es',ep',ho',r'⟩:=hm
  rw[ho]at ho';cases ho'
  exact⟨_,es',ep',hL,r'⟩) hok hg
theorem Inv.turned{t':Nat}{it:Addr}(I:Inv X pins σ H s)(k:∀b o,b≠it->s.heap.get? b=some o->h'.get? b=some o)(hn:H it=none)(hL:it≠X.env.locals)
  (h1:it∈X.ex\/X.s₀.heap.objs.size<=it)(h2:∀x c,X.env.cells.lookup x=some c->c≠it)(h3:∀p∈X.pn++pins,p.1≠it):Inv X pins σ H {s with heap:=h',toks:=t'}:=by
 have nit:∀b u,H b=some u->b≠it:=λb u e z=>by rw[z,hn]at e;cases e
 refine I.step (g':=s.gens) (d':=s.drawn) (ch:=[it]) (λb hb=>?_) (λb o _ _ hc e _=>k b o (λz=>hc (by simp[z])) e) (λb o _ _ hc e _=>⟨o.slots,k b o (λz=>hc (by simp[z])) e⟩) (λ_ _ _ _ n=>n)
  (λb o hc e=>⟨o,k b o (λz=>hc (by simp[z])) e⟩) (λ_ _ e=>e) (λ_ _ _ e=>e) (λb ps e=>⟨#[],by rw[e];simp⟩) (λm hm=>?_) (λb u e=>?_) I.bare
 .have e:b=it:=by simpa using hb
  subst e
  exact⟨h1,hL,h2,h3⟩
 .obtain⟨o,es,ep,ho,r⟩:=hm
  exact⟨o,es,ep,k _ o (Ne.symm hL) ho,r⟩
 .refine(I.hok b u e).stay (λc v hc q=>k c v ?_ q) (λ_ q=>q) λ_ _ q=>q
  rcases hc with z|z
  .rw[z];exact nit b u e
  .exact nit c _ z
theorem Inv.tok(I:Inv X pins σ H s)(t:Nat):Inv X pins σ H {s with toks:=t}:=I.un (h':=s.heap) (t':=t) Un.refl I.hok
theorem Inv.kept{t':Nat}(I:Inv X pins σ H s)(k:∀b u,s.heap.get? b=some u->h'.get? b=some u):Inv X pins σ H {s with heap:=h',toks:=t'}:=I.un (Un.kept k) (I.hok.kept k)
theorem Inv.laid{t':Nat}(I:Inv X pins σ H s)(k:∀b u,s.heap.get? b=some u->h'.get? b=some u)(hp:s.heap.objs.size<=a)(new:ObjOk X.prog X.w (upd H a o) h' a o):
  Inv X pins σ (upd H a o) {s with heap:=h',toks:=t'}:=I.un (Un.laid k hp (I.hok.fresh hp)) (I.hok.laid k hp new)
theorem Inv.write{x e:Addr}{t':Nat}(I:Inv X pins σ H s)(mu:Mut (H x))(he:e=x\/H e=some (.own x))(k:∀b u,b≠e->s.heap.get? b=some u->h'.get? b=some u)(heo:∃u,h'.get? e=some u)
  (new:ObjOk X.prog X.w (upd H x o) h' x o):Inv X pins σ (upd H x o) {s with heap:=h',toks:=t'}:=I.un (Un.write mu he k heo) (I.hok.write mu he k heo new)
theorem Inv.weak{σ':List (Option V)}(I:Inv X pins σ H s)(hl:σ'.length=σ.length)(w:∀(i:Nat) v,σ'[i]?=some (some v)->σ[i]?=some (some v)):Inv X pins σ' H s:=
 ⟨I.ok,I.os,I.bare,I.base,let⟨m,hn,hl'⟩:=I.loc;⟨m,hn,λi x v e1 e2 e3=>hl' i x v e1 (w i v e2) e3⟩,I.cell,I.free,I.freeC,I.pin,I.hok,hl.trans I.len⟩
theorem Inv.pins_of{pins':List (Addr×Obj)}(I:Inv X pins σ H s)(h:∀p∈pins',s.heap.get? p.1=some p.2/\H p.1=none/\p.1≠X.env.locals/\p.1∉X.fs/\∀v,p.2.data≠.cell v):Inv X pins' σ H s:=
 ⟨I.ok,I.os,I.bare,I.base,I.loc,I.cell,I.free,I.freeC,λp hp=>(List.mem_append.mp hp).elim (λz=>I.pin p (List.mem_append_left _ z)) (h p),I.hok,I.len⟩
theorem Jf{N:List Str}(hN:N.Nodup){i j:Nat}{x:Str}(a:N[i]?=some x)(b:N[j]?=some x):i=j:=by
 obtain⟨h1,e1⟩:=List.getElem?_eq_some_iff.mp a
 obtain⟨h2,e2⟩:=List.getElem?_eq_some_iff.mp b
 exact(List.getElem_inj hN).mp (e1.trans e2.symm)
abbrev Zlo(X:Cx)(x:Str):Prop:=X.fn x=true\/X.env.scope.names.lookup x=some .local
theorem Nu{M:Model}{A:Around}{E:Value->Shared->Prop}{i:Nat}{x:Str}{v:V}{Q:Unit->Shared->Prop}(I:Inv X pins σ H s)(hN:X.N.Nodup)(hi:X.N[i]?=some x)(hx:Loc X.env.scope x)(r:RelV v u)
  (h:∀s',Inv X pins (σ.set i (some v)) H s'->(∃a,SameBut a s.heap s'.heap/\(a=X.env.locals\/X.env.cells.lookup x=some a))->Q () s')(hf:Zlo X x:=by first|exact .inl rfl|exact .inr rfl|assumption):wpAny M A (storeName X.env x u) Q E s:=by
 obtain⟨m,hn,hl⟩:=id I.loc
 have hcls:(X.env.scope.kind==.class||(X.env.scope.kind==.module&&X.env.locals != X.env.globals))=false:=by rw[I.ok.kind];rfl
 have hiσ:i<σ.length:=by rw[I.len];exact(List.getElem?_eq_some_iff.mp hi).1
 have cne:=I.cne
 have tracked:∀{a:Addr}{h':Heap},(∃o,s.heap.get? a=some o/\H a=none)->SameBut a s.heap h'->HOk X.prog X.w H h':=λ{a h'} ha hs b ob e=>by
  obtain⟨_,_,hfree⟩:=ha
  refine(I.hok b ob e).stay (λc w' hc q=>(hs.2 c ?_).trans q) (λ_ q=>q) λ_ _ q=>q
  rintro rfl
  rcases hc with rfl|hc
  .rw[hfree]at e;cases e
  .rw[hfree]at hc;cases hc
 rcases hx with hk|hk
 .refine wpAny_storeName_local hk hn (λh' hn' hs=>?_) hcls
  obtain⟨oL,_,_,hoL,_⟩:=id hn
  refine h _ ⟨I.ok,I.os,I.bare,⟨λb o e n hb hx=>?_,λb o e n hb hx=>?_,I.base.free,λb o e hx=>?_,I.base.tups,I.base.frzs,I.base.tbls⟩,⟨_,hn',λj y v' e1 e2 e3=>?_⟩,λy c e=>?_,I.free,I.freeC,λp hp=>?_,tracked ⟨oL,hoL,I.free⟩ hs,by simpa using I.len⟩ ⟨_,hs,.inl rfl⟩
  .exact(hs.2 b (ne_of_lt (lt_of_lt_of_le (lt_size e) I.ok.above))).trans (I.base.keep b o e n hb hx)
  .obtain⟨sl,e1⟩:=I.base.slot b o e n hb hx
   exact⟨sl,(hs.2 b (ne_of_lt (lt_of_lt_of_le (lt_size e) I.ok.above))).trans e1⟩
  .obtain⟨o',e1⟩:=I.base.there b o e hx
   exact⟨o',(hs.2 b (ne_of_lt (lt_of_lt_of_le (lt_size e) I.ok.above))).trans e1⟩
  .by_cases hj:j=i
   .subst hj
    rw[hi]at e1;cases e1
    rw[getElem?_set_self hiσ]at e2
    cases e2
    exact⟨u,r,.inl ⟨hk,by simp⟩⟩
   .rw[getElem?_set_ne (symm hj)]at e2
    obtain⟨u',r',q⟩:=hl j y v' e1 e2 e3
    refine⟨u',r',?_⟩
    rcases q with⟨k,e⟩|⟨k,c,e,z⟩
    .refine .inl ⟨k,?_⟩
     have:y≠x:=λe=>hj (Jf hN e1 (e▸hi))
     simp[this,e]
    .exact .inr ⟨k,c,e,z.sameBut hs (cne y c e)⟩
  .obtain⟨w',z⟩:=I.cell y c e
   exact⟨w',z.sameBut hs (cne y c e)⟩
  .obtain⟨e,n,ne,nf,d⟩:=I.pin p hp
   exact⟨(hs.2 p.1 ne).trans e,n,ne,nf,d⟩
 .have hfn:X.fn x=true:=by
   rcases hf with z|z
   .exact z
   .rw[z]at hk;cases hk
  obtain⟨c,hc⟩:=I.ok.has x (.inl hk)
  obtain⟨w',z⟩:=I.cell x c hc
  refine wpAny_storeName_cell I.ok.kind hk hc z (λh' hc' hs=>?_)
  obtain⟨oc,hoc,hocd⟩:=id z
  refine h {s with heap:=h'} ⟨I.ok,I.os,I.bare,⟨λb o e n hb hx=>?_,λb o e n hb hx=>?_,I.base.free,λb o e hx=>?_,I.base.tups,I.base.frzs,I.base.tbls⟩,⟨m,hn.sameBut hs (symm (cne x c hc)),λj y v' e1 e2 e3=>?_⟩,λy c' e=>?_,I.free,I.freeC,λp hp=>?_,tracked ⟨oc,hoc,I.freeC x c hc⟩ hs,by simpa using I.len⟩ ⟨c,hs,.inr hc⟩
  .exact(hs.2 b (ne_of_lt (lt_of_lt_of_le (lt_size e) (I.ok.cab x c hfn hc)))).trans (I.base.keep b o e n hb hx)
  .obtain⟨sl,e1⟩:=I.base.slot b o e n hb hx
   exact⟨sl,(hs.2 b (ne_of_lt (lt_of_lt_of_le (lt_size e) (I.ok.cab x c hfn hc)))).trans e1⟩
  .obtain⟨o',e1⟩:=I.base.there b o e hx
   exact⟨o',(hs.2 b (ne_of_lt (lt_of_lt_of_le (lt_size e) (I.ok.cab x c hfn hc)))).trans e1⟩
  .by_cases hj:j=i
   .subst hj
    rw[hi]at e1;cases e1
    rw[getElem?_set_self hiσ]at e2
    cases e2
    exact⟨u,r,.inr ⟨.inl hk,c,hc,hc'⟩⟩
   .rw[getElem?_set_ne (symm hj)]at e2
    obtain⟨u',r',q⟩:=hl j y v' e1 e2 e3
    refine⟨u',r',?_⟩
    rcases q with q|⟨k,c',e,z'⟩
    .exact .inl q
    .refine .inr ⟨k,c',e,z'.sameBut hs ?_⟩
     rintro rfl
     exact hj (Jf hN e1 (I.ok.inj _ _ _ e hc▸hi))
  .by_cases hcc:c'=c
   .subst hcc;exact⟨_,hc'⟩
   .obtain⟨w2,z2⟩:=I.cell y c' e
    exact⟨w2,z2.sameBut hs hcc⟩
  .obtain⟨e,n,ne,nf,d⟩:=I.pin p hp
   refine⟨(hs.2 p.1 ?_).trans e,n,ne,nf,d⟩
   intro q
   rw[q,hoc]at e
   have q':oc=p.2:=Option.some.inj e
   exact d w' (by rw[<-q'];exact hocd)
theorem EZ{M:Model}{A:Around}{E:Value->Shared->Prop}{i:Nat}{x:Str}{v:V}{Q:Unit->Shared->Prop}(I:Inv X pins σ H s)(hN:X.N.Nodup)(hi:X.N[i]?=some x)(hx:Loc X.env.scope x)(r:RelV v u)
  (h:∀s',Inv X pins (σ.set i (some v)) H s'->Q () s')(hf:Zlo X x:=by first|exact .inl rfl|exact .inr rfl|assumption):wpAny M A (storeName X.env x u) Q E s:=
 Nu I hN hi hx r (λs' I' _=>h s' I') hf
theorem Inv.call'{s':Shared}{ch:List Addr}(I:Inv X pins σ H s)(ho:s'.os=s.os)(u:Un (frs X.stack) ch H H' s.heap s'.heap)(hok:HOk X.prog X.w H' s'.heap)(hg:AllBare s'.gens)
  (hch:∀b∈ch,(b∈X.ex\/X.s₀.heap.objs.size<=b)/\b≠X.env.locals/\(∀x c,X.env.cells.lookup x=some c->c≠b)/\∀p∈X.pn++pins,p.1≠b):Inv X pins σ H' s':=by
 obtain⟨h',g',d',t',o'⟩:=s'
 have e:o'=s.os:=ho
 subst e
 exact I.call (g':=g') (t':=t') (d':=d') u hok hg hch
end
abbrev XK:=Value->Option Addr->Hp->Prop
abbrev St:=List (Option V)
abbrev VK:=V->Hp->Prop
abbrev TE:=St->Hp->VK->Prop
abbrev TT:=St->Hp->(Bool->Hp->Prop)->Prop
abbrev TA:=St->Hp->(List V->Hp->Prop)->Prop
structure Ends where
 nx:St->Hp->Prop
 rt:VK
 bk:St->Hp->Prop:=λ_ _=>False
 ct:St->Hp->Prop:=λ_ _=>False
abbrev TS:=Ends->St->Hp->Prop
def EP(X:Cx)(pins:List (Addr×Obj))(σ:St)(Q:VK)(u:Value)(s':Shared):Prop:=∃v H',Inv X pins σ H' s'/\RelV v u/\Q v H'
def TP(X:Cx)(pins:List (Addr×Obj))(σ:St)(Q:Bool->Hp->Prop)(b:Bool)(s':Shared):Prop:=∃H',Inv X pins σ H' s'/\Q b H'
def AP(X:Cx)(pins:List (Addr×Obj))(σ:St)(Q:List V->Hp->Prop)(us:List Value)(s':Shared):Prop:=∃vs H',Inv X pins σ H' s'/\Vals vs us/\Q vs H'
def SP(X:Cx)(pins:List (Addr×Obj))(D:Ends)(f:Flow)(s':Shared):Prop:=
 match f with
 | .next=>∃σ' H',Inv X pins σ' H' s'/\D.nx σ' H'
 | .brk=>∃σ' H',Inv X pins σ' H' s'/\D.bk σ' H'
 | .cont=>∃σ' H',Inv X pins σ' H' s'/\D.ct σ' H'
 | .ret u=>∃v σ' H',Inv X pins σ' H' s'/\RelV v u/\D.rt v H'
def PE(X:Cx)(e:Expr)(t:TE):Prop:=
 ∀(pins:List (Addr×Obj)) (s:Shared) (σ:St) (H:Hp) (Q:VK),Inv X pins σ H s->t σ H Q->wpAny (model X.prog X.w) X.A (eval e X.env) (EP X pins σ Q) X.xe s
def PT(X:Cx)(e:Expr)(t:TT):Prop:=
 ∀(pins:List (Addr×Obj)) (s:Shared) (σ:St) (H:Hp) (Q:Bool->Hp->Prop),Inv X pins σ H s->t σ H Q->wpAny (model X.prog X.w) X.A (isTrue e X.env (eval e X.env)) (TP X pins σ Q) X.xe s
def PW(X:Cx)(e:Expr)(t:TT):Prop:=
 ∀(whole:Sem Value) (pins:List (Addr×Obj)) (s:Shared) (σ:St) (H:Hp) (Q:Bool->Hp->Prop),Inv X pins σ H s->t σ H Q->wpAny (model X.prog X.w) X.A (isTrue e X.env whole) (TP X pins σ Q) X.xe s
variable{e:Expr}
theorem PW.pt{t:TT}(h:PW X e t):PT X e t:=h _
def PA(X:Cx)(es:List Expr)(t:TA):Prop:=
 ∀(pos:Pos) (pins:List (Addr×Obj)) (s:Shared) (σ:St) (H:Hp) (Q:List V->Hp->Prop),Inv X pins σ H s->t σ H Q->wpAny (model X.prog X.w) X.A (spliced (backTo pos (starEach es X.env))) (AP X pins σ Q) X.xe s
def PS(X:Cx)(st:Stmt)(t:TS):Prop:=
 ∀(pins:List (Addr×Obj)) (s:Shared) (σ:St) (H:Hp) (D:Ends),Inv X pins σ H s->t D σ H->wpAny (model X.prog X.w) X.A (exec st X.env) (SP X pins D) X.xe s
def PSs(X:Cx)(st:List Stmt)(t:TS):Prop:=
 ∀(pins:List (Addr×Obj)) (s:Shared) (σ:St) (H:Hp) (D:Ends),Inv X pins σ H s->t D σ H->wpAny (model X.prog X.w) X.A (execs st X.env) (SP X pins D) X.xe s
variable{M:Model}{A:Around}{E:Value->Shared->Prop}
theorem thn{α:Type}{t:Sem α}{Q Q':α->Shared->Prop}(h:wpAny M A t Q E s)(hQ:∀a s,Q a s->Q' a s):wpAny M A t Q' E s:=wpAny_mono h hQ λ_ _ x=>x
variable{ta:TE}{pos:Pos}
section
def tVar(i:Nat):TE:=λσ H Q=>∃v,σ[i]?=some (some v)/\Q v H
def tC(v:V):TE:=λ_ H Q=>Q v H
theorem SC{i:Nat}{x:Str}{pos:Pos}(hN:X.N[i]?=some x)(hv:Vis X.env.scope x)(hd:(x==("__debug__":Str))=false:=by decide)(hcd:(x==("__classdict__":Str))=false:=by decide):PE X (.Name x pos) (tVar i):=by
 intro pins s σ H Q I h
 obtain⟨v,e,h⟩:=h
 obtain⟨m,hn,hl⟩:=I.loc
 obtain⟨u,r,l⟩:=hl i x v hN e hv
 have fin:EP X pins σ Q u s:=⟨v,H,I,r,h⟩
 rcases l with⟨hk,hm⟩|⟨hk,c,hc,hcell⟩
 .exact wpAny_Name (wpAny_loadName_local I.ok.kind hk hn hm fin) hd
 .rcases hk with hk|hk
  .exact wpAny_Name (wpAny_loadName_cell I.ok.kind hk hc hcell fin) hd
  .exact wpAny_Name (wpAny_loadName_free I.ok.kind hk hc hcell fin hcd) hd
theorem pe_int{i j pos}:PE X (.Constant (.int i) j pos) (tC (.int i)):=λ_ _ _ H _ I h=>wpAny_Constant_int ⟨.int i,H,I.tok _,⟨_,rfl⟩,h⟩
theorem pe_bl{b j pos}:PE X (.Constant (.bool b) j pos) (tC (.bl b)):=λ_ _ _ H _ I h=>Constant_bool ⟨.bl b,H,I,rfl,h⟩
theorem pe_non{j pos}:PE X (.Constant .none j pos) (tC .non):=λ_ _ _ H _ I h=>Constant_none ⟨.non,H,I,rfl,h⟩
theorem pe_str{x j pos}:PE X (.Constant (.str x) j pos) (tC (.str x)):=λ_ _ _ H _ I h=>Calls.Constant_str ⟨.str x,H,I.tok _,⟨_,rfl⟩,h⟩
def Gl(X:Cx)(x:Str):Prop:=X.env.kindOf x=some .globalImplicit
theorem Gb{σ:St}{x:Str}{pos:Pos}{Q:Value->Shared->Prop}(I:Inv X pins σ H s)(hg:Gl X x)(hm:X.mg x=some u)(h:Q u s)
  (hd:(x==("__debug__":Str))=false:=by decide):wpAny (model X.prog X.w) X.A (eval (.Name x pos) X.env) Q E s:=
 Calls.Name_function_global I.ok.kind hg (Calls.loadGlobal_global (by rw[I.ok.glob];exact I.mod.glob.keeps I.bk) hm h) hd
theorem Dw{σ:St}{x:Str}{pos:Pos}{Q:Value->Shared->Prop}(I:Inv X pins σ H s)(hg:Gl X x)(hm:X.mg x=none)(hv:bootBuiltins x=some u)(h:Q u s)
  (hn:x≠"__name__":=by decide)(hd:(x==("__debug__":Str))=false:=by decide):wpAny (model X.prog X.w) X.A (eval (.Name x pos) X.env) Q E s:=by
 obtain⟨mb,h1,h2⟩:=I.mod.blt
 exact Calls.Name_function_global I.ok.kind hg (Calls.loadGlobal_builtin (by rw[I.ok.glob];exact I.mod.glob.keeps I.bk) hm (by rw[I.ok.blt];exact h1.keeps I.bk) ((h2 x hn).trans hv) h) hd
theorem FY{x:Str}{v:V}{pos:Pos}(hg:Gl X x)(hm:X.mg x=some u)(r:RelV v u)(hd:(x==("__debug__":Str))=false:=by decide):PE X (.Name x pos) (tC v):=
 λ_ _ _ H _ I h=>Gb I hg hm ⟨v,H,I,r,h⟩ hd
theorem Ra{x:Str}{v:V}{pos:Pos}(hg:Gl X x)(hm:X.mg x=none)(hv:bootBuiltins x=some u)(r:RelV v u)(hn:x≠"__name__":=by decide)(hd:(x==("__debug__":Str))=false:=by decide):PE X (.Name x pos) (tC v):=
 λ_ _ _ H _ I h=>Dw I hg hm hv ⟨v,H,I,r,h⟩ hn hd
variable{a b:Expr}{tb:TE}
def PC(X:Cx)(op:CmpOp)(a b:Expr)(t:TE):Prop:=
 ∀(pins:List (Addr×Obj)) (s:Shared) (σ:St) (H:Hp) (Q:VK),Inv X pins σ H s->t σ H Q->
  wpAny (model X.prog X.w) X.A (eval a X.env) (λv s₁=>wpAny (model X.prog X.w) X.A (eval b X.env) (λu s₂=>wpAny (model X.prog X.w) X.A (compareOp op v u) (EP X pins σ Q) X.xe s₂) X.xe s₁) X.xe s
theorem Os(b:Expr){op:CmpOp}(h:op≠.In)(h2:op≠.NotIn):behindInMarks op b=false:=by
 have e1:(op==CmpOp.In)=false:=by cases op<;>first|rfl|exact absurd rfl h
 have e2:(op==CmpOp.NotIn)=false:=by cases op<;>first|rfl|exact absurd rfl h2
 cases b<;>simp[behindInMarks,e1,e2]
def tIsN(ta:TE):TE:=λσ H Q=>ta σ H λx H1=>Q (.bl (decide (x=.non))) H1
theorem RelV.none_iff{x:V}{v:Value}(r:RelV x v):(v==Value.none)=decide (x=.non):=by
 cases x with
 |non=>cases r;rfl
 |bl _=>cases r;rfl
 |int _=>obtain⟨t,rfl⟩:=r;rfl
 |str _=>obtain⟨t,rfl⟩:=r;rfl
 |byt _=>obtain⟨t,rfl⟩:=r;rfl
 |flt _=>obtain⟨t,rfl⟩:=r;rfl
 |ref _=>cases r;rfl
 |ty _=>cases r;rfl
theorem TN{j pos'}(ha:PE X a ta):PC X .Is a (.Constant .none j pos') (tIsN ta):=by
 intro pins s σ H Q I h
 refine thn (ha pins s σ H _ I h) λv s1 ⟨x,H1,I1,r1,q1⟩=>?_
 exact Constant_none (is_none_gen ⟨.bl _,H1,I1,by rw[r1.none_iff];rfl,q1⟩)
def tB(t:TE):TT:=λσ H Q=>t σ H λx H1=>∃c,x=.bl c/\Q c H1
theorem T5{op:CmpOp}{t:TE}(h:PC X op a b t)(h1:behindInMarks op b=false:=by first|exact Os _ (by decide) (by decide)|rfl):PT X (.Compare a [op] [b] pos) (tB t):=by
 intro pins s σ H Q I hw
 refine wpAny_isTrue_Compare1 (thn (h pins s σ H _ I hw) λv s1 h1=>thn h1 λu s2 h2=>thn h2 λc s3 ⟨x,H1,I1,r1,q1⟩=>?_) h1
 obtain⟨d,rfl,q⟩:=q1
 cases r1
 exact wpAny_truthy_bool ⟨H1,I1,q⟩
theorem Tv{t:TE}(h:PE X e t)(he:∀whole,isTrue e X.env whole=(do let v <-whole;standAt e.pos;holding [v] (truthy v)):=by intro _;rfl):PT X e (tB t):=by
 intro pins s σ H Q I hw
 refine isTrue_plain (thn (h pins s σ H _ I hw) λv s1 ⟨x,H1,I1,r1,q1⟩=>?_) (he _)
 obtain⟨d,rfl,q⟩:=q1
 cases r1
 exact wpAny_truthy_bool ⟨H1,I1,q⟩
variable{tA tB':TT}{rest:List Expr}
def tAnd(t u:TT):TT:=λσ H Q=>t σ H λc H1=>if c=true then u σ H1 Q else Q false H1
def tOr(t u:TT):TT:=λσ H Q=>t σ H λc H1=>if c=true then Q true H1 else u σ H1 Q
def tNot(t:TT):TT:=λσ H Q=>t σ H λc H1=>Q (!c) H1
theorem Rm(ha:PT X a tA):PW X (.BoolOp .And [a] pos) tA:=by
 intro wh pins s σ H Q I h
 refine isTrue_and (thn (ha pins s σ H Q I h) λc s1 e=>?_)
 cases c with
 |true=>exact isTrue_and_nil e
 |false=>exact e
theorem SK(ha:PT X a tA):PW X (.BoolOp .Or [a] pos) tA:=by
 intro wh pins s σ H Q I h
 refine isTrue_or (thn (ha pins s σ H Q I h) λc s1 e=>?_)
 cases c with
 |false=>exact isTrue_or_nil e
 |true=>exact e
theorem TM(ha:PT X a tA)(hb:PW X (.BoolOp .And (b::rest) pos) tB'):PW X (.BoolOp .And (a::b::rest) pos) (tAnd tA tB'):=by
 intro wh pins s σ H Q I h
 refine isTrue_and (thn (ha pins s σ H _ I h) λc s1 ⟨H1,I1,q1⟩=>?_)
 cases c with
 |true=>exact hb wh pins s1 σ H1 Q I1 q1
 |false=>exact⟨H1,I1,q1⟩
theorem Uu(ha:PT X a tA)(hb:PW X (.BoolOp .Or (b::rest) pos) tB'):PW X (.BoolOp .Or (a::b::rest) pos) (tOr tA tB'):=by
 intro wh pins s σ H Q I h
 refine isTrue_or (thn (ha pins s σ H _ I h) λc s1 ⟨H1,I1,q1⟩=>?_)
 cases c with
 |true=>exact⟨H1,I1,q1⟩
 |false=>exact hb wh pins s1 σ H1 Q I1 q1
theorem SX(ha:PT X a tA):PT X (.UnaryOp .Not a pos) (tNot tA):=by
 intro pins s σ H Q I h
 exact isTrue_not (ha pins s σ H (λc H1=>Q (!c) H1) I h)
def Ue(ta tb:TE):TE:=λσ H Q=>ta σ H λx H1=>∃c,x=.bl c/\if c=true then tb σ H1 Q else Q (.bl false) H1
def tOrV(ta tb:TE):TE:=λσ H Q=>ta σ H λx H1=>∃c,x=.bl c/\if c=true then Q (.bl true) H1 else tb σ H1 Q
def U2(ta:TE):TE:=λσ H Q=>ta σ H λx H1=>∃c,x=.bl c/\Q (.bl (!c)) H1
theorem Tp{op}{t:TE}(h:PE X a t):PE X (.BoolOp op [a] pos) t:=λpins s σ H Q I hw=>BoolOp_one (h pins s σ H Q I hw)
theorem S3(ha:PE X a ta)(hb:PE X (.BoolOp .And (b::rest) pos) tb):PE X (.BoolOp .And (a::b::rest) pos) (Ue ta tb):=by
 intro pins s σ H Q I h
 refine BoolOp_and (thn (ha pins s σ H _ I h) λv s1 ⟨x,H1,I1,r1,q1⟩=>?_)
 obtain⟨c,rfl,q1⟩:=q1
 cases r1
 refine wpAny_truthy_bool ?_
 cases c with
 |true=>exact hb pins s1 σ H1 Q I1 q1
 |false=>exact⟨.bl false,H1,I1,rfl,q1⟩
theorem UI(ha:PE X a ta)(hb:PE X (.BoolOp .Or (b::rest) pos) tb):PE X (.BoolOp .Or (a::b::rest) pos) (tOrV ta tb):=by
 intro pins s σ H Q I h
 refine BoolOp_or (thn (ha pins s σ H _ I h) λv s1 ⟨x,H1,I1,r1,q1⟩=>?_)
 obtain⟨c,rfl,q1⟩:=q1
 cases r1
 refine wpAny_truthy_bool ?_
 cases c with
 |false=>exact hb pins s1 σ H1 Q I1 q1
 |true=>exact⟨.bl true,H1,I1,rfl,q1⟩
theorem TB(ha:PE X a ta):PE X (.UnaryOp .Not a pos) (U2 ta):=by
 intro pins s σ H Q I h
 refine UnaryOp_ (thn (ha pins s σ H _ I h) λv s1 ⟨x,H1,I1,r1,q1⟩=>?_)
 obtain⟨c,rfl,q1⟩:=q1
 cases r1
 exact not_of (wpAny_truthy_bool ⟨.bl (!c),H1,I1,rfl,q1⟩)
end
def SqL(K:Frag)(H:Hp)(a:Addr)(xs:List V):Prop:=
 Rd H a (.lst xs)\/
  ∃(o:Obj) (its:Array Value) (n:Nat),K.lookup a=some o/\o.cls=.type "list"/\o.dict=none/\o.data=.seq its n/\its.size<=sizeLine/\Vals xs its.toList
def SqT(K:Frag)(H:Hp)(a:Addr)(xs:List V):Prop:=
 Rd H a (.tup xs)\/
  ∃(o:Obj) (its:Array Value) (n:Nat),K.lookup a=some o/\o.cls=.type "tuple"/\o.data=.seq its n/\o.dict=none/\its.size<=sizeLine/\Vals xs its.toList
def absV:Value->Option V
 | .none=>some .non
 | .bool b=>some (.bl b)
 | .int i _=>some (.int i)
 | .str x _=>some (.str x)
 | .bytes b _=>some (.byt b)
 | .float b _=>some (.flt b)
 | .ref a=>some (.ref a)
 | .type n=>some (.ty n)
 |_=>none
theorem RelV.abs{x:V}(r:RelV x u):absV u=some x:=by
 cases x with
 |non=>cases r;rfl
 |bl _=>cases r;rfl
 |int _=>obtain⟨t,rfl⟩:=r;rfl
 |str _=>obtain⟨t,rfl⟩:=r;rfl
 |byt _=>obtain⟨t,rfl⟩:=r;rfl
 |flt _=>obtain⟨t,rfl⟩:=r;rfl
 |ref _=>cases r;rfl
 |ty _=>cases r;rfl
theorem RelV.inj{x y:V}(r:RelV x u)(q:RelV y u):x=y:=Option.some.inj (r.abs.symm.trans q.abs)
theorem Vals.inj:∀{xs ys:List V}{us:List Value},Vals xs us->Vals ys us->xs=ys
 |_,_,_,.nil,.nil=>rfl
 |_,_,_,.cons r t,.cons r' t'=>by rw[r.inj r',Vals.inj t t']
variable{σ:St}{xs:List V}
section
variable{ys:List V}
theorem SqL.of{K:PySem.W.Frag}(h:H a=some (.lst xs)):SqL K H a xs:=.inl (.inl h)
theorem SqT.of{K:PySem.W.Frag}(h:H a=some (.tup xs)):SqT K H a xs:=.inl (.inl h)
theorem Inv.list(I:Inv X pins σ H s)(h:SqL X.K H a xs):∃its:List Value,Vals xs its/\PlainL s.heap a its.toArray/\xs.length<=sizeLine:=by
 rcases h with h|⟨o,its,n,hk,hc,hd,hs,hz,r⟩
 .obtain⟨z,its,n,r,e⟩:=h.ok I.hok
  exact⟨its,r,⟨_,n,e,rfl,rfl,rfl⟩,z⟩
 .refine⟨its.toList,r,⟨o,n,I.kIn a o hk,hc,hd,by simpa using hs⟩,?_⟩
  have e:=r.length
  simp only[Array.length_toList]at e
  omega
theorem Inv.tuple(I:Inv X pins σ H s)(h:SqT X.K H a xs):∃its:List Value,Vals xs its/\IsTup s.heap a its.toArray/\xs.length<=sizeLine:=by
 rcases h with h|⟨o,its,n,hk,hc,hs,hd0,hz,r⟩
 .obtain⟨z,⟨its,r,p⟩,_⟩:=h.ok I.hok
  exact⟨its,r,p,z⟩
 .refine⟨its.toList,r,⟨o,I.kIn a o hk,hc,n,by simpa using hs⟩,?_⟩
  have e:=r.length
  simp only[Array.length_toList]at e
  omega
theorem Inv.list_inj(I:Inv X pins σ H s)(h:SqL X.K H a xs)(h':SqL X.K H a ys):xs=ys:=by
 obtain⟨its,r,⟨o,n,e,_,_,d⟩,_⟩:=I.list h
 obtain⟨its',r',⟨o',n',e',_,_,d'⟩,_⟩:=I.list h'
 rw[e]at e';cases e'
 rw[d]at d'
 injection d' with d1 _
 have:its=its':=by simpa using congrArg Array.toList d1
 subst this
 exact r.inj r'
theorem Inv.tuple_inj(I:Inv X pins σ H s)(h:SqT X.K H a xs)(h':SqT X.K H a ys):xs=ys:=by
 obtain⟨its,r,⟨o,e,_,n,d⟩,_⟩:=I.tuple h
 obtain⟨its',r',⟨o',e',_,n',d'⟩,_⟩:=I.tuple h'
 rw[e]at e';cases e'
 rw[d]at d'
 injection d' with d1 _
 have:its=its':=by simpa using congrArg Array.toList d1
 subst this
 exact r.inj r'
end
abbrev Cx.wish(X:Cx)(E:Value->Shared->Prop):Cx:={X with xe:=E}
abbrev Cx.nox(X:Cx):Cx:=X.wish λ_ _=>False
theorem Cx.Ok.wish(ok:X.Ok)(E:Value->Shared->Prop):(X.wish E).Ok:=
 ⟨ok.mod,ok.kind,ok.glob,ok.blt,ok.above,ok.inj,ok.has,ok.cab,ok.hd,ok.frames,ok.stk,ok.exf,ok.bs,ok.bsz,ok.noex,ok.exfs,ok.funs,ok.frf⟩
theorem Cx.Ok.unwish(ok:(X.wish E).Ok):X.Ok:=
 ⟨ok.mod,ok.kind,ok.glob,ok.blt,ok.above,ok.inj,ok.has,ok.cab,ok.hd,ok.frames,ok.stk,ok.exf,ok.bs,ok.bsz,ok.noex,ok.exfs,ok.funs,ok.frf⟩
theorem Inv.wish(I:Inv X pins σ H s)(E:Value->Shared->Prop):Inv (X.wish E) pins σ H s:=⟨I.ok.wish E,I.os,I.bare,I.base,I.loc,I.cell,I.free,I.freeC,I.pin,I.hok,I.len⟩
theorem Inv.unwish(I:Inv (X.wish E) pins σ H s):Inv X pins σ H s:=⟨I.ok.unwish,I.os,I.bare,I.base,I.loc,I.cell,I.free,I.freeC,I.pin,I.hok,I.len⟩
theorem SP.unwish{D:Ends}{f:Flow}{s':Shared}(h:SP (X.wish E) pins D f s'):SP X pins D f s':=by
 cases f with
 |next=>obtain⟨σ',H',I,q⟩:=h;exact⟨σ',H',I.unwish,q⟩
 |brk=>obtain⟨σ',H',I,q⟩:=h;exact⟨σ',H',I.unwish,q⟩
 |cont=>obtain⟨σ',H',I,q⟩:=h;exact⟨σ',H',I.unwish,q⟩
 |ret u=>obtain⟨v,σ',H',I,r,q⟩:=h;exact⟨v,σ',H',I.unwish,r,q⟩
theorem PSs.nox{st:List Stmt}{t:TS}(h:PSs X.nox st t):PSs X st t:=λpins s σ H D I hw=>
 wpAny_mono (h pins s σ H D (I.wish _) hw) (λ_ _ q=>q.unwish) λ_ _ z=>False.elim z
variable{te:TE}
section
variable{st:Stmt}{rest:List Stmt}{t u:TS}
def UB:TS:=λD σ H=>D.nx σ H
def tSeq(t u:TS):TS:=λD σ H=>t {D with nx:=u D} σ H
theorem pss_nil:PSs X [] UB:=λ_ _ σ H _ I h=>wpAny_execs_nil ⟨σ,H,I,h⟩
theorem As(h1:PS X st t)(h2:PSs X rest u):PSs X (st::rest) (tSeq t u):=by
 intro pins s σ H D I h
 refine wpAny_execs_cons (thn (h1 pins s σ H {D with nx:=u D} I h) λf s1 q=>?_)
 cases f with
 |next=>
  obtain⟨σ',H',I',q⟩:=q
  exact h2 pins s1 σ' H' D I' q
 |ret v=>exact q
 |brk=>exact q
 |cont=>exact q
theorem M7(h1:PS X st t):PSs X [st] t:=by
 intro pins s σ H D I h
 refine wpAny_execs_cons (thn (h1 pins s σ H D I h) λf s1 q=>?_)
 cases f with
 |next=>exact wpAny_execs_nil q
 |ret v=>exact q
 |brk=>exact q
 |cont=>exact q
theorem Inv.quiet(I:Inv X pins σ H s):interactive X.env=false:=by simp[interactive,I.ok.kind]
def Uc(te:TE):TS:=λD σ H=>te σ H λ_ H1=>D.nx σ H1
theorem Cu(he:PE X e te)(hs:swapsWith e none pos.line X.env=pure false:=by rfl):PS X (.Expr e pos) (Uc te):=by
 intro pins s σ H D I h
 exact wpAny_Expr_any (thn (he pins s σ H _ I h) λv s1 ⟨x,H1,I1,r1,q1⟩=>⟨σ,H1,I1,q1⟩) I.quiet hs
def tRet(te:TE):TS:=λD σ H=>te σ H D.rt
theorem Ek(he:PE X e te):PS X (.Return (some e) pos) (tRet te):=by
 intro pins s σ H D I h
 exact wpAny_Return_some (thn (he pins s σ H _ I h) λv s1 ⟨x,H1,I1,r1,q1⟩=>⟨x,σ,H1,I1,r1,q1⟩)
def tIfS(c:TT)(t u:TS):TS:=λD σ H=>c σ H λb H1=>if b=true then t D σ H1 else u D σ H1
theorem BG{c:Expr}{a b:List Stmt}{tc:TT}(hc:PT X c tc)(ha:PSs X a t)(hb:PSs X b u):PS X (.If c a b pos) (tIfS tc t u):=by
 intro pins s σ H D I h
 refine wpAny_If (thn (hc pins s σ H _ I h) λd s1 ⟨H1,I1,q1⟩=>?_)
 cases d with
 |true=>exact ha pins s1 σ H1 D I1 q1
 |false=>exact hb pins s1 σ H1 D I1 q1
def Q5:TS:=λ_ _ _=>False
theorem A2{sts:List Stmt}:PSs X sts Q5:=λ_ _ _ _ _ _ h=>h.elim
end
abbrev TG:=V->St->Hp->(St->Hp->Prop)->Prop
abbrev TGs:=List V->St->Hp->(St->Hp->Prop)->Prop
def PG(X:Cx)(target:Expr)(t:TG):Prop:=
 ∀(pins:List (Addr×Obj)) (s:Shared) (σ:St) (H:Hp) (v:V) (u:Value) (Q:St->Hp->Prop),Inv X pins σ H s->RelV v u->t v σ H Q->
  wpAny (model X.prog X.w) X.A (assign target X.env u) (λ_ s'=>∃σ' H',Inv X pins σ' H' s'/\Q σ' H') X.xe s
def PGs(X:Cx)(ts:List Expr)(t:TGs):Prop:=
 ∀(pins:List (Addr×Obj)) (s:Shared) (σ:St) (H:Hp) (vs:List V) (us:List Value) (Q:St->Hp->Prop),Inv X pins σ H s->Vals vs us->t vs σ H Q->
  wpAny (model X.prog X.w) X.A (assignInOrder ((assignEach ts X.env).map (·.2)) us) (λ_ s'=>∃σ' H',Inv X pins σ' H' s'/\Q σ' H') X.xe s
abbrev TSet:=V->V->V->Hp->(Hp->Prop)->Prop
def PSet(X:Cx)(t:TSet):Prop:=
 ∀(pins:List (Addr×Obj)) (s:Shared) (σ:St) (H:Hp) (o i v:V) (ov iv u:Value) (Q:Hp->Prop),Inv X pins σ H s->RelV o ov->RelV i iv->RelV v u->t o i v H Q->
  wpAny (model X.prog X.w) X.A (setItem ov iv u) (λ_ s'=>∃H',Inv X pins σ H' s'/\Q H') X.xe s
abbrev TIp:=V->V->Hp->VK->Prop
def PIp(X:Cx)(op:Operator)(t:TIp):Prop:=
 ∀(pins:List (Addr×Obj)) (s:Shared) (σ:St) (H:Hp) (x y:V) (v u:Value) (Q:VK),Inv X pins σ H s->RelV x v->RelV y u->t x y H Q->
  wpAny (model X.prog X.w) X.A (inplaceOp op v u) (EP X pins σ Q) X.xe s
def BI(i:Nat):TG:=λv σ H Q=>Q (σ.set i (some v)) H
theorem Ay{i:Nat}{x:Str}(hN:X.N.Nodup)(hi:X.N[i]?=some x)(hx:Loc X.env.scope x)(hf:Zlo X x:=by first|exact .inl rfl|exact .inr rfl|assumption):PG X (.Name x pos) (BI i):=by
 intro pins s σ H v u Q I r h
 exact wpAny_assign_Name (EZ I hN hi hx r (λs' I'=>⟨_,H,I',h⟩) hf)
def gNil:TGs:=λvs σ H Q=>vs=[]/\Q σ H
def JK(t:TG)(u:TGs):TGs:=λvs σ H Q=>∃v r,vs=v::r/\t v σ H λσ' H'=>u r σ' H' Q
theorem Bv:PGs X [] gNil:=by
 intro pins s σ H vs us Q I r h
 obtain⟨e,h⟩:=h
 subst e
 cases r
 exact assignInOrder_nil ⟨σ,H,I,h⟩
theorem A3{es:List Expr}{t:TG}{u:TGs}(h1:PG X e t)(h2:PGs X es u)
  (hs:(assignEach (e::es) X.env).map (·.2)=assign e X.env::(assignEach es X.env).map (·.2):=by rfl):PGs X (e::es) (JK t u):=by
 intro pins s σ H vs us Q I r h
 obtain⟨v,vr,e1,h⟩:=h
 subst e1
 cases r with
 |cons r rr=>
  rw[hs]
  refine assignInOrder_cons (thn (h1 pins s σ H _ _ _ I r h) λ_ s1 ⟨σ1,H1,I1,q1⟩=>?_)
  exact h2 pins s1 σ1 H1 _ _ Q I1 rr q1
def gTup(K:Frag)(n:Nat)(t:TGs):TG:=λv σ H Q=>∃a xs,v=.ref a/\SqT K H a xs/\xs.length=n/\t xs σ H Q
theorem Cn{es:List Expr}{k:Nat}{t:TGs}{n:Nat}(hc:X.calm=true)(h:PGs X es t)
  (hn:(assignEach es X.env).length=n:=by rfl)(hst:(assignEach es X.env).findIdx? (·.1)=none:=by rfl):PG X (.Tuple es k pos) (gTup X.K n t):=by
 intro pins s σ H v u Q I r hw
 obtain⟨a,xs,e1,hq,hl,hw⟩:=hw
 subst e1
 cases r
 obtain⟨its,rv,ht,hz⟩:=I.tuple hq
 refine assign_Tuple_tuple (I.ok.hd hc) ht (by simp[hn,<-hl,rv.length]) hst λh' hx=>?_
 have I1:Inv X pins σ H {s with heap:=h'}:=I.kept (t':=s.toks) λb o e=>hx b o (ne_of_lt (lt_size e)) e
 exact h pins _ σ H xs _ Q I1 (by simpa using rv) hw
def gSub(to ti:TE)(t:TSet):TG:=λv σ H Q=>to σ H λo H1=>ti σ H1 λi H2=>t o i v H2 λH3=>Q σ H3
theorem Pu{o i:Expr}{to ti:TE}{t:TSet}(ho:PE X o to)(hi:PE X i ti)(hs:PSet X t)
  (ha:∀v,assign (.Subscript o i pos) X.env v=(do
   let ov <-holding [v] (eval o X.env)
   let iv <-holding [v,ov] (eval i X.env)
   standAt pos
   holding [v,ov,iv] (setItem ov iv v)
   release [v,ov,iv] []):=by intro _;rfl):PG X (.Subscript o i pos) (gSub to ti t):=by
 intro pins s σ H v u Q I r h
 rw[ha]
 refine wpAny_bind (wpAny_holding (thn (ho pins s σ H _ I h) λov s1 ⟨x,H1,I1,r1,q1⟩=>?_))
 refine wpAny_bind (wpAny_holding (thn (hi pins s1 σ H1 _ I1 q1) λiv s2 ⟨y,H2,I2,r2,q2⟩=>?_))
 refine wpAny_bind (wpAny_standAt (wpAny_bind (wpAny_holding (thn (hs pins s2 σ H2 x y v ov iv u _ I2 r1 r2 r q2) λ_ s3 ⟨H3,I3,q3⟩=>?_))))
 exact wpAny_release ⟨σ,H3,I3,q3⟩
def tAsg(te:TE)(g:TG):TS:=λD σ H=>te σ H λx H1=>g x σ H1 D.nx
theorem Ez{tg:Expr}{g:TG}(he:PE X e te)(hg:PG X tg g)(hs:swapsWithSole [tg] e pos.line X.env=pure false:=by rfl)(hw:swappedStores [tg] e X.env=pure none:=by rfl)
  (h1:(assignEach [tg] X.env).map (·.2)=[assign tg X.env]:=by rfl):PS X (.Assign [tg] e pos) (tAsg te g):=by
 intro pins s σ H D I h
 refine wpAny_Assign_stores (thn (he pins s σ H _ I h) λv s1 ⟨x,H1,I1,r1,q1⟩=>?_) hs hw
 rw[h1]
 exact thn (hg pins s1 σ H1 x v _ I1 r1 q1) λ_ s2 q=>q
theorem Bn{i:Nat}{x:Str}{pos':Pos}(hN:X.N.Nodup)(hi:X.N[i]?=some x)(hx:Loc X.env.scope x)(he:PE X e te)(hs:swapsWith e (some (.Name x pos')) pos.line X.env=pure false:=by rfl)(hf:Zlo X x:=by first|exact .inl rfl|exact .inr rfl|assumption):
  PS X (.Assign [.Name x pos'] e pos) (tAsg te (BI i)):=by
 intro pins s σ H D I h
 refine wpAny_Assign_Name (thn (he pins s σ H _ I h) λv s1 ⟨y,H1,I1,r1,q1⟩=>?_) hs
 exact EZ I1 hN hi hx r1 (λs2 I2=>⟨_,H1,I2,q1⟩) hf
def tAug(i:Nat)(te:TE)(ti:TIp):TS:=λD σ H=>∃x,σ[i]?=some (some x)/\te σ H λy H1=>ti x y H1 λz H2=>D.nx (σ.set i (some z)) H2
theorem TR{i:Nat}{x:Str}{op:Operator}{ti:TIp}{pos':Pos}(hN:X.N.Nodup)(hi:X.N[i]?=some x)(hx:Loc X.env.scope x)(he:PE X e te)(ho:PIp X op ti)(hf:Zlo X x:=by first|exact .inl rfl|exact .inr rfl|assumption):
  PS X (.AugAssign (.Name x pos') op e pos) (tAug i te ti):=by
 intro pins s σ H D I h
 obtain⟨v,e1,h⟩:=h
 obtain⟨m,hn,hl⟩:=I.loc
 have vis:Vis X.env.scope x:=by rcases hx with k|k;exact .inl k;exact .inr (.inl k)
 obtain⟨u,r,l⟩:=hl i x v hi e1 vis
 refine wpAny_AugAssign_Name ?_
 have go:wpAny (model X.prog X.w) X.A (eval e X.env) (λw s₂=>wpAny (model X.prog X.w) X.A (inplaceOp op u w) (λr s₃=>wpAny (model X.prog X.w) X.A (storeName X.env x r) (λ_=>SP X pins D .next) X.xe s₃) X.xe s₂) X.xe s:=by
  refine thn (he pins s σ H _ I h) λw s1 ⟨y,H1,I1,r1,q1⟩=>?_
  refine thn (ho pins s1 σ H1 v y u w _ I1 r r1 q1) λz s2 ⟨zv,H2,I2,r2,q2⟩=>?_
  exact EZ I2 hN hi hx r2 (λs3 I3=>⟨_,H2,I3,q2⟩) hf
 rcases l with⟨hk,hm⟩|⟨hk,c,hc,hcell⟩
 .exact wpAny_loadName_local I.ok.kind hk hn hm go
 .rcases hk with hk|hk
  .exact wpAny_loadName_cell I.ok.kind hk hc hcell go
  .rcases hx with k|k
   .have:X.env.scope.names.lookup x=some .free:=hk
    rw[k]at this;cases this
   .have:X.env.scope.names.lookup x=some .free:=hk
    rw[k]at this;cases this
def SH(c:TT)(tb:TS):TS:=λD σ H=>∃W:Nat->St->Hp->Prop,(∃m,W m σ H)/\∀m σ H,W m σ H->
 c σ H λb H1=>if b=true then ∃N:St->Hp->Prop,(∀σ' H',N σ' H'->∃m',m'<m/\W m' σ' H')/\tb {D with nx:=N,ct:=N,bk:=D.nx} σ H1 else D.nx σ H1
theorem Px{c:Expr}{body:List Stmt}{tc:TT}{tb:TS}(hp:PassesOwn (model X.prog X.w) X.A X.env X.xe)(hc:PT X c tc)(hb:PSs X body tb):PS X (.While c body [] pos) (SH tc tb):=by
 intro pins s σ H D I h
 obtain⟨W,⟨m0,w0⟩,turn⟩:=h
 refine wpAny_While (codeAny_whileLoop (λn s'=>∃σ' H',Inv X pins σ' H' s'/\W n σ' H') ?_ m0 ⟨σ,H,I,w0⟩)
 rintro n s1 ⟨σ1,H1,I1,w1⟩
 refine wpAny_passesOwn hp (thn (hc pins s1 σ1 H1 _ I1 (turn n σ1 H1 w1)) λb s2 ⟨H2,I2,q2⟩=>?_)
 cases b with
 |true=>
  obtain⟨N,hN,q2⟩:=q2
  rw[if_pos rfl]
  refine wpAny_passesOwn hp (thn (hb pins s2 σ1 H2 _ I2 q2) λf s3 q3=>?_)
  cases f with
  |next=>
   obtain⟨σ3,H3,I3,n3⟩:=q3
   obtain⟨m',hm,w3⟩:=hN σ3 H3 n3
   exact⟨m',hm,σ3,H3,I3,w3⟩
  |cont=>
   obtain⟨σ3,H3,I3,n3⟩:=q3
   obtain⟨m',hm,w3⟩:=hN σ3 H3 n3
   exact⟨m',hm,σ3,H3,I3,w3⟩
  |brk=>exact q3
  |ret v=>exact q3
 |false=>
  rw[if_neg Bool.false_ne_true]
  exact wpAny_execs_nil ⟨σ1,H2,I2,q2⟩
structure It where
 go:Nat->Hp->Prop
 yld:Nat->Hp->V->Hp->Prop
 stop:Nat->Hp->Prop
def FpOk(X:Cx)(pins:List (Addr×Obj))(H:Hp)(b:Addr):Prop:=
 H b=none/\b≠X.env.locals/\b∉X.fs/\(b∈X.ex\/X.s₀.heap.objs.size<=b)/\(∀x c,X.env.cells.lookup x=some c->c≠b)/\∀p∈X.pn++pins,p.1≠b
theorem Inv.fpOk(I:Inv X pins σ H s)(hb:s.heap.objs.size<=b)(hn:H' b=none):FpOk X pins H' b:=by
 refine⟨hn,Nat.ne_of_gt (Nat.lt_of_lt_of_le I.lt hb),I.nofs hb,.inr (Nat.le_trans I.sz hb),λx c e z=>?_,λp hp z=>?_⟩
 .obtain⟨v,q⟩:=I.cell x c e
  exact absurd (Nat.lt_of_lt_of_le q.lt (by rw[z];exact hb)) (Nat.lt_irrefl _)
 .exact absurd (Nat.lt_of_lt_of_le (Heap.lt_size (I.pin p hp).1) (by rw[z];exact hb)) (Nat.lt_irrefl _)
structure Turn(P:Program)(w:World)(K:Frag)(tg:Expr)(J:It)(fp:List Addr)(it:Addr)(tn:Nat->Heap->Prop):Prop where
 mem:it∈fp
 obj:∀i h,tn i h->∀b∈fp,∃o,h.get? b=some o/\∀v,o.data≠.cell v
 keep:∀i h h',tn i h->(∀b∈fp,∀o,h.get? b=some o->h'.get? b=some o)->tn i h'
 item:∀(X:Cx),X.prog=P->X.w=w->X.K=K->X.calm=true->∀(i:Nat) (pins:List (Addr×Obj)) (s:Shared) (σ:St) (H:Hp) (E:Value->Shared->Prop),Inv X pins σ H s->(∀b∈fp,FpOk X pins H b)->tn i s.heap->J.go i H->
  wpAny (model P w) X.A (pyNext (.ref it)) (λr s1=>∃u,r=some u/\
   wpAny (model P w) X.A (letOwnedTupleGo tg (.ref it) u) (λ_ s2=>∃x H',Inv X pins σ H' s2/\RelV x u/\J.yld i H x H'/\tn (i+1) s2.heap/\∀b∈fp,H' b=none) E s1) E s
 done:∀(X:Cx),X.prog=P->X.w=w->X.K=K->X.calm=true->∀(i:Nat) (pins:List (Addr×Obj)) (s:Shared) (σ:St) (H:Hp) (E:Value->Shared->Prop),Inv X pins σ H s->(∀b∈fp,FpOk X pins H b)->tn i s.heap->J.stop i H->
  wpAny (model P w) X.A (pyNext (.ref it)) (λr s1=>r=none/\Inv X pins σ H s1) E s
 self:∀(A:Around) (i:Nat) (s:Shared) (Q:Value->Shared->Prop) (E:Value->Shared->Prop),tn i s.heap->Q (.ref it) s->wpAny (model P w) A (pyIter (.ref it)) Q E s
abbrev TI:=St->Hp->(It->Hp->Prop)->Prop
def PIE(X:Cx)(pins:List (Addr×Obj))(σ:St)(tg:Expr)(R:It->Hp->Prop)(itv:Value)(s2:Shared):Prop:=
 ∃(it:Addr) (fp:List Addr) (tn:Nat->Heap->Prop) (J:It) (H':Hp),itv=.ref it/\Inv X pins σ H' s2/\Turn X.prog X.w X.K tg J fp it tn/\tn 0 s2.heap/\(∀b∈fp,FpOk X pins H' b)/\R J H'
def PI(X:Cx)(tg iter:Expr)(wi:TI):Prop:=
 ∀(pins:List (Addr×Obj)) (s:Shared) (σ:St) (H:Hp) (R:It->Hp->Prop),Inv X pins σ H s->wi σ H R->
  wpAny (model X.prog X.w) X.A (eval iter X.env) (λv s1=>wpAny (model X.prog X.w) X.A (pyIter v) (PIE X pins σ tg R) X.xe s1) X.xe s
variable{tg:Expr}
theorem Qq{it:Addr}{o:Obj}{n:String}{vs:Array Value}{Q:Unit->Shared->Prop}(ho:s.heap.get? it=some o)(hc:o.cls=.type n)(hd:o.data=.fields vs)
  (hn:["enumerate","zip","dict_itemiterator","dict_reverseitemiterator","odict_iterator","itertools.zip_longest","itertools.pairwise"].contains n=false)(hQ:Q () s):wpAny M A (letOwnedTupleGo tg (.ref it) u) Q E s:=by
 unfold letOwnedTupleGo
 cases tg<;>first
  |exact wpAny_pure hQ
  |(cases u<;>first
   |exact wpAny_pure hQ
   |(refine wpAny_bind (wpAny_load ho ?_)
     rw[hc,hd]
     show wpAny M A (if(["enumerate","zip","dict_itemiterator","dict_reverseitemiterator","odict_iterator","itertools.zip_longest","itertools.pairwise"].contains n&&vs[0]?==some (rawInt _))=true then _ else _) Q E s
     rw[if_neg (by intro h;rw[hn,Bool.false_and]at h;cases h)]
     exact wpAny_pure hQ))
def Itl(K:Frag)(a:Addr):It:=
 ⟨λi H=>∃xs x,SqL K H a xs/\xs[i]?=some x,λi H x H'=>H'=H/\∀xs,SqL K H a xs->xs[i]?=some x,λi H=>∃xs,SqL K H a xs/\xs.length<=i⟩
def Itr(lo:Int)(n:Nat):It:=⟨λi _=>i<n,λi H x H'=>H'=H/\x=.int (lo+i),λi _=>n<=i⟩
variable{K:Frag}
theorem NF(a it:Addr):Turn P w K tg (Itl K a) [it] it (λi h=>h.IsListIter it a i)where
 mem:=by simp
 obj:=λi h st b hb=>by
  have e:b=it:=by simpa using hb
  subst e
  obtain⟨o,e,c,d⟩:=st
  exact⟨o,e,λv z=>by rw[d]at z;cases z⟩
 keep:=λi h h' st k=>st.at λo e=>k it (by simp) o e
 item:=by
  intro X hP hw hK hc i pins s σ H E I hf st hg
  subst hP hw hK
  obtain⟨xs,x,hq,hx⟩:=hg
  obtain⟨its,rv,p,hz⟩:=I.list hq
  obtain⟨u,hu,ru⟩:=rv.get hx
  obtain⟨f0,f1,f2,f3,f4,f5⟩:=hf it (by simp)
  refine wpAny_pyNext_list_item st p.isList (x:=u) (by simpa using hu) λh' st' sb=>?_
  have I1:Inv X pins σ H {s with heap:=h'}:=I.turned (t':=s.toks) (λb o hb e=>(sb.2 b hb).trans e) f0 f1 f3 f4 f5
  obtain⟨o,e,c,d⟩:=id st'
  exact⟨u,rfl,Qq (s:={s with heap:=h'}) e c d (by decide) ⟨x,H,I1,ru,⟨rfl,λys hy=>by rw[I.list_inj hy hq];exact hx⟩,st',λb hb=>(hf b hb).1⟩⟩
 done:=by
  intro X hP hw hK hc i pins s σ H E I hf st hg
  subst hP hw hK
  obtain⟨xs,hq,hx⟩:=hg
  obtain⟨its,rv,p,hz⟩:=I.list hq
  obtain⟨f0,f1,f2,f3,f4,f5⟩:=hf it (by simp)
  have hl:=rv.length
  exact wpAny_pyNext_list_end (I.ok.hd hc) st p.isList (by simp;omega) λh' eb=>⟨rfl,I.turned (t':=s.toks) (λb o hb e=>eb b o hb e) f0 f1 f3 f4 f5⟩
 self:=λ_ _ _ _ _ st h=>wpAny_pyIter_listiter st h
theorem Ks(it:Addr)(lo:Int)(n:Nat):Turn P w K tg (Itr lo n) [it] it (λi h=>IsRangeIter h it (lo+(i:Nat)*1) ((n:Int)- (i:Nat)) 1)where
 mem:=by simp
 obj:=λi h st b hb=>by
  have e:b=it:=by simpa using hb
  subst e
  exact⟨_,st,λv z=>by
   have z':Data.fields _=Data.cell v:=z
   cases z'⟩
 keep:=λi h h' st k=>k it (by simp) _ st
 item:=by
  intro X hP hw hK hc i pins s σ H E I hf st hg
  subst hP hw hK
  obtain⟨f0,f1,f2,f3,f4,f5⟩:=hf it (by simp)
  have W:=Walks.range (prog:=X.prog) (w:=X.w) (I.ok.hd hc) it lo 1 n
  refine W.item i s _ _ hg st λv h' tk hv st' kk=>?_
  obtain⟨t,rfl⟩:=hv
  have I1:Inv X pins σ H {s with heap:=h',toks:=tk}:=I.turned (λb o hb e=>kk b o (by simpa using hb) e) f0 f1 f3 f4 f5
  refine⟨_,rfl,Qq (s:={s with heap:=h',toks:=tk}) (n:="range_iterator") st' rfl rfl (by decide) ⟨.int (lo+i),H,I1,⟨t,?_⟩,⟨rfl,rfl⟩,st',λb hb=>(hf b hb).1⟩⟩
  rw[Int.mul_one]
 done:=by
  intro X hP hw hK hc i pins s σ H E I hf st hg
  subst hP hw hK
  obtain⟨f0,f1,f2,f3,f4,f5⟩:=hf it (by simp)
  exact wpAny_pyNext_range_end (I.ok.hd hc) st (by have:n<=i:=hg;omega) λh' eb=>⟨rfl,I.turned (t':=s.toks) (λb o hb e=>eb b o hb e) f0 f1 f3 f4 f5⟩
 self:=λ_ _ _ _ _ st h=>wpAny_pyIter_rangeiter st h
def U6(K:Frag)(tl:TE):TI:=λσ H R=>tl σ H λx H1=>∃a,x=.ref a/\(∃xs,SqL K H1 a xs)/\R (Itl K a) H1
theorem Gg{l:Expr}{tl:TE}(hl:PE X l tl):PI X tg l (U6 X.K tl):=by
 intro pins s σ H R I h
 refine thn (hl pins s σ H _ I h) λv s1 ⟨x,H1,I1,r1,q1⟩=>?_
 obtain⟨a,e,⟨xs,hq⟩,q⟩:=q1
 subst e
 cases r1
 obtain⟨its,rv,p,hz⟩:=I1.list hq
 refine wpAny_pyIter_list p.isList ?_
 refine⟨s1.heap.objs.size,[s1.heap.objs.size],_,_,H1,rfl,I1.kept (t':=s1.toks) λb o e=>get?_push_of_some _ e,NF a _,⟨_,get?_push_size _ rfl,rfl,rfl⟩,λb hb=>?_,q⟩
 have e:b=s1.heap.objs.size:=by simpa using hb
 subst e
 exact I1.fpOk (le_refl _) (I1.hok.fresh (le_refl _))
theorem Jh{R:It->Hp->Prop}{lo hi:Int}{t u v:Tok}{tk:Nat}(I:Inv X pins σ H s)(h1:-(2^62)<=lo)(h2:lo<2^62)(h3:-(2^62)<=hi)(h4:hi<2^62)
  (q:R (Itr lo (hi-lo).toNat) H):wpAny (model X.prog X.w) X.A (pyIter (.ref s.heap.objs.size)) (PIE X pins σ tg R) E {s with heap:=s.heap.push {cls:=.type "range",data:=.fields #[.int lo t,.int hi u,.int 1 v]},toks:=tk}:=by
 refine wpAny_pyIter_range (IsRange.new ..) (small_one h1 h2 h3 h4) ?_
 have I1:Inv X pins σ H {s with heap:=s.heap.push {cls:=.type "range",data:=.fields #[.int lo t,.int hi u,.int 1 v]},toks:=tk}:=I.kept λb o e=>get?_push_of_some _ e
 refine⟨(s.heap.push {cls:=.type "range",data:=.fields #[.int lo t,.int hi u,.int 1 v]}).objs.size,[(s.heap.push {cls:=.type "range",data:=.fields #[.int lo t,.int hi u,.int 1 v]}).objs.size],_,_,H,rfl,
  I1.kept (t':=tk) λb o e=>get?_push_of_some _ e,Ks _ lo (hi-lo).toNat,?_,λb hb=>?_,q⟩
 .have e1:lo+((0:Nat):Int)*1=lo:=by simp
  have e2:(((hi-lo).toNat:Nat):Int)- ((0:Nat):Int)=Builtin.Range.rangeSize lo hi 1:=by rw[rangeSize_one];split<;>omega
  show IsRangeIter _ _ (lo+((0:Nat):Int)*1) ((((hi-lo).toNat:Nat):Int)- ((0:Nat):Int)) 1
  rw[e1,e2]
  exact get?_push_size _ rfl
 .have e:b=(s.heap.push {cls:=.type "range",data:=.fields #[.int lo t,.int hi u,.int 1 v]}).objs.size:=by simpa using hb
  subst e
  exact I1.fpOk (le_refl _) (I1.hok.fresh (le_refl _))
def U3(ta:TA):TI:=λσ H R=>ta σ H λvs H1=>∃j:Int,vs=[.int j]/\-(2^62)<=j/\j<2^62/\R (Itr 0 j.toNat) H1
def Ul(ta:TA):TI:=λσ H R=>ta σ H λvs H1=>∃i j:Int,vs=[.int i,.int j]/\(-(2^62)<=i/\i<2^62/\-(2^62)<=j/\j<2^62)/\R (Itr i (j-i).toNat) H1
theorem HW{a:Expr}{ta:TA}{p:Pos}(hg:Gl X "range")(hm:X.mg "range"=none)(ha:PA X [a] ta)(hs:starEach [a] X.env=[(false,eval a X.env)]:=by rfl):PI X tg (.Call (.Name "range" p) [a] [] pos) (U3 ta):=by
 intro pins s σ H R I h
 refine Call_ (Dw I hg hm boot_range (PyProof.Rows.callWith_type1 (thn (ha pos pins s σ H _ I h) λus s1 ⟨vs,H1,I1,r1,q1⟩=>?_) hs rfl))
 obtain⟨j,e,q1,q2,q⟩:=q1
 subst e
 cases r1 with
 |cons r rr=>
  cases rr
  obtain⟨t,rfl⟩:=r
  exact call_range_1 (Jh I1 (by omega) (by omega) q1 q2 (by simpa using q))
theorem ND{a b:Expr}{ta:TA}{p:Pos}(hg:Gl X "range")(hm:X.mg "range"=none)(ha:PA X [a,b] ta)(hs:starEach [a,b] X.env=[(false,eval a X.env),(false,eval b X.env)]:=by rfl)(hs2:starEach [b] X.env=[(false,eval b X.env)]:=by rfl):
  PI X tg (.Call (.Name "range" p) [a,b] [] pos) (Ul ta):=by
 intro pins s σ H R I h
 refine Call_ (Dw I hg hm boot_range (PyProof.Rows.callWith_type1 (thn (ha pos pins s σ H _ I h) λus s1 ⟨vs,H1,I1,r1,q1⟩=>?_) (by rw[hs,hs2]) (by rw[hs2];rfl)))
 obtain⟨i,j,e,⟨q1,q2,q3,q4⟩,q⟩:=q1
 subst e
 cases r1 with
 |cons r rr=>
  cases rr with
  |cons r' rr=>
   cases rr
   obtain⟨t,rfl⟩:=r
   obtain⟨t',rfl⟩:=r'
   exact call_range_2 (Jh I1 q1 q2 q3 q4 q)
def tFor(wi:TI)(g:TG)(tb:TS):TS:=λD σ H=>wi σ H λJ H1=>∃W:Nat->Nat->St->Hp->Prop,(∃m,W 0 m σ H1)/\∀i m σ H,W i m σ H->
 (J.stop i H/\D.nx σ H)\/(J.go i H/\∃N:St->Hp->Prop,(∀σ' H',N σ' H'->∃m',m'<m/\W (i+1) m' σ' H')/\∀x H',J.yld i H x H'->g x σ H' λσ2 H2=>tb {D with nx:=N,ct:=N,bk:=D.nx} σ2 H2)
def Gm(fp:List Addr)(h:Heap):List (Addr×Obj):=fp.filterMap λb=>(h.get? b).map λo=>(b,o)
theorem Da{fp:List Addr}{o:Obj}(hb:b∈fp)(e:h.get? b=some o):(b,o)∈Gm fp h:=List.mem_filterMap.mpr ⟨b,hb,by rw[e];rfl⟩
theorem MV{fp:List Addr}{p:Addr×Obj}(hp:p∈Gm fp h):p.1∈fp/\h.get? p.1=some p.2:=by
 obtain⟨b,hb,e⟩:=List.mem_filterMap.mp hp
 cases q:h.get? b with
 |none=>rw[q]at e;cases e
 |some o=>
  rw[q]at e
  have e':(b,o)=p:=Option.some.inj e
  subst e'
  exact⟨hb,q⟩
theorem Inv.pinned{fp:List Addr}(I:Inv X pins σ H s)(hf:∀b∈fp,FpOk X pins H b)(ho:∀b∈fp,∃o,s.heap.get? b=some o/\∀v,o.data≠.cell v):Inv X (pins++Gm fp s.heap) σ H s:=
 I.pins_of λp hp=>(List.mem_append.mp hp).elim (λz=>I.pin p (List.mem_append_right _ z)) λz=>by
   obtain⟨hb,e⟩:=MV z
   obtain⟨f0,f1,f2,_⟩:=hf p.1 hb
   obtain⟨o,e',d⟩:=ho p.1 hb
   rw[e]at e';cases e'
   exact⟨e,f0,f1,f2,d⟩
theorem Inv.unpinned{pl:List (Addr×Obj)}(I:Inv X (pins++pl) σ H s):Inv X pins σ H s:=I.pins_of λp hp=>I.pin p (List.mem_append_right _ (List.mem_append_left _ hp))
theorem Ep{iter:Expr}{body:List Stmt}{wi:TI}{g:TG}{tb:TS}(hp:PassesOwn (model X.prog X.w) X.A X.env X.xe)(hc:X.calm=true)(hi:PI X tg iter wi)(hg:PG X tg g)(hb:PSs X body tb)
  (hs:∀x,foldedSetIterable iter X.env x=pure x:=by intro _;rfl):PS X (.For tg iter body [] pos) (tFor wi g tb):=by
 intro pins s σ H D I h
 refine wpAny_For (thn (hi pins s σ H _ I h) λv s1 h1=>thn h1 λitv s2 h2=>?_) hs
 obtain⟨it,fp,tn,J,H2,e,I2,T,st2,f2,W,⟨m0,w0⟩,turn⟩:=h2
 subst e
 have stat:∀{H':Hp},(∀b∈fp,H' b=none)->∀b∈fp,FpOk X pins H' b:=λhn b hb=>⟨hn b hb,(f2 b hb).2⟩
 refine codeAny_forLoop_any (λn s'=>∃i σ' H',Inv X pins σ' H' s'/\tn i s'.heap/\(∀b∈fp,H' b=none)/\W i n σ' H') ?_ m0 ⟨0,σ,H2,I2,st2,λb hb=>(f2 b hb).1,w0⟩
 rintro n s3 ⟨i,σ3,H3,I3,st3,fr3,w3⟩
 rcases turn i n σ3 H3 w3 with⟨stop,qn⟩|⟨go,N,hN,step⟩
 .refine wpAny_passesOwn hp (thn (T.done X rfl rfl rfl hc i pins s3 σ3 H3 X.xe I3 (stat fr3) st3 stop) λr s4 ⟨hr,I4⟩=>?_)
  subst hr
  exact wpAny_execs_nil ⟨σ3,H3,I4,qn⟩
 .refine wpAny_passesOwn hp (thn (T.item X rfl rfl rfl hc i pins s3 σ3 H3 X.xe I3 (stat fr3) st3 go) λr s4 ⟨u,hr,h4⟩=>?_)
  subst hr
  refine wpAny_passesOwn hp (thn h4 λ_ s5 ⟨x,H5,I5,r5,y5,st5,fr5⟩=>?_)
  have I5':=I5.pinned (stat fr5) (T.obj _ _ st5)
  refine wpAny_passesOwn hp (thn (hg _ s5 σ3 H5 x u _ I5' r5 (step x H5 y5)) λ_ s6 ⟨σ6,H6,I6,q6⟩=>?_)
  refine wpAny_passesOwn hp (thn (hb _ s6 σ6 H6 _ I6 q6) λf s7 q7=>?_)
  have again:∀{σ7:St}{H7:Hp},Inv X (pins++Gm fp s5.heap) σ7 H7 s7->N σ7 H7->∃m,m<n/\∃i σ' H',Inv X pins σ' H' s7/\tn i s7.heap/\(∀b∈fp,H' b=none)/\W i m σ' H':=λ{σ7 H7} I7 n7=>by
   obtain⟨m',hm,w7⟩:=hN σ7 H7 n7
   refine⟨m',hm,i+1,σ7,H7,I7.unpinned,T.keep _ _ _ st5 λb hb o e=>(I7.pin (b,o) (mem_append_right _ (mem_append_right _ (Da hb e)))).1,λb hb=>?_,w7⟩
   obtain⟨o,e,d⟩:=T.obj _ _ st5 b hb
   exact(I7.pin (b,o) (mem_append_right _ (mem_append_right _ (Da hb e)))).2.1
  cases f with
  |next=>obtain⟨σ7,H7,I7,n7⟩:=q7;exact again I7 n7
  |cont=>obtain⟨σ7,H7,I7,n7⟩:=q7;exact again I7 n7
  |brk=>obtain⟨σ7,H7,I7,q7⟩:=q7;exact⟨σ7,H7,I7.unpinned,q7⟩
  |ret v=>obtain⟨x7,σ7,H7,I7,r7,q7⟩:=q7;exact⟨x7,σ7,H7,I7.unpinned,r7,q7⟩
variable{tb:TS}
theorem J6{g:TG}{D:Ends}(Pv:Nat->St->Hp->Prop)(h0:Pv 0 σ H)(hl:∀i σ H,i<=xs.length->Pv i σ H->SqL K H a xs)
  (hs:∀i x σ H,xs[i]?=some x->Pv i σ H->g x σ H λσ2 H2=>tb {D with nx:=Pv (i+1),ct:=Pv (i+1),bk:=D.nx} σ2 H2)(hd:∀σ H,Pv xs.length σ H->D.nx σ H):
  ∃W:Nat->Nat->St->Hp->Prop,(∃m,W 0 m σ H)/\∀i m σ H,W i m σ H->
   ((Itl K a).stop i H/\D.nx σ H)\/((Itl K a).go i H/\∃N:St->Hp->Prop,(∀σ' H',N σ' H'->∃m',m'<m/\W (i+1) m' σ' H')/\∀x H',(Itl K a).yld i H x H'->g x σ H' λσ2 H2=>tb {D with nx:=N,ct:=N,bk:=D.nx} σ2 H2):=by
 refine⟨λi m σ H=>m=xs.length-i/\i<=xs.length/\Pv i σ H,⟨xs.length,by simp,zero_le _,h0⟩,?_⟩
 rintro i m σ H ⟨rfl,hi,p⟩
 have q:=hl i σ H hi p
 by_cases hlt:i<xs.length
 .refine .inr ⟨⟨xs,xs[i],q,by simp[hlt]⟩,Pv (i+1),λσ' H' p'=>⟨xs.length- (i+1),by omega,rfl,hlt,p'⟩,λx H' y=>?_⟩
  obtain⟨e,y⟩:=y
  subst e
  exact hs i x σ _ (y xs q) p
 .have e:i=xs.length:=by omega
  subst e
  exact .inl ⟨⟨xs,q,le_refl _⟩,hd σ H p⟩
theorem HN{lo:Int}{n:Nat}{g:TG}{D:Ends}(Pv:Nat->St->Hp->Prop)(h0:Pv 0 σ H)
  (hs:∀i σ H,i<n->Pv i σ H->g (.int (lo+i)) σ H λσ2 H2=>tb {D with nx:=Pv (i+1),ct:=Pv (i+1),bk:=D.nx} σ2 H2)(hd:∀σ H,Pv n σ H->D.nx σ H):
  ∃W:Nat->Nat->St->Hp->Prop,(∃m,W 0 m σ H)/\∀i m σ H,W i m σ H->
   ((Itr lo n).stop i H/\D.nx σ H)\/((Itr lo n).go i H/\∃N:St->Hp->Prop,(∀σ' H',N σ' H'->∃m',m'<m/\W (i+1) m' σ' H')/\∀x H',(Itr lo n).yld i H x H'->g x σ H' λσ2 H2=>tb {D with nx:=N,ct:=N,bk:=D.nx} σ2 H2):=by
 refine⟨λi m σ H=>m=n-i/\i<=n/\Pv i σ H,⟨n,by simp,zero_le _,h0⟩,?_⟩
 rintro i m σ H ⟨rfl,hi,p⟩
 by_cases hlt:i<n
 .refine .inr ⟨hlt,Pv (i+1),λσ' H' p'=>⟨n- (i+1),by omega,rfl,hlt,p'⟩,λx H' y=>?_⟩
  obtain⟨e,y⟩:=y
  subst e y
  exact hs i σ _ hlt p
 .have e:i=n:=by omega
  subst e
  exact .inl ⟨le_refl _,hd σ H p⟩
abbrev R2:=V->V->Hp->VK->Prop
def OpR(X:Cx)(f:Value->Value->Sem Value)(r:R2):Prop:=
 ∀(pins:List (Addr×Obj)) (s:Shared) (σ:St) (H:Hp) (x y:V) (v u:Value) (Q:VK),Inv X pins σ H s->RelV x v->RelV y u->r x y H Q->
  wpAny (model X.prog X.w) X.A (f v u) (EP X pins σ Q) X.xe s
def UnR(X:Cx)(f:Value->Sem Value)(r:V->Hp->VK->Prop):Prop:=
 ∀(pins:List (Addr×Obj)) (s:Shared) (σ:St) (H:Hp) (x:V) (v:Value) (Q:VK),Inv X pins σ H s->RelV x v->r x H Q->
  wpAny (model X.prog X.w) X.A (f v) (EP X pins σ Q) X.xe s
def CallR(X:Cx)(f:Value)(r:List V->Hp->VK->Prop):Prop:=
 ∀(pins:List (Addr×Obj)) (s:Shared) (σ:St) (H:Hp) (xs:List V) (us:List Value) (Q:VK),Inv X pins σ H s->Vals xs us->r xs H Q->
  wpAny (model X.prog X.w) X.A (call f us) (EP X pins σ Q) X.xe s
def tOp(r:R2)(ta tb:TE):TE:=λσ H Q=>ta σ H λx H1=>tb σ H1 λy H2=>r x y H2 Q
def tUn(r:V->Hp->VK->Prop)(ta:TE):TE:=λσ H Q=>ta σ H λx H1=>r x H1 Q
def rI(C:Int->Int->Prop)(g:Int->Int->V):R2:=λx y H Q=>∃i j,x=.int i/\y=.int j/\C i j/\Q (g i j) H
def rI0(g:Int->Int->V):R2:=λx y H Q=>∃i j,x=.int i/\y=.int j/\Q (g i j) H
def rU(g:Int->V):V->Hp->VK->Prop:=λx H Q=>∃i,x=.int i/\Q (g i) H
variable{c:Expr}
section
variable{a b:Expr}{tb tc:TE}
theorem binT(ha:PE X a ta)(hb:PE X b tb){R:V->V->Hp->Prop}(I:Inv X pins σ H s)
  (h:ta σ H λx H1=>tb σ H1 λy H2=>R x y H2){Q:Value->Shared->Prop}{f:Value->Value->Sem Value}
  (hf:∀v u s2 x y H2,Inv X pins σ H2 s2->RelV x v->RelV y u->R x y H2->wpAny (model X.prog X.w) X.A (f v u) Q X.xe s2):
  wpAny (model X.prog X.w) X.A (eval a X.env) (λv s₁=>wpAny (model X.prog X.w) X.A (eval b X.env) (λu s₂=>wpAny (model X.prog X.w) X.A (f v u) Q X.xe s₂) X.xe s₁) X.xe s:=by
 refine thn (ha pins s σ H _ I h) λv s1 ⟨x,H1,I1,r1,q1⟩=>?_
 refine thn (hb pins s1 σ H1 _ I1 q1) λu s2 ⟨y,H2,I2,r2,q2⟩=>?_
 exact hf v u s2 x y H2 I2 r1 r2 q2
theorem L5{op:Operator}{r:R2}(ho:OpR X (binaryOp op) r)(ha:PE X a ta)(hb:PE X b tb):PE X (.BinOp a op b pos) (tOp r ta tb):=by
 intro pins s σ H Q I h
 exact wpAny_BinOp (binT ha hb I h λv u s2 x y H2 I2 rx ry q=>ho pins s2 σ H2 x y v u Q I2 rx ry q)
theorem U8{op:UnaryOp}{r:V->Hp->VK->Prop}(ho:UnR X (unaryOp op) r)(ha:PE X a ta):PE X (.UnaryOp op a pos) (tUn r ta):=by
 intro pins s σ H Q I h
 exact UnaryOp_ (thn (ha pins s σ H _ I h) λv s1 ⟨x,H1,I1,r1,q1⟩=>ho pins s1 σ H1 x v Q I1 r1 q1)
theorem opI{f:Value->Value->Sem Value}{C:Int->Int->Prop}{g:Int->Int->Int}
  (rule:∀(i j:Int) (t u:Tok) (s:Shared) (Q:Value->Shared->Prop) (E:Value->Shared->Prop),C i j->Q (.int (g i j) s.toks) {s with toks:=s.toks+1}->wpAny (model X.prog X.w) X.A (f (.int i t) (.int j u)) Q E s):
  OpR X f (rI C λi j=>.int (g i j)):=by
 intro pins s σ H x y v u Q I rx ry h
 obtain⟨i,j,rfl,rfl,hc,q⟩:=h
 obtain⟨t,rfl⟩:=rx
 obtain⟨t',rfl⟩:=ry
 exact rule i j t t' s _ _ hc ⟨.int (g i j),H,I.tok _,⟨_,rfl⟩,q⟩
theorem opI0{f:Value->Value->Sem Value}{g:Int->Int->Int}
  (rule:∀(i j:Int) (t u:Tok) (s:Shared) (Q:Value->Shared->Prop) (E:Value->Shared->Prop),Q (.int (g i j) s.toks) {s with toks:=s.toks+1}->wpAny (model X.prog X.w) X.A (f (.int i t) (.int j u)) Q E s):
  OpR X f (rI0 λi j=>.int (g i j)):=by
 intro pins s σ H x y v u Q I rx ry h
 obtain⟨i,j,rfl,rfl,q⟩:=h
 obtain⟨t,rfl⟩:=rx
 obtain⟨t',rfl⟩:=ry
 exact rule i j t t' s _ _ ⟨.int (g i j),H,I.tok _,⟨_,rfl⟩,q⟩
theorem opB0{f:Value->Value->Sem Value}{g:Int->Int->Bool}
  (rule:∀(i j:Int) (t u:Tok) (s:Shared) (Q:Value->Shared->Prop) (E:Value->Shared->Prop),Q (.bool (g i j)) s->wpAny (model X.prog X.w) X.A (f (.int i t) (.int j u)) Q E s):
  OpR X f (rI0 λi j=>.bl (g i j)):=by
 intro pins s σ H x y v u Q I rx ry h
 obtain⟨i,j,rfl,rfl,q⟩:=h
 obtain⟨t,rfl⟩:=rx
 obtain⟨t',rfl⟩:=ry
 exact rule i j t t' s _ _ ⟨.bl (g i j),H,I,rfl,q⟩
def CDiv(i j:Int):Prop:=0<j/\j<1073741824
def CPow(i j:Int):Prop:=0<=j/\j<=1000000/\i.natAbs<2^64
def CMul(i j:Int):Prop:=(-(2^64)<i/\i<2^64)\/(-(2^64)<j/\j<2^64)
theorem CMul.ok{i j:Int}(h:CMul i j):IntMulOk i j:=by
 rcases h with⟨h1,h2⟩|⟨h1,h2⟩
 .exact .of_left (intBits_le_64 h1 h2)
 .exact .of_right (intBits_le_64 h1 h2)
theorem Lk:OpR X (binaryOp .Add) (rI0 λi j=>.int (i+j)):=opI0 λ_ _ _ _ _ _ _ q=>add_int q
theorem Tx:OpR X (binaryOp .Sub) (rI0 λi j=>.int (i-j)):=opI0 λ_ _ _ _ _ _ _ q=>sub_int q
theorem Tj:OpR X (binaryOp .Mult) (rI CMul λi j=>.int (i*j)):=opI λ_ _ _ _ _ _ _ hc q=>mul_int q hc.ok
theorem QU:OpR X (binaryOp .FloorDiv) (rI CDiv λi j=>.int (i/j)):=opI λi j _ _ _ _ _ hc q=>by
 have h1:(0:Int)<j:=hc.1
 have h2:j<1073741824:=hc.2
 exact floordiv_int (by omega) (by rw[Int.fdiv_eq_ediv_of_nonneg i (by omega)];exact q) (.inl (PyProof.noPylong_small (by omega)))
theorem Th:OpR X (binaryOp .Mod) (rI (λ_ j=>0<j) λi j=>.int (i%j)):=opI λi j _ _ _ _ _ hc q=>by
 have h1:(0:Int)<j:=hc
 exact mod_int' (by omega) (by rw[Int.fmod_eq_emod_of_nonneg i (by omega)];exact q)
theorem TL:OpR X (binaryOp .Pow) (rI CPow λi j=>.int (i^j.toNat)):=opI λ_ _ _ _ _ _ _ hc q=>pow_int_small hc.1 hc.2.1 hc.2.2 q
theorem SE:OpR X (binaryOp .BitAnd) (rI0 λi j=>.int (Builtin.bitAnd i j)):=opI0 λ_ _ _ _ _ _ _ q=>and_int q
theorem SZ:OpR X (binaryOp .BitXor) (rI0 λi j=>.int (Builtin.bitXor i j)):=opI0 λ_ _ _ _ _ _ _ q=>xor_int q
theorem unI{f:Value->Sem Value}{g:Int->Int}
  (rule:∀(i:Int) (t:Tok) (s:Shared) (Q:Value->Shared->Prop) (E:Value->Shared->Prop),Q (.int (g i) s.toks) {s with toks:=s.toks+1}->wpAny (model X.prog X.w) X.A (f (.int i t)) Q E s):
  UnR X f (rU λi=>.int (g i)):=by
 intro pins s σ H x v Q I rx h
 obtain⟨i,rfl,q⟩:=h
 obtain⟨t,rfl⟩:=rx
 exact rule i t s _ _ ⟨.int (g i),H,I.tok _,⟨_,rfl⟩,q⟩
theorem TW:UnR X (unaryOp .USub) (rU λi=>.int (-i)):=unI λ_ _ _ _ _ q=>neg_int q
theorem Tu{Q:VK}{k k':Bool}(I:Inv X pins σ H s)(q:Q (.bl k) H)(e:k=k'):EP X pins σ Q (.bool k') s:=by
 subst e
 exact⟨.bl k,H,I,rfl,q⟩
theorem Up:OpR X (compareOp .Lt) (rI0 λi j=>.bl (decide (i<j))):=opB0 λ_ _ _ _ _ _ _ q=>lt_int q
theorem Uf:OpR X (compareOp .LtE) (rI0 λi j=>.bl (decide (i<=j))):=opB0 λ_ _ _ _ _ _ _ q=>le_int q
theorem Ui:OpR X (compareOp .Gt) (rI0 λi j=>.bl (decide (j<i))):=opB0 λ_ _ _ _ _ _ _ q=>gt_int q
theorem Ud:OpR X (compareOp .GtE) (rI0 λi j=>.bl (decide (j<=i))):=opB0 λ_ _ _ _ _ _ _ q=>ge_int q
theorem op_in_str:OpR X (compareOp .In) (λx y H Q=>∃i j,x=.str i/\y=.str j/\Q (.bl (!(Builtin.Str.occurrences j i 0 j.length 1).isEmpty)) H):=by
 intro pins s σ H x y v u Q I rx ry h
 obtain⟨i,j,rfl,rfl,q⟩:=h
 obtain⟨t,rfl⟩:=rx
 obtain⟨t',rfl⟩:=ry
 exact in_str (Tu I q rfl)
theorem Ak(b:Expr){op:CmpOp}(h:op≠.In:=by decide)(h2:op≠.NotIn:=by decide):behindInMarks op b=false:=by
 have e1:(op==CmpOp.In)=false:=by cases op<;>first|rfl|exact absurd rfl h
 have e2:(op==CmpOp.NotIn)=false:=by cases op<;>first|rfl|exact absurd rfl h2
 cases b<;>simp[behindInMarks,e1,e2]
theorem Rg{op:CmpOp}{r:R2}(ho:OpR X (compareOp op) r)(ha:PE X a ta)(hb:PE X b tb)(hm:behindInMarks op b=false):PE X (.Compare a [op] [b] pos) (tOp r ta tb):=by
 intro pins s σ H Q I h
 exact wpAny_Compare1 (binT ha hb I h λv u s2 x y H2 I2 rx ry q=>ho pins s2 σ H2 x y v u Q I2 rx ry q) hm
def Sc(t:TE):TT:=λσ H Q=>t σ H λx H'=>∃k,x=.bl k/\Q k H'
theorem LL{op:CmpOp}{r:R2}(ho:OpR X (compareOp op) r)(ha:PE X a ta)(hb:PE X b tb)(hm:behindInMarks op b=false):PT X (.Compare a [op] [b] pos) (Sc (tOp r ta tb)):=by
 intro pins s σ H Q I h
 refine wpAny_isTrue_Compare1 (thn (ha pins s σ H _ I h) λv s1 ⟨x,H1,I1,r1,q1⟩=>thn (hb pins s1 σ H1 _ I1 q1) λu s2 ⟨y,H2,I2,r2,q2⟩=>
  thn (ho pins s2 σ H2 x y v u _ I2 r1 r2 q2) λc s3 ⟨z,H3,I3,r3,k,e,q3⟩=>?_) hm
 subst e
 cases r3
 exact wpAny_truthy_bool ⟨H3,I3,q3⟩
def P1(r r':R2)(ta tb tc:TE):TE:=λσ H Q=>ta σ H λx H1=>tb σ H1 λy H2=>r x y H2 λz H3=>∃k,z=.bl k/\
 (if k=true then tc σ H3 λw' H4=>r' y w' H4 Q else Q (.bl false) H3)
theorem Pg{op op':CmpOp}{r r':R2}(ho:OpR X (compareOp op) r)(ho':OpR X (compareOp op') r')(ha:PE X a ta)(hb:PE X b tb)(hc:PE X c tc)
  (hm:lastMarks [op,op'] [b,c]=false:=by with_unfolding_all rfl):PE X (.Compare a [op,op'] [b,c] pos) (P1 r r' ta tb tc):=by
 intro pins s σ H Q I h
 refine Compare_chain (thn (ha pins s σ H _ I h) λv s1 ⟨x,H1,I1,r1,q1⟩=>chain_link (thn (hb pins s1 σ H1 _ I1 q1) λu s2 ⟨y,H2,I2,r2,q2⟩=>
  thn (ho pins s2 σ H2 x y v u _ I2 r1 r2 q2) λd s3 ⟨z,H3,I3,r3,k,e,q3⟩=>?_)) hm
 subst e
 cases r3
 refine wpAny_truthy_bool ?_
 cases k with
 |false=>exact ite_ff ⟨.bl false,H3,I3,rfl,q3⟩
 |true=>exact ite_tt (chain_last (thn (hc pins s3 σ H3 _ I3 q3) λw' s4 ⟨z',H4,I4,r4,q4⟩=>ho' pins s4 σ H4 y z' u w' Q I4 r2 r4 q4))
theorem Oc{op op':CmpOp}{r r':R2}(ho:OpR X (compareOp op) r)(ho':OpR X (compareOp op') r')(ha:PE X a ta)(hb:PE X b tb)(hc:PE X c tc)
  (hm:lastMarks [op,op'] [b,c]=false:=by with_unfolding_all rfl):PT X (.Compare a [op,op'] [b,c] pos) (Sc (P1 r r' ta tb tc)):=by
 intro pins s σ H Q I h
 refine isTrue_chain (thn (ha pins s σ H _ I h) λv s1 ⟨x,H1,I1,r1,q1⟩=>test_link (thn (hb pins s1 σ H1 _ I1 q1) λu s2 ⟨y,H2,I2,r2,q2⟩=>
  thn (ho pins s2 σ H2 x y v u _ I2 r1 r2 q2) λd s3 ⟨z,H3,I3,r3,k,e,q3⟩=>?_)) hm
 subst e
 cases r3
 refine wpAny_truthy_bool ?_
 cases k with
 |false=>
  obtain⟨k',e',q'⟩:=q3
  cases e'
  exact ite_ff ⟨H3,I3,q'⟩
 |true=>
  refine ite_tt (test_last (thn (hc pins s3 σ H3 _ I3 q3) λw' s4 ⟨z',H4,I4,r4,q4⟩=>thn (ho' pins s4 σ H4 y z' u w' _ I4 r2 r4 q4) λd' s5 ⟨z2,H5,I5,r5,k2,e2,q5⟩=>?_))
  subst e2
  cases r5
  exact wpAny_truthy_bool ⟨H5,I5,q5⟩
theorem G0:(sizeLine:Nat)<2^63:=by rw[sizeLine_eq];decide
theorem vals1{x:V}(r:Vals [x] us):∃u,us=[u]/\RelV x u:=by
 cases r with
 |cons r1 r2=>cases r2;exact⟨_,rfl,r1⟩
theorem vals2{x y:V}(r:Vals [x,y] us):∃u w',us=[u,w']/\RelV x u/\RelV y w':=by
 cases r with
 |cons r1 r2=>
  cases r2 with
  |cons r3 r4=>cases r4;exact⟨_,_,rfl,r1,r3⟩
theorem M_(hc:X.calm=true):CallR X (.builtin "max") (λxs H Q=>∃i j,xs=[.int i,.int j]/\Q (.int (if j>i then j else i)) H):=by
 intro pins s σ H xs us Q I r h
 obtain⟨i,j,rfl,q⟩:=h
 obtain⟨u,w',rfl,⟨t,rfl⟩,⟨t',rfl⟩⟩:=vals2 r
 refine max_two_ints (I.ok.hd hc) λh' tk k=>⟨_,H,I.kept k,?_,q⟩
 by_cases hj:j>i
 .rw[if_pos hj,if_pos hj];exact⟨_,rfl⟩
 .rw[if_neg hj,if_neg hj];exact⟨_,rfl⟩
theorem Na(hc:X.calm=true):CallR X (.builtin "min") (λxs H Q=>∃i j,xs=[.int i,.int j]/\Q (.int (if j<i then j else i)) H):=by
 intro pins s σ H xs us Q I r h
 obtain⟨i,j,rfl,q⟩:=h
 obtain⟨u,w',rfl,⟨t,rfl⟩,⟨t',rfl⟩⟩:=vals2 r
 refine min_two_ints (I.ok.hd hc) λh' tk k=>⟨_,H,I.kept k,?_,q⟩
 by_cases hj:j<i
 .rw[if_pos hj,if_pos hj];exact⟨_,rfl⟩
 .rw[if_neg hj,if_neg hj];exact⟨_,rfl⟩
theorem call_int1:CallR X (.type "int") (λxs H Q=>(∃i,xs=[.int i]/\Q (.int i) H)\/∃k,xs=[.bl k]/\Q (.int (if k then 1 else 0)) H):=by
 intro pins s σ H xs us Q I r h
 rcases h with⟨i,rfl,q⟩|⟨k,rfl,q⟩
 .obtain⟨u,rfl,t,rfl⟩:=vals1 r
  exact call_int_int ⟨.int i,H,I,⟨_,rfl⟩,q⟩
 .obtain⟨u,rfl,r1⟩:=vals1 r
  cases r1
  exact call_int_bool ⟨.int (if k then 1 else 0),H,I.tok _,⟨_,rfl⟩,q⟩
end
structure ObjM(h:Heap)(x dx C:Addr)(mA:Str->Option Value):Prop where
 obj:h.get? x=some (instObj C dx)
 ns:h.Ns1 dx mA
 ne:dx≠x
variable{dx:Addr}
theorem Nw{mA:Str->Option Value}(n:h.Ns1 dx mA):∃od,h.get? dx=some od/\∀name,lookIn name od=some (mA name):=by
 obtain⟨o,es,ep,ho,hd,hk,_,hm⟩:=n
 refine⟨o,ho,λname=>?_⟩
 have e:=hm name
 unfold nsFind findBy at e
 rw[<-Array.find?_toList]at e
 unfold lookIn
 rw[hd]
 dsimp only
 split
 .rename_i y q
  rw[q]at e
  exact congrArg some e
 .rename_i q
  rw[q]at e
  have a:es.toList.any (·.refKey)=false:=by
   rw[List.any_eq_false]
   intro y hy
   obtain⟨z,t,hkey⟩:=hk y (Array.mem_toList_iff.mp hy)
   simp[DictEntry.refKey,hkey]
  have a':¬es.toList.any (·.refKey)=true:=by rw[a];exact Bool.false_ne_true
  rw[if_neg a']
  exact congrArg some e
variable{C:Addr}
theorem ObjM.look{x:Addr}{mA:Str->Option Value}(I:ObjM h x dx C mA):∃od,PySem.W.InstAt h x (PySem.W.instObj C dx) C (some od)/\∀name,PySem.W.lookIn name od=some (mA name):=
 let⟨od,ho,hl⟩:=Nw I.ns
 ⟨od,⟨I.obj,rfl,rfl,ho⟩,hl⟩
variable{prog:Program}{mA:Str->Option Value}{name:Str}
section
variable{x f:Addr}{v:Value}
theorem get_map{expr:Bool}{Q:Value->Shared->Prop}(X:K.In s.heap)(I:ObjM s.heap x dx C mA)(hg:plainGet K C name=true)(hh:hasDictIn K C=true)
  (ha:findIn K (.ref C) name=some none)(hv:mA name=some v)(hv':handedIn v=true)(h:Q v {s with toks:=s.toks+1}):
  wpAny (model prog w) A (getAttr (.ref x) name expr) Q E s:=by
 obtain⟨od,J,hl⟩:=I.look
 exact PySem.W.get_value X J (plainGet_of hg).1 (PySem.W.findObj_own hh ha rfl (by rw[hl,hv])) hv' h
theorem Ql{pl:Sem Bool}{Q:Value×List Value->Shared->Prop}(X:K.In s.heap)(I:ObjM s.heap x dx C mA)(hg:plainGet K C name=true)
  (hf:findIn K (.ref C) name=some (some (.ref f)))(ht:isFn K (.ref f)=true)(hv:mA name=none)(h:Q (.ref f,[.ref x]) s):
  wpAny (model prog w) A (getMethod (.ref x) name pl) Q E s:=by
 obtain⟨od,J,hl⟩:=I.look
 exact PySem.W.method_fn X J (plainGet_of hg).1 (plainGet_of hg).2 hf (beq_iff_eq.mp ht) (by show(lookIn name od).map (·.isSome)=some false;rw[hl,hv];rfl) h
theorem Rx{ns:List Str}{Q:Unit->Shared->Prop}(X:K.In s.heap)(I:ObjM s.heap x dx C mA)
  (hs:findIn K (.ref C) "__setattr__"=some (some (.builtin "object.__setattr__")))(hp:plainOver K C=true)(ht:takerIn K C name=some none)(hh:hasDictIn K C=true)
  (hw:PySem.Within mA ns)(hsz:ns.length<=sizeLine)
  (h:∀h',ObjM h' x dx C (λy=>if y=name then some v else mA y)->SameBut dx s.heap h'->Q () {s with heap:=h',toks:=s.toks+2}):
  wpAny (model prog w) A (setAttr (.ref x) name v) Q E s:=by
 obtain⟨od,J,hl⟩:=I.look
 refine PySem.W.set_plain X J hs (PySem.W.osa_open (s:={s with toks:=s.toks+1}) (r:=none) X J hp ht λb=>?_)
 obtain⟨cd,hc,hd'⟩:=PySem.W.any_some hh
 have hx:s.heap.get? x=some ⟨.ref C,some dx,.plain,#[]⟩:=I.obj
 refine wpAny_bind (wpAny_pure (wpAny_bind (wpAny_bind (wpAny_loadPart hx (wpAny_bind (PySem.W.Looks.here (s:={s with toks:=s.toks+1}) (PySem.W.looks_clsIn X hc) ?_))))))
 rw[hd']
 refine wpAny_pure (a:=some dx) (wpAny_bind (wpAny_pure (wpAny_bind ?_)))
 refine wpAny_nsSet1 (s:={s with toks:=s.toks+1}) I.ns λh' hn2 hs2=>?_
 obtain⟨oD,esD,epD,hoD,hdD,hcD⟩:=hn2.count (PySem.Within.cons name v hw)
 refine wpAny_bind (wpAny_lookBehind hoD (by rw[hdD];exact pastItsLine_dict (le_trans hcD (by rw[length_cons];omega))) ?_)
 exact wpAny_pure (h _ ⟨(hs2.2 _ (symm I.ne)).trans I.obj,hn2,I.ne⟩ hs2)
theorem Q3{R:Result->Shared->Prop}{vs:List Value}{kw:List (Str×Value)}(X:K.In s.heap)(hm:makesIn K C=true)
  (hi:findIn K (.ref C) "__init__"=some (some (.ref f)))(hf:typeIn K (.ref f)=some (.type "function"))
  (h:codeAny (model prog w) (A.under (.builtin "type.__call__" ⟨.ref C::vs,kw⟩)) (.call (.ref f) ⟨.ref (s.heap.objs.size+1)::vs,kw⟩) (PySem.W.InitBack (s.heap.objs.size+1) R)
   {s with heap:=(s.heap.push emptyDict).push (instObj C s.heap.objs.size)}):
  codeAny (model prog w) A (.call (.ref C) ⟨vs,kw⟩) R s:=by
 obtain⟨hh,g,d,t,os⟩:=s
 exact PySem.W.make_core (PySem.W.makes_of X hm) (PySem.W.looks_findIn X hi) (λself=>PySem.W.bind_fn X self hf) (.inl rfl) h
end
def putF(f:Str)(v:V):List (Str×V)->List (Str×V)
 |[]=>[(f,v)]
 |(g,x)::r=>if g=f then(g,v)::r else(g,x)::putF f v r
theorem Ax(f g:Str)(v:V):∀fs:List (Str×V),(putF f v fs).lookup g=if g=f then some v else fs.lookup g
 |[]=>by
  show List.lookup g [(f,v)]=_
  by_cases h:g=f
  .have hb:(g==f)=true:=beq_iff_eq.mpr h
   simp only[List.lookup,hb,if_pos h]
  .have hb:(g==f)=false:=beq_eq_false_iff_ne.mpr h
   simp only[List.lookup,hb,if_neg h]
 |(k,x)::r=>by
  have ih:=Ax f g v r
  rw[show putF f v ((k,x)::r)=(if k=f then(k,v)::r else(k,x)::putF f v r)from rfl]
  by_cases hk:k=f
  .rw[if_pos hk]
   by_cases h:g=k
   .have hb:(g==k)=true:=beq_iff_eq.mpr h
    simp only[List.lookup,hb,if_pos (h.trans hk)]
   .have hb:(g==k)=false:=beq_eq_false_iff_ne.mpr h
    simp only[List.lookup,hb,if_neg (λe:g=f=>h (e.trans hk.symm))]
  .rw[if_neg hk]
   by_cases h:g=k
   .have hb:(g==k)=true:=beq_iff_eq.mpr h
    simp only[List.lookup,hb,if_neg (λe:g=f=>hk (h.symm.trans e))]
   .have hb:(g==k)=false:=beq_eq_false_iff_ne.mpr h
    simp only[List.lookup,hb]
    exact ih
theorem Fr(f:Str)(v:V):∀fs:List (Str×V),f∈(putF f v fs).map (·.1)/\∀g,g∈fs.map (·.1)->g∈(putF f v fs).map (·.1)
 |[]=>⟨by simp[putF],λg h=>by simp at h⟩
 |(k,x)::r=>by
  obtain⟨i1,i2⟩:=Fr f v r
  rw[show putF f v ((k,x)::r)=(if k=f then(k,v)::r else(k,x)::putF f v r)from rfl]
  by_cases hk:k=f
  .rw[if_pos hk]
   subst hk
   exact⟨by simp,λg h=>by simpa using h⟩
  .rw[if_neg hk]
   refine⟨?_,λg h=>?_⟩
   .rw[map_cons]
    exact mem_cons_of_mem _ i1
   .rw[map_cons]at h ⊢
    rcases mem_cons.mp h with e|e
    .exact mem_cons.mpr (.inl e)
    .exact mem_cons_of_mem _ (i2 g e)
theorem Cs(f:Str)(v:V):∀fs:List (Str×V),(putF f v fs).length<=fs.length+1
 |[]=>by simp[putF]
 |(k,x)::r=>by
  have ih:=Cs f v r
  rw[show putF f v ((k,x)::r)=(if k=f then(k,v)::r else(k,x)::putF f v r)from rfl]
  by_cases hk:k=f
  .rw[if_pos hk,length_cons,length_cons];omega
  .rw[if_neg hk,length_cons,length_cons];omega
variable{v:V}
theorem RelO.some_of{o:Option Value}(r:RelO (some v) o):∃u,o=some u/\RelV v u:=by
 cases o with
 |none=>exact(show False from r).elim
 |some u=>exact⟨u,rfl,r⟩
theorem RelO.none_of{o:Option Value}(r:RelO none o):o=none:=by
 cases o with
 |none=>rfl
 |some u=>exact(show False from r).elim
theorem Ng(r:RelV v u):handedIn u=true:=by
 cases v with
 |non=>cases(show u=Value.none from r);rfl
 |bl b=>cases(show u=Value.bool b from r);rfl
 |int i=>obtain⟨t,e⟩:=(show ∃t,u=Value.int i t from r);cases e;rfl
 |str x=>obtain⟨t,e⟩:=(show ∃t,u=Value.str x t from r);cases e;rfl
 |byt b=>obtain⟨t,e⟩:=(show ∃t,u=Value.bytes b t from r);cases e;rfl
 |flt b=>obtain⟨t,e⟩:=(show ∃t,u=Value.float b t from r);cases e;rfl
 |ref a=>cases(show u=Value.ref a from r);rfl
 |ty n=>cases(show u=Value.type n from r);rfl
section
variable{fs fs':List (Str×V)}
theorem Gc(hok:HOk P w H h)(e:H a=some (.ins C dx fs)):∃mA,ObjM h a dx C mA/\(∀f,RelO (fs.lookup f) (mA f))/\PySem.Within mA (fs.map (·.1))/\fs.length<=1000/\H dx=some (.own a):=by
 obtain⟨d,z,ne,ob,mA,n,r,q⟩:=(show ObjOk P w H h a (.ins C dx fs)from hok a _ e)
 exact⟨mA,⟨ob,n,ne⟩,r,q,z,d⟩
end
structure Cls(K:Frag)(C:Addr):Prop where
 pg:plainGet K C Str.empty=true
 hd:hasDictIn K C=true
 po:plainOver K C=true
 sa:findIn K (.ref C) "__setattr__"=some (some (.builtin "object.__setattr__"))
theorem Cls.get(c:Cls K C)(f:Str):PySem.W.plainGet K C f=true:=c.pg
def NoAttr(K:Frag)(C:Addr)(f:Str):Prop:=findIn K (.ref C) f=some none
theorem NoAttr.taker{f:Str}(n:NoAttr K C f):PySem.W.takerIn K C f=some none:=by
 unfold PySem.W.takerIn
 rw[show PySem.W.findIn K (.ref C) f=some none from n]
 rfl
structure Con(K:Frag)(C:Addr)(f:Str)(v:V)(u:Value):Prop where
 at_:findIn K (.ref C) f=some (some u)
 rel:RelV v u
 get:specialIn K u "__get__"=some none
 cp:PySem.W.copiedNames.contains f=false
structure Meth(K:Frag)(C:Addr)(m:Str)(f:Addr):Prop where
 at_:findIn K (.ref C) m=some (some (.ref f))
 fn:isFn K (.ref f)=true
 kp:keepIn K (.ref f)=true
section
variable{fs:List (Str×V)}{f:Str}
theorem GZ{b:Bool}{Q:Value->Shared->Prop}(I:Inv X pins σ H s)(e:H a=some (.ins C dx fs))(c:Cls X.K C)(n:NoAttr X.K C f)(l:fs.lookup f=some v)
  (h:∀u s',Inv X pins σ H s'->RelV v u->Q u s'):wpAny (model X.prog X.w) A (getAttr (.ref a) f b) Q E s:=by
 obtain⟨mA,O,r,_,_,_⟩:=Gc I.hok e
 obtain⟨u,hu,ru⟩:=RelO.some_of (v:=v) (o:=mA f) (by rw[<-l];exact r f)
 exact get_map I.kIn O (c.get f) c.hd n hu (Ng ru) (h u _ (I.tok _) ru)
theorem GY{m:Str}{g:Addr}{pl:Sem Bool}{Q:Value×List Value->Shared->Prop}(I:Inv X pins σ H s)(e:H a=some (.ins C dx fs))(c:Cls X.K C)(k:Meth X.K C m g)(l:fs.lookup m=none)
  (h:Q (.ref g,[.ref a]) s):wpAny (model X.prog X.w) A (getMethod (.ref a) m pl) Q E s:=by
 obtain⟨mA,O,r,_,_,_⟩:=Gc I.hok e
 have hn:mA m=none:=RelO.none_of (by rw[<-l];exact r m)
 exact Ql I.kIn O (c.get m) k.at_ k.fn hn h
theorem GG{y:V}{Q:Unit->Shared->Prop}(I:Inv X pins σ H s)(e:H a=some (.ins C dx fs))(c:Cls X.K C)(n:NoAttr X.K C f)(hl:fs.length<1000)(ry:RelV y u)
  (h:∀s',Inv X pins σ (upd H a (.ins C dx (putF f y fs))) s'->Q () s'):wpAny (model X.prog X.w) A (setAttr (.ref a) f u) Q E s:=by
 obtain⟨mA,O,r,wi,_,ho⟩:=Gc I.hok e
 have hz:(fs.map (·.1)).length<=sizeLine:=by rw[length_map,sizeLine_eq];omega
 refine Rx I.kIn O c.sa c.po n.taker c.hd wi hz λh' O' sb=>h _ ?_
 have hd:∃o,h'.get? dx=some o:=let⟨o,_,_,e',_⟩:=O'.ns;⟨o,e'⟩
 refine I.write (x:=a) (e:=dx) (by rw[e];exact True.intro) (.inr ho) (λb q hb z=>(sb.2 b hb).trans z) hd ?_
 refine⟨by rw[Ag O.ne];exact ho,?_,O.ne,O'.obj,_,O'.ns,λg=>?_,λg hg=>?_⟩
 .have:=Cs f y fs;omega
 .show RelO ((putF f y fs).lookup g) (if g=f then some u else mA g)
  rw[Ax]
  by_cases q:g=f
  .rw[if_pos q,if_pos q];exact ry
  .rw[if_neg q,if_neg q];exact r g
 .by_cases q:g=f
  .rw[q];exact(Fr f y fs).1
  .refine(Fr f y fs).2 g (wi g λz=>hg ?_)
   show(if g=f then some u else mA g)=none
   rw[if_neg q];exact z
theorem Inv.made(I:Inv X pins σ H s):Inv X pins σ (upd (upd H s.heap.objs.size (.own (s.heap.objs.size+1))) (s.heap.objs.size+1) (.ins C s.heap.objs.size []))
  {s with heap:=(s.heap.push PySem.W.emptyDict).push (PySem.W.instObj C s.heap.objs.size)}:=by
 have e1:(s.heap.push PySem.W.emptyDict).get? s.heap.objs.size=some PySem.W.emptyDict:=Heap.get?_push_size s.heap rfl
 have e2:((s.heap.push PySem.W.emptyDict).push (PySem.W.instObj C s.heap.objs.size)).get? (s.heap.objs.size+1)=some (PySem.W.instObj C s.heap.objs.size):=by
  have:=Heap.get?_push_size (s.heap.push PySem.W.emptyDict) (o:=PySem.W.instObj C s.heap.objs.size) rfl
  rwa[Heap.size_push]at this
 have e3:(s.heap.push PySem.W.emptyDict).Ns s.heap.objs.size (λ_=>none):=⟨PySem.W.emptyDict,#[],_,e1,rfl,(λe he=>absurd he (by simp)),λ_=>rfl⟩
 have I1:=I.laid (a:=s.heap.objs.size) (o:=.own (s.heap.objs.size+1)) (h':=s.heap.push PySem.W.emptyDict) (t':=s.toks) (λb u q=>Heap.get?_push_of_some _ q) (Nat.le_refl _) ⟨_,e1⟩
 refine I1.laid (a:=s.heap.objs.size+1) (o:=.ins C s.heap.objs.size []) (t':=s.toks) (λb u q=>Heap.get?_push_of_some _ q) (Nat.le_of_eq (Heap.size_push _ _)) ?_
 have ne:s.heap.objs.size≠s.heap.objs.size+1:=Nat.ne_of_lt (Nat.lt_succ_self _)
 refine⟨by rw[Ag ne,Ah],Nat.zero_le _,ne,e2,λ_=>none,(Heap.Ns1.of_empty e3).at λo q=>Heap.get?_push_of_some _ q,λ_=>True.intro,λy hy=>absurd rfl hy⟩
theorem Rf{env:Env}{Q:Value->Shared->Prop}(hb:attributeBase e f env (eval e env)=eval e env)
  (h:wpAny (model prog w) A (eval e env) (λo s₁=>wpAny (model prog w) A (getAttr o f true) Q E s₁) E s):wpAny (model prog w) A (eval (.Attribute e f pos) env) Q E s:=
 Attribute_any_ h (by rw[arm_eval_Attribute,hb])
end
def tFld(K:Frag)(ta:TE)(f:Str):TE:=λσ H Q=>ta σ H λx H1=>∃a C dx fs v,x=.ref a/\H1 a=some (.ins C dx fs)/\Cls K C/\NoAttr K C f/\fs.lookup f=some v/\Q v H1
def sFld(K:Frag)(ta tv:TE)(f:Str):TS:=λD σ H=>tv σ H λy H1=>ta σ H1 λx H2=>∃a C dx fs,x=.ref a/\H2 a=some (.ins C dx fs)/\Cls K C/\NoAttr K C f/\fs.length<1000/\
 D.nx σ (upd H2 a (.ins C dx (putF f y fs)))
def InOp(X:Cx)(op:Operator)(rd:V->V->Hp->VK->Prop):Prop:=
 ∀(pins:List (Addr×Obj)) (s:Shared) (σ:St) (H:Hp) (x y:V) (u v:Value) (Q:VK),Inv X pins σ H s->RelV x u->RelV y v->rd x y H Q->wpAny (model X.prog X.w) X.A (inplaceOp op u v) (EP X pins σ Q) X.xe s
def R4(K:Frag)(ta tv:TE)(rd:V->V->Hp->VK->Prop)(f:Str):TS:=λD σ H=>ta σ H λx H1=>∃a C dx fs v,x=.ref a/\H1 a=some (.ins C dx fs)/\Cls K C/\NoAttr K C f/\fs.lookup f=some v/\
 tv σ H1 λy H2=>rd v y H2 λz H3=>∃dx' fs',H3 a=some (.ins C dx' fs')/\fs'.length<1000/\D.nx σ (upd H3 a (.ins C dx' (putF f z fs')))
variable{pos':Pos}
section
variable{o value:Expr}{f:Str}{tpos:Pos}{tv:TE}
theorem GJ(he:PE X e ta)(hb:attributeBase e f X.env (eval e X.env)=eval e X.env):PE X (.Attribute e f pos) (tFld X.K ta f):=by
 intro pins s σ H Q I h
 refine Rf hb (thn (he pins s σ H _ I h) λu s1 ⟨x,H1,I1,rx,a,C,dx,fs,v,ex,ea,c,n,l,q⟩=>?_)
 subst ex
 obtain rfl:u=Value.ref a:=rx
 exact GZ I1 ea c n l λu' s2 I2 ru=>⟨v,H1,I2,ru,q⟩
theorem G5(ha:PE X o ta)(hv:PE X value tv)(hs:swapsWith value (some (.Attribute o f pos')) pos.line X.env=pure false):PS X (.Assign [.Attribute o f pos'] value pos) (sFld X.K ta tv f):=by
 intro pins s σ H D I h
 refine plainObj_wpAny_Assign_Attribute (thn (hv pins s σ H _ I h) λu s1 ⟨y,H1,I1,ry,q⟩=>thn (ha pins s1 σ H1 _ I1 q) λov s2 ⟨x,H2,I2,rx,a,C,dx,fs,ex,ea,c,n,l,q2⟩=>?_) hs
 subst ex
 obtain rfl:ov=Value.ref a:=rx
 exact GG I2 ea c n l ry λs3 I3=>⟨σ,_,I3,q2⟩
theorem MT{op:Operator}{rd:V->V->Hp->VK->Prop}(ha:PE X o ta)(hv:PE X value tv)(hop:InOp X op rd):PS X (.AugAssign (.Attribute o f tpos) op value pos) (R4 X.K ta tv rd f):=by
 intro pins s σ H D I h
 refine wpAny_AugAssign_AttributeAny (thn (ha pins s σ H _ I h) λov s1 ⟨x,H1,I1,rx,a,C,dx,fs,v,ex,ea,c,n,l,q⟩=>?_)
 subst ex
 obtain rfl:ov=Value.ref a:=rx
 refine GZ I1 ea c n l λu s2 I2 ru=>thn (hv pins s2 σ H1 _ I2 q) λw3 s3 ⟨y,H2,I3,ry,q3⟩=>thn (hop pins s3 σ H2 v y u w3 _ I3 ru ry q3) λw4 s4 ⟨z,H3,I4,rz,dx',fs',ea',l',q4⟩=>?_
 exact GG I4 ea' c n l' rz λs5 I5=>⟨σ,_,I5,q4⟩
def rAdd:V->V->Hp->VK->Prop:=λx y H Q=>∃i j,x=.int i/\y=.int j/\Q (.int (i+j)) H
theorem Qv:InOp X .Add rAdd:=by
 rintro pins s σ H x y u v Q I rx ry ⟨i,j,rfl,rfl,q⟩
 obtain⟨t,rfl⟩:=(show ∃t,u=Value.int i t from rx)
 obtain⟨t',rfl⟩:=(show ∃t',v=Value.int j t' from ry)
 exact PyProof.Rows.iadd_int ⟨.int (i+j),H,I.tok _,⟨_,rfl⟩,q⟩
end
variable{Q:Value->Shared->Prop}
section
variable{c:Value}{b:Bool}
inductive TyOf(K:Frag)(H:Hp):V->Value->Prop where
 |non:TyOf K H .non (.type "NoneType")
 |bl (x:Bool):TyOf K H (.bl x) (.type "bool")
 |int (i:Int):TyOf K H (.int i) (.type "int")
 |str (x:Str):TyOf K H (.str x) (.type "str")
 |flt (x:UInt64):TyOf K H (.flt x) (.type "float")
 |lst {a:Addr}{xs:List V}(e:H a=some (.lst xs)):TyOf K H (.ref a) (.type "list")
 |frz {a:Addr}{o:Obj}{xs:List V}(e:H a=some (.frz o (.lst xs))):TyOf K H (.ref a) (.type "list")
 |tup {a:Addr}{xs:List V}(e:H a=some (.tup xs)):TyOf K H (.ref a) (.type "tuple")
 |dK {a:Addr}{kvs:List (Key×V)}(e:H a=some (.dK kvs)):TyOf K H (.ref a) (.type "dict")
 |dT {a:Addr}{kvs:List (List Key×V)}(e:H a=some (.dT kvs)):TyOf K H (.ref a) (.type "dict")
 |ins {a C dx:Addr}{fs:List (Str×V)}(e:H a=some (.ins C dx fs)) (cl:Cls K C) (ha:findIn K (.ref C) "__class__"=some (some (.builtin "object.__class__")))
  (hn:specialIn K (.builtin "object.__class__") "__get__"=some (some (.builtin "getset_descriptor.__get__"))) (htk:PySem.W.takesIn K (.builtin "object.__class__")=some true)
  (hm:mroIn K C (.type "object")=some true):TyOf K H (.ref a) (.ref C)
theorem DX{x:V}{t:Value}(I:Inv X pins σ H s)(rx:RelV x u)(ty:TyOf X.K H x t)(e:kitOne X.K t c=some b)(h:∀tk,Q (.bool b) {s with toks:=tk}):
  wpAny (model X.prog X.w) A (call (.builtin "isinstance") [u,c]) Q E s:=by
 cases ty with
 |non=>cases(show u=Value.none from rx);exact kia_one PySem.W.kitx_none I.kIn True.intro e (λz=>nomatch z) h
 |bl y=>cases(show u=Value.bool y from rx);exact kia_one PySem.W.kitx_bool I.kIn True.intro e (λz=>nomatch z) h
 |int i=>obtain⟨t,q⟩:=(show ∃t,u=Value.int i t from rx);cases q;exact kia_one PySem.W.kitx_int I.kIn True.intro e (λz=>nomatch z) h
 |str y=>obtain⟨t,q⟩:=(show ∃t,u=Value.str y t from rx);cases q;exact kia_one PySem.W.kitx_str I.kIn True.intro e (λz=>nomatch z) h
 |flt y=>obtain⟨t,q⟩:=(show ∃t,u=Value.float y t from rx);cases q;exact kia_one PySem.W.kitx_float I.kIn True.intro e (λz=>nomatch z) h
 | @lst a xs ea=>
   cases(show u=Value.ref a from rx)
   obtain⟨_,_,n,_,h1⟩:=(show ObjOk X.prog X.w H s.heap a (.lst xs)from I.hok a _ ea)
   exact kia_one kitx_list I.kIn ⟨_,h1,rfl⟩ e (λz=>nomatch z) h
 | @frz a ob xs ea=>
   cases(show u=Value.ref a from rx)
   obtain⟨_,_,_,n,_,h1⟩:=(show ObjOk X.prog X.w H s.heap a (.frz ob (.lst xs))from I.hok a _ ea)
   exact kia_one kitx_list I.kIn ⟨_,h1,rfl⟩ e (λz=>nomatch z) h
 | @tup a xs ea=>
   cases(show u=Value.ref a from rx)
   obtain⟨_,⟨_,_,p⟩,_⟩:=(show ObjOk X.prog X.w H s.heap a (.tup xs)from I.hok a _ ea)
   obtain⟨o,h1,h2,_⟩:=p
   exact kia_one kitx_tuple I.kIn ⟨o,h1,h2⟩ e (λz=>nomatch z) h
 | @dK a kvs ea=>
   cases(show u=Value.ref a from rx)
   obtain⟨_,_,vs,_,p⟩:=(show ObjOk X.prog X.w H s.heap a (.dK kvs)from I.hok a _ ea)
   obtain⟨o,es,ep,h1,h2,_⟩:=p
   exact kia_one kitx_dict I.kIn ⟨o,h1,h2.1⟩ e (λz=>nomatch z) h
 | @dT a kvs ea=>
   cases(show u=Value.ref a from rx)
   obtain⟨_,_,xs,_,o,es,ep,h1,h2,_⟩:=(show ObjOk X.prog X.w H s.heap a (.dT kvs)from I.hok a _ ea)
   exact kia_one kitx_dict I.kIn ⟨o,h1,h2.1⟩ e (λz=>nomatch z) h
 | @ins a C dx fs ea cl ha hn htk hm=>
   cases(show u=Value.ref a from rx)
   obtain⟨mA,O,_⟩:=Gc I.hok ea
   obtain⟨od,J,_⟩:=O.look
   exact kia_one (PySem.W.kitx_own (cl.get _) cl.hd ha hn htk hm) I.kIn J e (λz=>nomatch z) h
end
structure Room(k:Nat)(A:Around):Prop where
 hd:A.handled=none
 dp:A.depth+3*k+5<recursionLimit
 un:A.units+16*k+200<cLine
theorem Room.mono{j k:Nat}(r:Room k A)(h:j<=k):Room j A:=⟨r.hd,by have:=r.dp;omega,by have:=r.un;omega⟩
theorem Room.deeper{k:Nat}(r:Room (k+1) A)(env:Env):Room k (A.deeper env):=
 ⟨r.hd,by have:=r.dp;show A.depth+1+3*k+5<_;omega,by have:=r.un;show A.units+3+16*k+200<_;omega⟩
theorem La{kw:List (Str×Value)}:(A.under (.builtin "type.__call__" ⟨.ref C::us,kw⟩)).depth=A.depth+1:=by
 first|rfl|simp[Around.under,Code.weight,Code.isCreation,Code.isGuard,Code.isCaller,Code.frames,Code.isFrame,guardIds]
theorem Kw{kw:List (Str×Value)}:(A.under (.builtin "type.__call__" ⟨.ref C::us,kw⟩)).units=A.units+1:=by
 first|rfl|simp[Around.under,Code.cUnits,Code.frames,Code.isFrame]
theorem Room.make{k:Nat}(r:Room (k+1) A)(C:Addr)(us:List Value)(kw:List (Str×Value)):Room k (A.under (.builtin "type.__call__" ⟨.ref C::us,kw⟩)):=
 ⟨r.hd,by have:=r.dp;rw[La];omega,by have:=r.un;rw[Kw];omega⟩
theorem Room.depth{k:Nat}(r:Room k A):A.depth<recursionLimit:=by have:=r.dp;omega
theorem Room.units{k:Nat}(r:Room k A):A.units+64<cLine:=by have:=r.un;omega
def tNil:TA:=λ_ H Q=>Q [] H
def Sr(ta:TE)(tr:TA):TA:=λσ H Q=>ta σ H λx H1=>tr σ H1 λxs H2=>Q (x::xs) H2
variable{es:List Expr}
section
variable{t:TA}
theorem pa_nil:PA X [] tNil:=λ_ _ _ _ H Q I h=>Calls.spliced_nil ⟨[],H,I,.nil,h⟩
abbrev Zst(X:Cx)(e:Expr)(es:List Expr):Prop:=starEach (e::es) X.env=(false,eval e X.env)::starEach es X.env
theorem Cq(ha:PE X e te)(hr:PA X es t)(hs:Zst X e es:=by rfl):PA X (e::es) (Sr te t):=by
 intro pos pins s σ H Q I h
 rw[hs]
 show wpAny _ _ (spliced ((false,eval e X.env)::backTo pos (starEach es X.env))) _ _ s
 refine Calls.spliced_cons (thn (ha pins s σ H _ I h) λu s1 ⟨x,H1,I1,r1,q1⟩=>?_)
 exact thn (hr pos pins s1 σ H1 _ I1 q1) λus s2 ⟨xs,H2,I2,r2,q2⟩=>⟨x::xs,H2,I2,.cons r1 r2,q2⟩
def tTup(t:TA):TE:=λσ H Q=>t σ H λxs H1=>xs.length<=sizeLine/\∀p,H1 p=none->Q (.ref p) (upd H1 p (.tup xs))
def tLst(t:TA):TE:=λσ H Q=>t σ H λxs H1=>xs.length<=sizeLine/\∀p,H1 p=none->Q (.ref p) (upd H1 p (.lst xs))
theorem KD{x1}(h:PA X es t):PE X (.Tuple es x1 pos) (tTup t):=by
 intro pins s σ H Q I hq
 refine wpAny_Tuple_spliced (thn (h pos pins s σ H _ I hq) λus s1 ⟨xs,H1,I1,r,z,q⟩=>⟨by rw[<-r.length];exact z,?_⟩)
 have hf:H1 s1.heap.objs.size=none:=I1.hok.fresh (le_refl _)
 refine⟨.ref s1.heap.objs.size,upd H1 s1.heap.objs.size (.tup xs),I1.laid (t':=s1.toks) (λb u e=>get?_push_of_some _ e) (le_refl _) ?_,rfl,q _ hf⟩
 exact⟨z,⟨us,r,⟨_,get?_push_size _ rfl,rfl,_,rfl⟩⟩,_,get?_push_size _ rfl,rfl⟩
theorem Ip(h:PA X es t):PE X (.List es pos) (tLst t):=by
 intro pins s σ H Q I hq
 refine wpAny_List_spliced (thn (h pos pins s σ H _ I hq) λus s1 ⟨xs,H1,I1,r,z,q⟩=>⟨by rw[<-r.length];exact z,?_⟩)
 have hf:H1 s1.heap.objs.size=none:=I1.hok.fresh (le_refl _)
 refine⟨.ref s1.heap.objs.size,upd H1 s1.heap.objs.size (.lst xs),I1.laid (t':=s1.toks) (λb u e=>get?_push_of_some _ e) (le_refl _) ?_,rfl,q _ hf⟩
 exact⟨z,us,0,r,get?_push_size _ rfl⟩
end
abbrev Sp:=List V->Hp->VK->XK->Prop
abbrev CXT:=List Env->Hp->Shared->XK->Value->Shared->Prop
structure Env0(P:Program)(w:World)(K:Frag)(mg:Str->Option Value)(base:Heap)(A:Around)(outer:List Env)(s:Shared)(H:Hp):Prop where
 frames:A.frames=some outer
 mod:Mod K mg base
 bs:∀b o,base.get? b=some o->s.heap.get? b=some o/\H b=none
 bsz:base.objs.size<=s.heap.objs.size
 funs:s.heap.FunFrames base outer
 frf:∀b∈frs outer,H b=none
 hok:HOk P w H s.heap
 bare:AllBare s.gens
def CE(outer:List Env)(P:Program)(w:World)(H:Hp)(s:Shared)(Q:VK)(u:Value)(s':Shared):Prop:=
 ∃v H',s'.os=s.os/\AllBare s'.gens/\Un (frs outer) [] H H' s.heap s'.heap/\HOk P w H' s'.heap/\RelV v u/\Q v H'
def CR(CX:CXT)(outer:List Env)(P:Program)(w:World)(H:Hp)(s:Shared)(Q:VK)(E:XK)(r:Result)(s':Shared):Prop:=
 match r with
 | .ok (.ret u)=>CE outer P w H s Q u s'
 | .ok _=>False
 | .error e=>CX outer H s E e s'
structure FnOk(P:Program)(w:World)(K:Frag)(mg:Str->Option Value)(base:Heap)(CX:CXT)(k:Nat)(f:Addr)(fd:FuncData)(ps:List Str)(sp:Sp):Prop where
 len:∀vs H Q E,sp vs H Q E->vs.length=ps.length
 run:∀(A:Around) (outer:List Env) (s:Shared) (H:Hp) (args:Args) (us:List Value) (vs:List V) (Q:VK) (E:XK),Room k A->Env0 P w K mg base A outer s H->BindsTo s fd args (ps.zip us)->Vals vs us->sp vs H Q E->
  codeAny (model P w) A (.call (.ref f) args) (CR CX outer P w H s Q E) s
variable{mg:Str->Option Value}{base:Heap}{CX:CXT}{fd:FuncData}{ps:List Str}{sp:Sp}
theorem FnOk.imp{k:Nat}{f:Addr}{sp':Sp}(F:FnOk P w K mg base CX k f fd ps sp)
  (h:∀vs H Q E,sp' vs H Q E->sp vs H Q E):FnOk P w K mg base CX k f fd ps sp':=
 ⟨λvs H Q E q=>F.len vs H Q E (h _ _ _ _ q),λA outer s H args us vs Q E hr he hb hv hs=>F.run A outer s H args us vs Q E hr he hb hv (h _ _ _ _ hs)⟩
theorem Env0.make{outer:List Env}(e:Env0 P w K mg base A outer s H)(C:Addr)(us:List Value)(kw:List (Str×Value)):
  Env0 P w K mg base (A.under (.builtin "type.__call__" ⟨.ref C::us,kw⟩)) outer s H:=⟨by first|exact e.frames|(simpa[Around.under,Code.envs,Code.isFrame,pushEnvs]using e.frames),e.mod,e.bs,e.bsz,e.funs,e.frf,e.hok,e.bare⟩
variable{s':Shared}
theorem Inv.env0(I:Inv X pins σ H s):Env0 X.prog X.w X.K X.mg X.base X.A X.stack s H:=
 ⟨I.ok.frames,I.ok.mod,I.bs,Nat.le_trans I.ok.bsz I.sz,I.stack,I.stkFree,I.hok,I.bare⟩
theorem Inv.after{Q:VK}(I:Inv X pins σ H s)(h:CE X.stack X.prog X.w H s Q u s'):EP X pins σ Q u s':=by
 obtain⟨v,H',os,bare,un,hok,r,q⟩:=h
 obtain⟨hh,g,d,t,os'⟩:=s'
 obtain rfl:os'=s.os:=os
 exact⟨v,H',I.call (h':=hh) (g':=g) (d':=d) (t':=t) (ch:=[]) un hok bare (λb z=>absurd z (by simp)),r,q⟩
def U9(sp:Sp)(dvs:List V)(E:XK)(t:TA):TE:=λσ H Q=>t σ H λvs H1=>sp (vs++dvs) H1 Q E
def Sv(C:Addr)(m:Str)(sp:Sp)(dvs:List V)(E:XK)(ta:TE)(t:TA):TE:=λσ H Q=>ta σ H λx H1=>∃a dx fs,x=.ref a/\H1 a=some (.ins C dx fs)/\fs.lookup m=none/\
 t σ H1 λvs H2=>sp (x::(vs++dvs)) H2 Q E
def Se(C:Addr)(sp:Sp)(dvs:List V)(E:XK)(t:TA):TE:=λσ H Q=>t σ H λvs H1=>∀x dx,H1 x=none->H1 dx=none->dx≠x->
 sp (.ref x::(vs++dvs)) (upd (upd H1 dx (.own x)) x (.ins C dx [])) (λv H2=>v=.non/\Q (.ref x) H2) E
def Binds(K:Frag)(fd:FuncData)(ps:List Str)(ds:List Value):Prop:=
 ∀(s:Shared) (us:List Value),K.In s.heap->(us++ds).length=ps.length->BindsTo s fd ⟨us,[]⟩ (ps.zip (us++ds))
theorem Binds.all(h:∀us:List Value,us.length=ps.length->bindArgs fd ⟨us,[]⟩=pure (ps.zip us)):Binds K fd ps []:=λs us _ hl=>by
 rw[List.append_nil]at hl ⊢
 exact .of_eq (h us hl)
def Dv(CX:CXT)(X:Cx)(E:XK):Prop:=∀(pins:List (Addr×Obj)) (σ:St) (H:Hp) (s:Shared) (e:Value) (s':Shared),Inv X pins σ H s->CX X.stack H s E e s'->X.xe e s'
variable{x m:Str}{p apos:Pos}
section
variable{k:Nat}{f:Addr}{dvs:List V}{ds:List Value}{E:XK}{o:Expr}{t:TA}
theorem KP{Q:VK}{vs:List V}(F:FnOk X.prog X.w X.K X.mg X.base CX k f fd ps sp)(hr:Room k X.A)(hb:Binds X.K fd ps ds)(hd:Vals dvs ds)(hx:Dv CX X E)
  (I:Inv X pins σ H s)(r:Vals vs us)(h:sp (vs++dvs) H Q E):wpAny (model X.prog X.w) X.A (call (.ref f) us) (EP X pins σ Q) X.xe s:=by
 have r2:Vals (vs++dvs) (us++ds):=r.append hd
 have hl:(us++ds).length=ps.length:=by rw[<-r2.length];exact F.len _ _ _ _ h
 refine wpAny_call (codeAny_mono (F.run X.A X.stack s H ⟨us,[]⟩ (us++ds) (vs++dvs) Q E hr I.env0 (hb s us I.kIn hl) r2 h) λr s' hq=>?_)
 cases r with
 |error e=>exact hx pins σ H s e s' I hq
 |ok fl=>
  cases fl with
  |ret u=>exact I.after hq
  |next=>exact False.elim hq
  |brk=>exact False.elim hq
  |cont=>exact False.elim hq
theorem Jb(F:FnOk X.prog X.w X.K X.mg X.base CX k f fd ps sp)(hr:Room k X.A)(hg:Gl X x)(hm:X.mg x=some (.ref f))(hk:keepIn X.K (.ref f)=true)(hb:Binds X.K fd ps ds)(hd:Vals dvs ds)(hx:Dv CX X E)
  (ha:PA X (e::es) t)(hdb:(x==("__debug__":Str))=false:=by decide)(he:Zst X e es:=by rfl)(hpl:(backTo pos (starEach es X.env)).any (·.1)=false:=by rfl):
  PE X (.Call (.Name x p) (e::es) [] pos) (U9 sp dvs E t):=by
 intro pins s σ H Q I h
 refine wpAny_Call_Name_kw (Gb I hg hm ?_ hdb)
 refine callWith_K (h₀:=X.base) I.ok.mod.kin hk (thn (ha pos pins s σ H _ I h) λus s1 ⟨vs,H1,I1,r,q⟩=>⟨I1.kIn,?_⟩) he hpl
 exact KP F hr hb hd hx I1 r q
theorem DS{pl:Sem Bool}(he:PE X o ta)(c:Cls X.K C)(hm:Meth X.K C m f)(F:FnOk X.prog X.w X.K X.mg X.base CX k f fd ps sp)(hr:Room k X.A)(hb:Binds X.K fd ps ds)(hd:Vals dvs ds)(hx:Dv CX X E)(ha:PA X (e::es) t)
  (hst:Zst X e es:=by rfl)(hpl:(backTo pos (starEach es X.env)).any (·.1)=false:=by rfl)
  (ht:eval (.Call (.Attribute o m apos) (e::es) [] pos) X.env=(do
   let ov <-eval o X.env
   standAt apos.atName
   let(f,first) <-holding [ov] (getMethod ov m pl)
   callWith pos f first (backTo pos (starEach (e::es) X.env)) (backToKw pos (keywordEach [] X.env))):=by rfl):
  PE X (.Call (.Attribute o m apos) (e::es) [] pos) (Sv C m sp dvs E ta t):=by
 intro pins s σ H Q I h
 refine methodCall_KW (pl:=pl) (thn (he pins s σ H _ I h) λu s1 ⟨x,H1,I1,rx,a,dx,fs,ex,ea,l,q⟩=>?_) ht
 subst ex
 obtain rfl:u=Value.ref a:=rx
 refine GY I1 ea c hm l ?_
 refine callWith_K (first:=[.ref a]) (h₀:=X.base) I.ok.mod.kin hm.kp (thn (ha pos pins s1 σ H1 _ I1 q) λus s2 ⟨vs,H2,I2,r,q2⟩=>⟨I2.kIn,?_⟩) hst hpl
 exact KP (us:=.ref a::us) (vs:=.ref a::vs) F hr hb hd hx I2 (.cons rfl r) q2
theorem GH{pl:Sem Bool}(he:PE X o ta)(c:Cls X.K C)(hm:Meth X.K C m f)(F:FnOk X.prog X.w X.K X.mg X.base CX k f fd ps sp)(hr:Room k X.A)(hb:Binds X.K fd ps ds)(hd:Vals dvs ds)(hx:Dv CX X E)
  (ht:eval (.Call (.Attribute o m apos) [] [] pos) X.env=(do
   let ov <-eval o X.env
   standAt apos.atName
   let(f,first) <-holding [ov] (getMethod ov m pl)
   callWith pos f first (backTo pos (starEach [] X.env)) (backToKw pos (keywordEach [] X.env))):=by rfl):
  PE X (.Call (.Attribute o m apos) [] [] pos) (Sv C m sp dvs E ta tNil):=by
 intro pins s σ H Q I h
 refine methodCall_KW (pl:=pl) (thn (he pins s σ H _ I h) λu s1 ⟨x,H1,I1,rx,a,dx,fs,ex,ea,l,q⟩=>?_) ht
 subst ex
 obtain rfl:u=Value.ref a:=rx
 refine GY I1 ea c hm l ?_
 exact callWith_K0 (first:=[.ref a]) I1.kIn hm.kp (KP (us:=[.ref a]) (vs:=[.ref a]) F hr hb hd hx I1 (.cons rfl .nil) q)
structure Mk(K:Frag)(C f:Addr):Prop where
 makes:makesIn K C=true
 init:findIn K (.ref C) "__init__"=some (some (.ref f))
 fn:isFn K (.ref f)=true
 kp:keepIn K (.ref C)=true
theorem J1{Q:VK}{vs:List V}(M:Mk X.K C f)(F:FnOk X.prog X.w X.K X.mg X.base CX k f fd ps sp)(hr:Room (k+1) X.A)(hb:Binds X.K fd ps ds)(hd:Vals dvs ds)
  (hx:Dv CX X E)(I:Inv X pins σ H s)(r:Vals vs us)
  (h:∀x dx,H x=none->H dx=none->dx≠x->sp (.ref x::(vs++dvs)) (upd (upd H dx (.own x)) x (.ins C dx [])) (λv H2=>v=.non/\Q (.ref x) H2) E):
  wpAny (model X.prog X.w) X.A (call (.ref C) us) (EP X pins σ Q) X.xe s:=by
 have hq:=h (s.heap.objs.size+1) s.heap.objs.size (I.hok.fresh (le_succ _)) (I.hok.fresh (le_refl _)) (ne_of_lt (Nat.lt_succ_self _))
 have I2:=Inv.made (C:=C) I
 have r2:Vals (V.ref (s.heap.objs.size+1)::(vs++dvs)) (Value.ref (s.heap.objs.size+1)::(us++ds)):=.cons rfl (r.append hd)
 have hl:(Value.ref (s.heap.objs.size+1)::us++ds).length=ps.length:=by
  have e:=r2.length
  rw[F.len _ _ _ _ hq]at e
  exact e.symm
 refine wpAny_call (Q3 (f:=f) I.kIn M.makes M.init (beq_iff_eq.mp M.fn) (codeAny_mono (F.run _ X.stack _ _ ⟨Value.ref (s.heap.objs.size+1)::us,[]⟩ (Value.ref (s.heap.objs.size+1)::(us++ds)) _ _ E (hr.make C us [])
  (I2.env0.make C us []) (hb _ (Value.ref (s.heap.objs.size+1)::us) I2.kIn hl) r2 hq) λr s' hq'=>?_))
 cases r with
 |error e=>exact hx pins σ _ _ e s' I2 hq'
 |ok fl=>
  cases fl with
  |ret u=>
   obtain⟨v,H',I3,rv,ev,q3⟩:=I2.after hq'
   subst ev
   exact⟨rv,⟨V.ref (s.heap.objs.size+1),H',I3,rfl,q3⟩⟩
  |next=>exact False.elim hq'
  |brk=>exact False.elim hq'
  |cont=>exact False.elim hq'
theorem Mu(M:Mk X.K C f)(F:FnOk X.prog X.w X.K X.mg X.base CX k f fd ps sp)(hr:Room (k+1) X.A)(hg:Gl X x)(hm:X.mg x=some (.ref C))(hb:Binds X.K fd ps ds)(hd:Vals dvs ds)(hx:Dv CX X E)
  (ha:PA X (e::es) t)(hdb:(x==("__debug__":Str))=false:=by decide)(he:Zst X e es:=by rfl)(hpl:(backTo pos (starEach es X.env)).any (·.1)=false:=by rfl):
  PE X (.Call (.Name x p) (e::es) [] pos) (Se C sp dvs E t):=by
 intro pins s σ H Q I h
 refine wpAny_Call_Name_kw (Gb I hg hm ?_ hdb)
 refine callWith_K (h₀:=X.base) I.ok.mod.kin M.kp (thn (ha pos pins s σ H _ I h) λus s1 ⟨vs,H1,I1,r,q⟩=>⟨I1.kIn,?_⟩) he hpl
 exact J1 M F hr hb hd hx I1 r q
theorem OW(M:Mk X.K C f)(F:FnOk X.prog X.w X.K X.mg X.base CX k f fd ps sp)(hr:Room (k+1) X.A)(hg:Gl X x)(hm:X.mg x=some (.ref C))(hb:Binds X.K fd ps ds)(hd:Vals dvs ds)(hx:Dv CX X E)
  (hdb:(x==("__debug__":Str))=false:=by decide):PE X (.Call (.Name x p) [] [] pos) (Se C sp dvs E tNil):=by
 intro pins s σ H Q I h
 refine wpAny_Call_Name_kw (Gb I hg hm ?_ hdb)
 exact callWith_K0 I.kIn M.kp (J1 (us:=[]) M F hr hb hd hx I .nil h)
end
def PK(X:Cx)(kws:List Keyword)(t:TA):Prop:=
 ∀(pos:Pos) (pins:List (Addr×Obj)) (s:Shared) (σ:St) (H:Hp) (Q:List V->Hp->Prop),Inv X pins σ H s->t σ H Q->wpAny (model X.prog X.w) X.A (evalAll ((backToKw pos (keywordEach kws X.env)).map (·.2))) (AP X pins σ Q) X.xe s
section
variable{k:Nat}{f:Addr}{ks:List Str}{E:XK}{kpos:Pos}{o:Expr}{kws:List Keyword}{t tk:TA}{nm:Option Str}
theorem TU:PK X [] tNil:=λ_ _ _ _ H Q I h=>wpAny_evalAll_nil ⟨[],H,I,.nil,h⟩
theorem Lv(ha:PE X e te)(hr:PK X kws t):PK X (⟨nm,e,kpos⟩::kws) (Sr te t):=by
 intro pos pins s σ H Q I h
 show wpAny _ _ (evalAll ((do let v <-eval e X.env;standAt pos;pure v)::(backToKw pos (keywordEach kws X.env)).map (·.2))) _ _ s
 refine wpAny_evalAll_cons (wpAny_bind (thn (ha pins s σ H _ I h) λu s1 ⟨x,H1,I1,r1,q1⟩=>wpAny_bind (wpAny_standAt (wpAny_pure ?_))))
 exact thn (hr pos pins s1 σ H1 _ I1 q1) λus s2 ⟨xs,H2,I2,r2,q2⟩=>⟨x::xs,H2,I2,.cons r1 r2,q2⟩
structure KBinds(K:Frag)(fd:FuncData)(ps ks:List Str)(g:List Value->List Value->List Value)(gV:List V->List V->List V):Prop where
 to:∀(s:Shared) (us ws:List Value),K.In s.heap->(g us ws).length=ps.length->BindsTo s fd ⟨us,ks.zip ws⟩ (ps.zip (g us ws))
 rel:∀{vs:List V}{us:List Value}{zs:List V}{ws:List Value},Vals vs us->Vals zs ws->Vals (gV vs zs) (g us ws)
variable{g:List Value->List Value->List Value}{gV:List V->List V->List V}
end
structure FnScope(N P:List Str)(sc:Scope):Prop where
 kind:sc.kind=.function
 co:sc.isCoroutine=false
 gen:sc.isGenerator=false
 nd:N.Nodup
 pre:N.take P.length=P
 par:∀x∈P,sc.names.lookup x=some .local\/sc.names.lookup x=some .cell
 nofree:∀y∈sc.names,y.2≠.free
theorem HM{kindOf:Str->Option NameKind}{x:Str}:∀{binds:List (Str×Value)}{m:Str->Option Value},(∀v,(x,v)∉binds)->bindL kindOf binds m x=m x
 |[],_,_=>rfl
 |(n,v)::r,m,h=>by
  unfold bindL
  rw[HM λw hw=>h w (mem_cons_of_mem _ hw)]
  split
  .have:x≠n:=by rintro rfl;exact h v mem_cons_self
   simp[this]
  .rfl
theorem HU{kindOf:Str->Option NameKind}{x:Str}:∀{binds:List (Str×Value)}{m:Str->Option Value},(∀v,(x,v)∉binds)->bindC kindOf binds m x=m x
 |[],_,_=>rfl
 |(n,v)::r,m,h=>by
  unfold bindC
  rw[HU λw hw=>h w (mem_cons_of_mem _ hw)]
  split
  .rfl
  .have:x≠n:=by rintro rfl;exact h v mem_cons_self
   simp[this]
theorem HI{kindOf:Str->Option NameKind}{x:Str}{v:Value}:∀{P:List Str}{vs:List Value}{i:Nat}{m:Str->Option Value},P.Nodup->P[i]?=some x->vs[i]?=some v->kindOf x=some .local->
  bindL kindOf (P.zip vs) m x=some v
 |[],_,_,_,_,h,_,_=>by simp at h
 |_::_,[],_,_,_,_,h,_=>by simp at h
 |p::P,w::vs,0,m,nd,h1,h2,hk=>by
  simp at h1 h2;subst h1;subst h2
  show bindL kindOf ((p,w)::P.zip vs) m p=_
  unfold bindL
  rw[HM λv hv=>(nodup_cons.mp nd).1 (of_mem_zip hv).1,if_pos hk]
  simp
 |p::P,w::vs,i+1,m,nd,h1,h2,hk=>by
  show bindL kindOf ((p,w)::P.zip vs) m x=_
  unfold bindL
  exact HI (i:=i) (nodup_cons.mp nd).2 (by simpa using h1) (by simpa using h2) hk
theorem HG{kindOf:Str->Option NameKind}{x:Str}{v:Value}:∀{P:List Str}{vs:List Value}{i:Nat}{m:Str->Option Value},P.Nodup->P[i]?=some x->vs[i]?=some v->kindOf x≠some .local->
  bindC kindOf (P.zip vs) m x=some v
 |[],_,_,_,_,h,_,_=>by simp at h
 |_::_,[],_,_,_,_,h,_=>by simp at h
 |p::P,w::vs,0,m,nd,h1,h2,hk=>by
  simp at h1 h2;subst h1;subst h2
  show bindC kindOf ((p,w)::P.zip vs) m p=_
  unfold bindC
  rw[HU λv hv=>(nodup_cons.mp nd).1 (of_mem_zip hv).1,if_neg hk]
  simp
 |p::P,w::vs,i+1,m,nd,h1,h2,hk=>by
  show bindC kindOf ((p,w)::P.zip vs) m x=_
  unfold bindC
  exact HG (i:=i) (nodup_cons.mp nd).2 (by simpa using h1) (by simpa using h2) hk
def start(N:List Str)(vs:List V):St:=vs.map some++replicate (N.length-vs.length) none
def cxOf(CX:CXT)(P:Program)(w:World)(K:Frag)(mg:Str->Option Value)(base:Heap)(N:List Str)(qual:Str)(scope:Scope)(f:Addr)(cd:Value)(A:Around)(outer:List Env)(s:Shared)(H:Hp)(E:XK):Cx where
 prog:=P
 w:=w
 K:=K
 mg:=mg
 base:=base
 A:=A.deeper (envOfC qual scope s.heap.objs.size f cd)
 N:=N
 s₀:=s
 H₀:=H
 env:=envOfC qual scope s.heap.objs.size f cd
 outer:=outer
 stack:=envOfC qual scope s.heap.objs.size f cd::outer
 ex:=[]
 calm:=true
 fn:=λ_=>true
 pn:=[]
 xe:=λe s'=>wpAny (model P w) (A.deeper (envOfC qual scope s.heap.objs.size f cd)) (leaving (envOfC qual scope s.heap.objs.size f cd) e) (λ_ s''=>CX outer H s E e s'') (λe' s''=>CX outer H s E e' s'') s'
theorem JC{sc:Scope}{n:Nat}(h:sc.names.lookup x=some .cell):∃c,(cellsFrom n sc.names []).lookup x=some c:=by
 have q:=cellsFrom_some sc.names n [] (.inl h)
 exact Option.isSome_iff_exists.mp q
theorem Np{N:List Str}{qual:Str}{scope:Scope}{f:Addr}{cd:Value}{outer:List Env}{s1:Shared}{E:XK}{vs:List V}
  (S:FnScope N ps scope)(hd:A.handled=none)(e0:Env0 P w K mg base A outer s H)(hl:vs.length=ps.length)(r:Vals vs us)
  (x:InCallC s s.heap.objs.size (bindL (envOfC qual scope s.heap.objs.size f cd).kindOf (ps.zip us) λ_=>none) (cellsFrom (s.heap.objs.size+1) scope.names []) (bindC (envOfC qual scope s.heap.objs.size f cd).kindOf (ps.zip us) λ_=>none) s1):
  Inv (cxOf CX P w K mg base N qual scope f cd A outer s H E) [] (start N vs) H s1:=by
 have hpl:ps.length<=N.length:=by have:=congrArg List.length S.pre;rw[length_take]at this;omega
 obtain⟨h1,tk,rfl,hk⟩:=x.done
 have noA:∀b:Addr,b∉(cxOf CX P w K mg base N qual scope f cd A outer s H E).ex:=λb z=>absurd (show b∈([]:List Addr)from z) (by simp)
 refine⟨⟨e0.mod,S.kind,rfl,rfl,le_refl _,λy z c h1 h2=>?_,λy hy=>?_,λy c _ h=>?_,λ_=>hd,Around.frames_deeper e0.frames,.inr ⟨rfl,rfl⟩,λb z=>absurd z (noA b),e0.bs,e0.bsz,λb _ _=>noA b,λb z=>absurd z (noA b),e0.funs,e0.frf⟩,
  rfl,e0.bare,Un.kept hk,⟨_,x.toInCall.ns,λi y v h1 h2 h3=>?_⟩,λy c h=>⟨_,x.cell y c h⟩,e0.hok.fresh (le_refl _),λy c h=>?_,λp hp=>absurd (show p∈([]:List (Addr×Obj))from hp) (by simp),e0.hok.kept hk,?_⟩
 .exact name_of_addr x.apart (PySem.mem_of_lookup h1) (PySem.mem_of_lookup h2)
 .have hy:scope.names.lookup y=some .cell\/scope.names.lookup y=some .free:=hy
  rcases hy with hy|hy
  .exact JC hy
  .exact absurd rfl (S.nofree _ (PySem.mem_of_lookup hy))
 .exact le_of_lt (x.above y c (PySem.mem_of_lookup h))
 .have hi:i<vs.length:=by
   unfold start at h2
   by_cases hi:i<vs.length
   .exact hi
   .rw[List.getElem?_append_right (by simpa using hi)]at h2
    rw[getElem?_replicate]at h2
    split at h2<;>cases h2
  have ha:vs[i]?=some v:=by
   unfold start at h2
   rw[getElem?_append_left (by simpa using hi),getElem?_map]at h2
   cases e:vs[i]? with
   |none=>rw[e]at h2;cases h2
   |some a=>rw[e]at h2;cases h2;rfl
  obtain⟨u,hu,rv⟩:=r.get ha
  have hp:ps[i]?=some y:=by
   rw[<-S.pre,List.getElem?_take_of_lt (by omega)];exact h1
  have ndP:ps.Nodup:=by rw[<-S.pre];exact S.nd.sublist (List.take_sublist _ _)
  refine⟨u,rv,?_⟩
  rcases S.par y (mem_of_getElem? hp)with k|k
  .exact .inl ⟨k,HI ndP hp hu k⟩
  .obtain⟨c,e⟩:=JC (n:=s.heap.objs.size+1) k
   refine .inr ⟨.inl k,c,e,?_⟩
   have q:=x.cell y c e
   rw[HG ndP hp hu (by show scope.names.lookup y≠_;rw[k];decide)]at q
   exact q
 .exact e0.hok.fresh (le_of_lt (x.above y c (PySem.mem_of_lookup h)))
 .unfold start
  show _=N.length
  rw[length_append,length_map,length_replicate]
  omega
theorem RX{k:Nat}{f:Addr}{qual:Str}{params:Arguments}{body:List Stmt}{scope:Scope}{dV kV doc pm cdv ct oc:Value}{an od:Option Addr}
  {osl:Array (Option Value)}{N:List Str}(lk:K.lookup f=some ⟨oc,od,.func (fnOf name qual params body scope dV kV doc pm an cdv ct),osl⟩)(hcd:codeIn K cdv qual=true)(S:FnScope N ps scope)
  (len:∀vs H Q E,sp vs H Q E->vs.length=ps.length)
  (hbody:∀(A:Around) (outer:List Env) (s:Shared) (H:Hp) (vs:List V) (Q:VK) (E:XK),Room k (A.deeper (envOfC qual scope s.heap.objs.size f cdv))->sp vs H Q E->
   ∃t,PSs (cxOf CX P w K mg base N qual scope f cdv A outer s H E) body t/\t {nx:=λ_ H'=>Q .non H',rt:=Q} (start N vs) H):
  FnOk P w K mg base CX (k+1) f (fnOf name qual params body scope dV kV doc pm an cdv ct) ps sp:=by
 refine⟨len,λA outer s H args us vs Q E hr e0 hb r hsp=>?_⟩
 have hl:=len _ _ _ _ hsp
 have KX:K.In s.heap:=e0.mod.kin.keeps λb o e=>(e0.bs b o e).1
 have lim:s.heap.NoLimit:=e0.mod.nolimit.keeps λb o e=>(e0.bs b o e).1
 have hkind:∀y∈ps.zip us,scope.names.lookup y.1=some .local\/(scope.names.lookup y.1=some .cell/\((cellsFrom (s.heap.objs.size+1) scope.names []).lookup y.1).isSome=true):=λ⟨n,v⟩ hy=>by
  rcases S.par n (of_mem_zip hy).1 with q|q
  .exact .inl q
  .exact .inr ⟨q,cellsFrom_some _ _ _ (.inl q)⟩
 refine codeAny_call_function hr.depth (KX _ _ lk) rfl S.co S.gen rfl (PySem.W.codeRec_of KX hcd) (hb _ _ _ _ ?_)
 refine wpAny_newFunctionEnv_cells S.kind hkind λenv he s1 x=>?_
 subst he
 refine⟨lim.keeps x.toInCall.keep,codeAny_func ?_⟩
 obtain⟨t,ht,hq⟩:=hbody A outer s H vs Q E (hr.deeper _) hsp
 have I:Inv (cxOf CX P w K mg base N qual scope f cdv A outer s H E) [] (start N vs) H s1:=Np S hr.hd e0 hl r x
 refine wpAny_mono (ht [] s1 (start N vs) H _ I hq) (λfl s' hs=>?_) λe s' hs=>hs
 have fin:∀{σ':St}{H':Hp}{v:V}{u:Value},Inv (cxOf CX P w K mg base N qual scope f cdv A outer s H E) [] σ' H' s'->RelV v u->Q v H'->CE outer P w H s Q u s':=
  λ{σ' H' v u} J rv q=>⟨v,H',J.os,J.bare,J.base,J.hok,rv,q⟩
 cases fl with
 |ret u=>
  obtain⟨v,σ',H',J,rv,q⟩:=hs
  exact fin J rv q
 |next=>
  obtain⟨σ',H',J,q⟩:=hs
  exact fin (v:=V.non) (u:=Value.none) J rfl q
 |brk=>
  obtain⟨_,_,_,q⟩:=hs
  exact False.elim q
 |cont=>
  obtain⟨_,_,_,q⟩:=hs
  exact False.elim q
section
variable{t:TA}{id T:String}{r:List V->Hp->VK->Prop}
def tCB(r:List V->Hp->VK->Prop)(t:TA):TE:=λσ H Q=>t σ H λvs H1=>r vs H1 Q
theorem JE(hc:CallR X (.builtin id) r)(hg:Gl X x)(hm:X.mg x=none)(hv:bootBuiltins x=some (.builtin id))(ha:PA X (e::es) t)(hn:x≠"__name__":=by decide)(hdb:(x==("__debug__":Str))=false:=by decide)
  (he:Zst X e es:=by rfl)(hpl:(backTo pos (starEach es X.env)).any (·.1)=false:=by rfl):PE X (.Call (.Name x p) (e::es) [] pos) (tCB r t):=by
 intro pins s σ H Q I h
 refine wpAny_Call_Name_kw (Dw I hg hm hv ?_ hn hdb)
 exact PyProof.Rows.callWith_builtin1 (thn (ha pos pins s σ H _ I h) λus s1 ⟨vs,H1,I1,r1,q1⟩=>hc pins s1 σ H1 vs us Q I1 r1 q1) he hpl
theorem HP(hc:CallR X (.type T) r)(hg:Gl X x)(hm:X.mg x=none)(hv:bootBuiltins x=some (.type T))(ha:PA X (e::es) t)(hn:x≠"__name__":=by decide)(hdb:(x==("__debug__":Str))=false:=by decide)
  (he:Zst X e es:=by rfl)(hpl:(backTo pos (starEach es X.env)).any (·.1)=false:=by rfl):PE X (.Call (.Name x p) (e::es) [] pos) (tCB r t):=by
 intro pins s σ H Q I h
 refine wpAny_Call_Name_kw (Dw I hg hm hv ?_ hn hdb)
 exact PyProof.Rows.callWith_type1 (thn (ha pos pins s σ H _ I h) λus s1 ⟨vs,H1,I1,r1,q1⟩=>hc pins s1 σ H1 vs us Q I1 r1 q1) he hpl
end
end L2
namespace HT
open PySem PyProof.Rows
def lexLt:List Int->List Int->Bool
 |[],[]=>false
 |[],_::_=>true
 |_::_,[]=>false
 |x::xs,y::ys=>if x=y then lexLt xs ys else decide (x<y)
theorem lexLt_cons(x y:Int)(xs ys:List Int):lexLt (x::xs) (y::ys)=if x=y then lexLt xs ys else decide (x<y):=rfl
theorem lexLt_nil_nil:lexLt [] []=false:=rfl
theorem Hi(y:Int)(ys:List Int):lexLt [] (y::ys)=true:=rfl
theorem Gs(x:Int)(xs:List Int):lexLt (x::xs) []=false:=rfl
theorem OC(A:Around)(s:Shared)(a:Int)(t:Tok)(c:Int)(u:Tok):∃e,SeqAt.EqAt A s (.int a t) (.int c u) e/\(e=true↔a=c):=
 ⟨(a==c),int_int a t c u,by simp⟩
theorem Q1(A:Around)(s:Shared)(a:Int)(t:Tok)(c:Int)(u:Tok)(prog:Program)(w:World)(E:Value->Shared->Prop)(Q:Value->Shared->Prop)(h:Q (.bool (decide (a<c))) s):
  wpAny (model prog w) A (richCompare .Lt (.int a t) (.int c u)) Q E s:=
 (PyProof.Rows.lt_int h:wpAny (model prog w) A (compareOp .Lt (.int a t) (.int c u)) Q E s)
section
open PySem.SeqAt
open PySem.AutoSeq1 (wpAny_loadPart')
open PySem.MeetsSeq PySem.MeetsSeq2 PySem.MeetsSeq3
theorem Hq(l b:Addr)(items items2:Array Value)(n n2:Nat)(dd dd2:Option Addr)(sl sl2:Array (Option Value))(ns ms:List Int)(hi:IntsAre items.toList ns)(hj:IntsAre items2.toList ms):
  Meets (Builtin.«tuple.__lt__» ⟨[.ref l,.ref b],[]⟩)
   (λ_ R s=>s.heap.get? l=some {cls:=.type "tuple",dict:=dd,data:=.seq items n,slots:=sl}/\s.heap.get? b=some {cls:=.type "tuple",dict:=dd2,data:=.seq items2 n2,slots:=sl2}/\
    R (.ok (.ret (.bool (lexLt ns ms)))) s):=
 .of_wp λprog w A R s h=>by
  obtain⟨hp,g,d,tk,os⟩:=s;obtain⟨hl,hb,h⟩:=h
  have f2:=AutoSeq1.sub_tuple_tuple
  have z1:items.size=ns.length:=by rw[<-hi.length];simp
  have z2:items2.size=ms.length:=by rw[<-hj.length];simp
  wp_walk using wpAny_loadPart' hl,wpAny_loadPart' hb,wpAny_forIn_list _ (λrest b s'=>b.1=none/\s'=⟨hp,g,d,tk,os⟩/\∃(vs ws:List Value) (ns' ms':List Int),rest=vs.zip ws/\
   IntsAre vs ns'/\IntsAre ws ms'/\ns'.length+items2.size=ms'.length+items.size/\R (.ok (.ret (.bool (lexLt ns' ms')))) ⟨hp,g,d,tk,os⟩) _
  case turn=>
   rintro⟨y,x⟩ rest b s' ⟨hb',rfl,vs,ws,ns',ms',hz,hvi,hwi,hlen,hR⟩
   cases hvi with
   |nil=>rw[List.zip_nil_left]at hz;cases hz
   |cons a t hvi'=>
    cases hwi with
    |nil=>rw[List.zip_nil_right]at hz;cases hz
    |cons c u hwi'=>
     rw[zip_cons_cons]at hz
     injection hz with hyx hrest
     injection hyx with hy hx
     subst hy hx
     rw[lexLt_cons]at hR
     simp only[length_cons]at hlen
     obtain⟨e,he,hiff⟩:=OC A.in1 ⟨hp,g,d,tk,os⟩ a t c u
     refine wpAny_bind (he prog w _ _ ?_)
     cases e with
     |true=>
      rw[if_pos (hiff.mp rfl)]at hR
      wp_walk
      exact⟨rfl,rfl,_,_,_,_,hrest,hvi',hwi',by omega,hR⟩
     |false=>
      rw[if_neg (λq=>absurd (hiff.mpr q) Bool.false_ne_true)]at hR
      have hri:=Q1 A.in1 ⟨hp,g,d,tk,os⟩ a t c u prog w
      wp_walk using hri
      exact⟨_,rfl,by simpa using hR⟩
  case fin=>
   rintro⟨b1,b2⟩ s' ⟨hb',rfl,vs,ws,ns',ms',hz,hvi,hwi,hlen,hR⟩
   simp only at hb'
   subst hb'
   have hv:lexLt ns' ms'=decide (items.size<items2.size):=by
    cases hvi with
    |nil=>
     cases hwi with
     |nil=>
      simp only[length_nil]at hlen
      rw[lexLt_nil_nil]
      exact(decide_eq_false (by omega)).symm
     |cons c u hw=>
      simp only[length_nil,length_cons]at hlen
      rw[Hi]
      exact(decide_eq_true (by omega)).symm
    |cons a t hv=>
     cases hwi with
     |nil=>
      simp only[length_nil,length_cons]at hlen
      rw[Gs]
      exact(decide_eq_false (by omega)).symm
     |cons c u hw=>
      rw[zip_cons_cons]at hz
      cases hz
   rw[hv]at hR
   wp_walk
   exact⟨_,rfl,by simpa[Builtin.Tuple.tupleCompareSizes]using hR⟩
  case h=>
   exact⟨rfl,rfl,items.toList,items2.toList,ns,ms,rfl,hi,hj,by omega,h⟩
end
section
variable{prog:Program}{w:World}{A:Around}{E:Value->Shared->Prop}{s:Shared}
theorem lt_tupInts{l b:Addr}{items items2:Array Value}{ns ms:List Int}{Q:Value->Shared->Prop}(hl:IsTup s.heap l items)(hb:IsTup s.heap b items2)(hi:IntsAre items.toList ns)(hj:IntsAre items2.toList ms)
  (hu:A.units<cLine)(h:Q (.bool (lexLt ns ms)) s):wpAny (model prog w) A (compareOp .Lt (.ref l) (.ref b)) Q E s:=by
 obtain⟨⟨cls,dd,data,sl⟩,ho,hc,n,hd⟩:=id hl
 obtain⟨⟨cls2,dd2,data2,sl2⟩,ho2,hc2,n2,hd2⟩:=id hb
 simp only at hc hd hc2 hd2
 subst hc hd hc2 hd2
 exact richCompare_meets_room (op:=.Lt) ⟨_,ho,rfl⟩ ⟨_,ho2,rfl⟩ PySem.F.slot_tuple_lt PySem.F.entry_tuple_lt (PySem.F.args_tuple_lt_2 _ _) (Hq l b items items2 n n2 dd dd2 sl sl2 ns ms hi hj)
  ⟨ho,ho2,show Value.bool (lexLt ns ms)≠Value.notImplemented/\Q (.bool (lexLt ns ms)) s from⟨(λx=>nomatch x),h⟩⟩ hu
theorem cat_tup{t b:Addr}{vs ws:List Value}{Q:Value->Shared->Prop}(ht:IsTup s.heap t vs.toArray)(hb:IsTup s.heap b ws.toArray)(hv:vs≠[])
  (h1:ws=[]->Q (.ref t) s)(h2:ws≠[]->Q (.ref s.heap.objs.size) {s with heap:=s.heap.push {cls:=.type "tuple",data:=.seq (vs++ws).toArray}})
  (hsz:vs.length+ws.length<=sizeLine):wpAny (model prog w) A (binaryOp .Add (.ref t) (.ref b)) Q E s:=by
 obtain⟨⟨cls,dd,data,sl⟩,ho,hc,n,hd⟩:=id ht
 obtain⟨⟨cls2,dd2,data2,sl2⟩,ho2,hc2,n2,hd2⟩:=id hb
 simp only at hc hd hc2 hd2
 subst hc hd hc2 hd2
 have e:vs.toArray++ws.toArray=(vs++ws).toArray:=by simp
 by_cases hw:ws=[]
 .exact concat_meets ⟨_,ho,rfl⟩ ⟨_,ho2,rfl⟩ noFill_tuple_add seq_tuple_add slot_tuple_add PySem.F.entry_tuple_add (PySem.F.args_tuple_add_2 _ _)
   (tuple_addW1 t b vs.toArray ws.toArray n n2 dd dd2 sl sl2 (by simpa using hv) (by simp[hw])) ⟨ho,ho2,h1 hw⟩
 .refine concat_meets ⟨_,ho,rfl⟩ ⟨_,ho2,rfl⟩ noFill_tuple_add seq_tuple_add slot_tuple_add PySem.F.entry_tuple_add (PySem.F.args_tuple_add_2 _ _)
   (tuple_addW2 t b vs.toArray ws.toArray n n2 dd dd2 sl sl2 (by simpa using hv) (by simpa using hw) (by rw[size_toArray,size_toArray];exact hsz)) ⟨ho,ho2,?_⟩
  rw[e]
  exact h2 hw
def sIx(n d:Nat):Option Int->Nat
 |none=>d
 |some v=>if v<0 then(v+(n:Int)).toNat else min v.toNat n
theorem sIx_nat(n d k:Nat):sIx n d (some (k:Int))=min k n:=by
 show(if(k:Int)<0 then((k:Int)+(n:Int)).toNat else min (k:Int).toNat n)=min k n
 rw[if_neg (by omega),toNat_natCast]
theorem T9(n d:Nat)(hd:d<=n)(o:Option Int):sIx n d o<=n:=by
 cases o with
 |none=>exact hd
 |some v=>
  show(if v<0 then(v+(n:Int)).toNat else min v.toNat n)<=n
  by_cases hv:v<0
  .rw[if_pos hv];omega
  .rw[if_neg hv];exact Nat.min_le_right _ _
theorem LC(v:Int)(n d:Nat):(if v<0 then max (v+(n:Int)) 0 else min v (n:Int))=((sIx n d (some v):Nat):Int):=by
 show(if v<0 then max (v+(n:Int)) 0 else min v (n:Int))=(((if v<0 then(v+(n:Int)).toNat else min v.toNat n):Nat):Int)
 by_cases hv:v<0
 .simp only[if_pos hv];omega
 .simp only[if_neg hv];omega
theorem K2(lo hi:Option Int)(n:Nat):sliceAdjust lo hi 1 (n:Int)=(((sIx n 0 lo:Nat):Int),((sIx n n hi:Nat):Int)):=by
 have h1:¬((1:Int)<0):=by omega
 unfold sliceAdjust
 simp only[h1,if_false]
 refine Prod.ext ?_ ?_
 .cases lo with
  |none=>rfl
  |some v=>exact LC v n 0
 .cases hi with
  |none=>rfl
  |some v=>exact LC v n n
theorem Li(i j:Nat):slicePlaces (i:Int) (j:Int) 1=j-i:=by
 unfold slicePlaces
 have h1:(1:Int)>0:=by omega
 simp only[h1,if_true,Int.ediv_one]
 split<;>omega
theorem GR{v:Value}{o:Option Int}{Q:Option Int->Shared->Prop}(p:IsPart v o)(h:Q o s):wpAny (model prog w) A (Builtin.Slice.slicePartIndex v) Q E s:=by
 cases p with
 |none=>exact slicePart_none h
 |int i t=>exact slicePart_int h
theorem Fi{sl:Addr}{vl vu:Value}{lo hi:Option Int}{n:Nat}{Q:Int×Int×Nat->Shared->Prop}(hs:s.heap.IsSliceOf sl vl vu .none)(pl:IsPart vl lo)(pu:IsPart vu hi)
  (h:Q (((sIx n 0 lo:Nat):Int),1,sIx n n hi-sIx n 0 lo) s):wpAny (model prog w) A (sliceApplied (.ref sl) (pure (n:Int))) Q E s:=by
 obtain⟨os,hos,hcs,hds⟩:=id hs
 unfold sliceApplied sliceFields
 refine wpAny_bind (wpAny_bind (wpAny_field hos hds (x:=vl) rfl (wpAny_bind (wpAny_field hos hds (x:=vu) rfl (wpAny_bind (wpAny_field hos hds (x:=.none) rfl (wpAny_pure ?_)))))))
 refine wpAny_bind (slicePart_none ?_)
 show wpAny _ _ (if((1:Int)==0)=true then _ else _) _ _ s
 rw[if_neg (by decide)]
 refine wpAny_bind (GR pl (wpAny_bind (GR pu (wpAny_bind (wpAny_pure ?_)))))
 show wpAny _ _ (match sliceAdjust lo hi 1 (n:Int)with|(lo,hi)=>pure (lo,(1:Int),slicePlaces lo hi 1)) _ _ s
 rw[K2 lo hi n]
 show wpAny _ _ (pure (((sIx n 0 lo:Nat):Int),(1:Int),slicePlaces ((sIx n 0 lo:Nat):Int) ((sIx n n hi:Nat):Int) 1)) _ _ s
 rw[Li]
 exact wpAny_pure h
theorem P0(xs:Array Value)(i k:Nat):((range k).filterMap λ(m:Nat)=>xs[((i:Int)+(m:Int)*1).toNat]?).toArray=((xs.toList.drop i).take k).toArray:=by
 have e:(λ(m:Nat)=>xs[((i:Int)+(m:Int)*1).toNat]?)=λm=>xs[i+m]?:=by
  funext m
  have:((i:Int)+(m:Int)*1).toNat=i+m:=by omega
  rw[this]
 rw[e]
 have:=pick_run xs i k
 rw[List.filterMap_map]at this
 have e2:((λx=>xs[x]?) ∘ λx=>i+x)=λm=>xs[i+m]?:=rfl
 rw[e2]at this
 rw[this]
theorem getItem_tuple_cut{t sl:Addr}{items:Array Value}{vl vu:Value}{lo hi:Option Int}{Q:Value->Shared->Prop}(ht:IsTup s.heap t items)(hs:s.heap.IsSliceOf sl vl vu .none)(pl:IsPart vl lo)(pu:IsPart vu hi)
  (hw:¬(sIx items.size 0 lo=0/\sIx items.size items.size hi=items.size))
  (h:Q (.ref s.heap.objs.size) {s with heap:=s.heap.push {cls:=.type "tuple",data:=.seq ((items.toList.drop (sIx items.size 0 lo)).take (sIx items.size items.size hi-sIx items.size 0 lo)).toArray}})
  (hsz:items.size<=sizeLine):wpAny (model prog w) A (getItem (.ref t) (.ref sl)) Q E s:=by
 have htake:sizeOk (.seq ((items.toList.drop (sIx items.size 0 lo)).take (sIx items.size items.size hi-sIx items.size 0 lo)).toArray):=by
  show((items.toList.drop (sIx items.size 0 lo)).take (sIx items.size items.size hi-sIx items.size 0 lo)).toArray.size<=sizeLine
  rw[size_toArray,length_take,length_drop,length_toList]
  omega
 have hj:sIx items.size items.size hi<=items.size:=T9 _ _ (le_refl _) hi
 obtain⟨os,hos,hcs,hds⟩:=id hs
 have hTs:s.TypeIs (.ref sl) "slice":=⟨os,hos,hcs⟩
 unfold getItem
 try with_reducible refine wpAny_holding ?_
 first|refine wpAny_bind (wpAny_pure ?_)|skip
 refine wpAny_bind (wpAny_sequenceKey ht.typeIs (by decide) ?_)
 refine wpAny_bind (wpAny_callSpecial?_slot (name:=Str.ofString "__getitem__") ht.typeIs PyProof.Rows.slot_tuple_getitem
  (wpAny_call_entry PyProof.Rows.slot_tuple_getitem ht.typeIs entry_tuple_getitem ?_ (args_tuple_getitem _ _)))
 show wpAny _ _ (tupleItemsOf (.ref t)>>=_) _ _ s
 refine wpAny_bind (tupleItemsOf_ ht ?_)
 refine wpAny_bind (wpAny_typeOf hTs ?_)
 rw[if_pos (by decide)]
 refine wpAny_bind (Fi hs pl pu ?_)
 have hno:¬((((sIx items.size 0 lo:Nat):Int)==0&&(1:Int)==1&&(sIx items.size items.size hi-sIx items.size 0 lo)==items.size)=true):=by
  intro q
  rw[and_eq_true,and_eq_true]at q
  have q1:((sIx items.size 0 lo:Nat):Int)=0:=eq_of_beq q.1.1
  have q2:sIx items.size items.size hi-sIx items.size 0 lo=items.size:=eq_of_beq q.2
  exact hw ⟨by omega,by omega⟩
 show wpAny _ _ (if(((sIx items.size 0 lo:Nat):Int)==0&&(1:Int)==1&&(sIx items.size items.size hi-sIx items.size 0 lo)==items.size)=true then _ else _) _ _ s
 rw[if_neg hno,P0]
 first
  |exact wpAny_bind (m:=tupleExact _) (wpAny_newObj_type (wpAny_pure ⟨_,rfl,wpAny_pure h⟩) htake)
  |exact wpAny_bind (m:=tupleExact _) (wpAny_newObj_type (wpAny_bind (wpAny_pure (wpAny_pure ⟨_,rfl,wpAny_pure h⟩))) htake)
  |exact wpAny_bind (wpAny_bind (m:=tupleExact _) (wpAny_newObj_type (wpAny_pure (wpAny_pure ⟨_,rfl,wpAny_pure h⟩)) htake))
  |exact wpAny_bind (wpAny_bind (m:=tupleExact _) (wpAny_newObj_type (wpAny_pure ⟨_,rfl,wpAny_pure h⟩) htake))
end
end HT
namespace L2
open PySem PySem.Spec PyProof.Rows
abbrev TO:=St->Hp->(Option Int->Hp->Prop)->Prop
def PO(X:Cx)(e:Option Expr)(t:TO):Prop:=
 ∀(pins:List (Addr×Obj)) (s:Shared) (σ:St) (H:Hp) (Q:Option Int->Hp->Prop),Inv X pins σ H s->t σ H Q->
  wpAny (model X.prog X.w) X.A (evalPart e X.env) (λu s'=>∃o H',Inv X pins σ H' s'/\IsPart u o/\Q o H') X.xe s
def QO:TO:=λ_ H Q=>Q none H
def Uo(t:TE):TO:=λσ H Q=>t σ H λx H1=>∃i,x=.int i/\Q (some i) H1
theorem intsAre_of{ns:List Int}:∀{us:List Value},Vals (ns.map V.int) us->IntsAre us ns:=by
 induction ns with
 |nil=>intro us r;rw[map_nil]at r;cases r;exact .nil
 |cons n ns ih=>
  intro us r
  rw[map_cons]at r
  cases r with
  |cons r1 r2=>
   obtain⟨t,e⟩:=r1
   subst e
   exact .cons n t (ih r2)
variable{X:Cx}{e:Expr}{pos:Pos}
section
variable{te:TE}{lo hi:Option Expr}{tl th:TO}{p2:Pos}
theorem Ro:PO X none QO:=by
 intro pins s σ H Q I h
 rw[evalPart_none]
 exact wpAny_pure ⟨none,H,I,.none,h⟩
theorem RQ(h:PE X e te):PO X (some e) (Uo te):=by
 intro pins s σ H Q I hw
 rw[evalPart_some]
 refine thn (h pins s σ H _ I hw) λu s1 ⟨x,H1,I1,r1,q1⟩=>?_
 obtain⟨i,rfl,q⟩:=q1
 obtain⟨t,rfl⟩:=r1
 exact⟨some i,H1,I1,.int i t,q⟩
def SlR(X:Cx)(r:V->Option Int->Option Int->Hp->VK->Prop):Prop:=
 ∀(pins:List (Addr×Obj)) (s:Shared) (σ:St) (H:Hp) (x:V) (v vl vu:Value) (lo hi:Option Int) (sl:Addr) (Q:VK),Inv X pins σ H s->RelV x v->s.heap.IsSliceOf sl vl vu .none->IsPart vl lo->IsPart vu hi->r x lo hi H Q->
  ∃T id,typeLookup (.type T) "__getitem__"=pure (some (.builtin id))/\s.TypeIs v T/\wpAny (model X.prog X.w) X.A (getItem v (.ref sl)) (EP X pins σ Q) X.xe s
def tSl(r:V->Option Int->Option Int->Hp->VK->Prop)(te:TE)(tl th:TO):TE:=λσ H Q=>te σ H λx H1=>tl σ H1 λl H2=>th σ H2 λu H3=>r x l u H3 Q
theorem Jp{r:V->Option Int->Option Int->Hp->VK->Prop}(hr:SlR X r)(he:PE X e te)(hl:PO X lo tl)(hu:PO X hi th):PE X (.Subscript e (.Slice lo hi none p2) pos) (tSl r te tl th):=by
 intro pins s σ H Q I h
 refine Subscript_ (thn (he pins s σ H _ I h) λv s1 ⟨x,H1,I1,r1,q1⟩=>?_)
 refine wpAny_Slice (thn (hl pins s1 σ H1 _ I1 q1) λvl s2 ⟨l,H2,I2,pl,q2⟩=>thn (hu pins s2 σ H2 _ I2 q2) λvu s3 ⟨u,H3,I3,pu,q3⟩=>?_)
 rw[evalPart_none]
 refine wpAny_pure ?_
 have I4:Inv X pins σ H3 {s3 with heap:=s3.heap.push {cls:=.type "slice",data:=.fields #[vl,vu,.none]}}:=I3.kept (t':=s3.toks) λb ob q=>get?_push_of_some _ q
 obtain⟨T,id,hT,ht,hg⟩:=hr pins {s3 with heap:=s3.heap.push {cls:=.type "slice",data:=.fields #[vl,vu,.none]}} σ H3 x v vl vu l u s3.heap.objs.size Q I4 r1 (Heap.IsSliceOf.new ..) pl pu q3
 show wpAny (model X.prog X.w) X.A (subscriptTail e (.Slice lo hi none p2) v (.ref s3.heap.objs.size)) (EP X pins σ Q) X.xe {s3 with heap:=s3.heap.push {cls:=.type "slice",data:=.fields #[vl,vu,.none]}}
 exact tail_any (ops:=[.ref s3.heap.objs.size,v]) ht hT hg (by with_unfolding_all rfl)
def cutV(xs:List V)(lo hi:Option Int):List V:=(xs.drop (HT.sIx xs.length 0 lo)).take (HT.sIx xs.length xs.length hi-HT.sIx xs.length 0 lo)
theorem FJ(xs:List V)(lo hi:Option Int):(cutV xs lo hi).length<=xs.length:=by
 unfold cutV
 rw[length_take,length_drop]
 omega
def rSlT(K:Frag):V->Option Int->Option Int->Hp->VK->Prop:=λx lo hi H Q=>∃a xs,x=.ref a/\SqT K H a xs/\
 ¬(HT.sIx xs.length 0 lo=0/\HT.sIx xs.length xs.length hi=xs.length)/\∀p,H p=none->Q (.ref p) (upd H p (.tup (cutV xs lo hi)))
theorem Tl:SlR X (rSlT X.K):=by
 intro pins s σ H x v vl vu lo hi sl Q I rx hs pl pu h
 obtain⟨a,xs,rfl,hx,hw,q⟩:=h
 cases rx
 obtain⟨its,r,ht,hz⟩:=I.tuple hx
 have hlen:its.toArray.size=xs.length:=by rw[size_toArray];exact r.length.symm
 refine⟨"tuple",_,PyProof.Rows.slot_tuple_getitem.lookup,ht.typeIs,?_⟩
 refine HT.getItem_tuple_cut ht hs pl pu (by rw[hlen];exact hw) ?_ (by rw[hlen];exact hz)
 rw[hlen]
 refine⟨.ref s.heap.objs.size,_,I.laid (t':=s.toks) (o:=.tup (cutV xs lo hi)) (λb ob q=>get?_push_of_some _ q) (le_refl _) ?_,rfl,q _ (I.hok.fresh (le_refl _))⟩
 exact⟨le_trans (FJ xs lo hi) hz,⟨_,(r.drop (HT.sIx xs.length 0 lo)).take (HT.sIx xs.length xs.length hi-HT.sIx xs.length 0 lo),IsTup.new _ _⟩,_,get?_push_size _ rfl,rfl⟩
def Um(K:Frag):R2:=λx y H Q=>∃a b xs ys,x=.ref a/\y=.ref b/\SqT K H a xs/\SqT K H b ys/\xs≠[]/\xs.length+ys.length<=sizeLine/\
 (ys=[]->Q (.ref a) H)/\(ys≠[]->∀p,H p=none->Q (.ref p) (upd H p (.tup (xs++ys))))
theorem Vals.nil_iff{xs:List V}{us:List Value}(r:Vals xs us):us=[]↔xs=[]:=by
 cases r with
 |nil=>simp
 |cons _ _=>simp
theorem op_catT:OpR X (binaryOp .Add) (Um X.K):=by
 intro pins s σ H x y v u Q I rx ry h
 obtain⟨a,b,xs,ys,rfl,rfl,ha,hb,hx,hz,q1,q2⟩:=h
 cases rx
 cases ry
 obtain⟨its,r1,p1,_⟩:=I.tuple ha
 obtain⟨its2,r2,p2,_⟩:=I.tuple hb
 refine HT.cat_tup p1 p2 (λz=>hx (r1.nil_iff.mp z)) (λz=>⟨.ref a,H,I,rfl,q1 (r2.nil_iff.mp z)⟩) (λz=>?_) (by rw[<-r1.length,<-r2.length];exact hz)
 refine⟨.ref s.heap.objs.size,_,I.laid (t':=s.toks) (o:=.tup (xs++ys)) (λb ob q=>get?_push_of_some _ q) (le_refl _) ?_,rfl,q2 (λw=>z (r2.nil_iff.mpr w)) _ (I.hok.fresh (le_refl _))⟩
 exact⟨by rw[length_append];exact hz,⟨_,r1.append r2,IsTup.new _ _⟩,_,get?_push_size _ rfl,rfl⟩
end
def ixN(n:Nat)(i:Int):Option Nat:=if 0<=i then(if i<n then some i.toNat else none)else if-(n:Int)<=i then some (i+n).toNat else none
def atI{α:Type}(xs:List α)(i:Int):Option α:=(ixN xs.length i).bind λj=>xs[j]?
variable{n:Nat}
theorem Mq{i:Int}{j:Nat}(h:ixN n i=some j):seqIndex? i n=some j/\j<n/\-(n:Int)<=i/\i<n:=by
 unfold ixN at h
 by_cases h0:0<=i
 .rw[if_pos h0]at h
  by_cases h1:i<n
  .rw[if_pos h1]at h
   have e:i.toNat=j:=Option.some.inj h
   exact⟨by rw[seqIndex_of h0 h1,e],by omega,by omega,h1⟩
  .rw[if_neg h1]at h;cases h
 .rw[if_neg h0]at h
  by_cases h1:-(n:Int)<=i
  .rw[if_pos h1]at h
   have e:(i+n).toNat=j:=Option.some.inj h
   exact⟨by rw[seqIndex_neg (by omega) h1,e],by omega,h1,by omega⟩
  .rw[if_neg h1]at h;cases h
variable{α:Type}
theorem Ls{xs:List α}{i:Int}{v:α}(h:atI xs i=some v):∃j,seqIndex? i xs.length=some j/\xs[j]?=some v/\j<xs.length/\-(xs.length:Int)<=i/\i<xs.length:=by
 unfold atI at h
 cases e:ixN xs.length i with
 |none=>rw[e]at h;cases h
 |some j=>
  rw[e]at h
  obtain⟨h1,h2,h3,h4⟩:=Mq e
  exact⟨j,h1,h,h2,h3,h4⟩
theorem Rj{xs:List α}{j:Nat}{v:α}(h:xs[j]?=some v):atI xs (j:Int)=some v:=by
 have hj:j<xs.length:=(List.getElem?_eq_some_iff.mp h).1
 have e:ixN xs.length (j:Int)=some j:=by
  unfold ixN
  rw[if_pos (by omega),if_pos (by omega)];simp
 unfold atI;rw[e];exact h
theorem Oi(xs:List α)(v:α):atI (xs++[v]) (-1)=some v:=by
 have hl:(xs++[v]).length=xs.length+1:=by simp
 have e:ixN (xs++[v]).length (-1)=some xs.length:=by
  unfold ixN
  rw[hl,if_neg (by decide),if_pos (by omega)]
  congr 1
  omega
 unfold atI
 rw[e]
 show(xs++[v])[xs.length]?=some v
 simp
def Gh(b:Expr):Prop:=∀o i,subscripted b false o i=operate [o,i] (getItem o i)
def IxR(X:Cx)(r:R2):Prop:=
 ∀(value slice:Expr) (pins:List (Addr×Obj)) (s:Shared) (σ:St) (H:Hp) (x y:V) (v u:Value) (Q:VK),Inv X pins σ H s->RelV x v->RelV y u->r x y H Q->
  subscripted slice false v u=operate [v,u] (getItem v u)->wpAny (model X.prog X.w) X.A (subscriptTail value slice v u) (EP X pins σ Q) X.xe s
def MtR(X:Cx)(id:String)(r:V->List V->Hp->VK->Prop):Prop:=
 ∀(pins:List (Addr×Obj)) (s:Shared) (σ:St) (H:Hp) (x:V) (xs:List V) (v:Value) (us:List Value) (Q:VK),Inv X pins σ H s->RelV x v->Vals xs us->r x xs H Q->
  wpAny (model X.prog X.w) X.A (call (.builtin id) (v::us)) (EP X pins σ Q) X.xe s
variable{T:String}
section
variable{a b:Expr}{ta tb:TE}
theorem Q7{r:R2}(hr:IxR X r)(ha:PE X a ta)(hb:PE X b tb)(hs:Gh b):PE X (.Subscript a b pos) (tOp r ta tb):=by
 intro pins s σ H Q I h
 exact Subscript_ (binT ha hb I h λv u s2 x y H2 I2 rx ry q=>hr a b pins s2 σ H2 x y v u Q I2 rx ry q (hs _ _))
def rIxL(K:Frag):R2:=λx y H Q=>∃p xs i v,x=.ref p/\y=.int i/\SqL K H p xs/\atI xs i=some v/\Q v H
def rIxT(K:Frag):R2:=λx y H Q=>∃p xs i v,x=.ref p/\y=.int i/\SqT K H p xs/\atI xs i=some v/\Q v H
theorem R7:IxR X (rIxL X.K):=by
 intro value slice pins s σ H x y v u Q I rx ry h hs
 obtain⟨p,xs,i,z,rfl,rfl,hq,he,q⟩:=h
 cases rx
 obtain⟨t,rfl⟩:=ry
 obtain⟨its,r,pl,hz⟩:=I.list hq
 obtain⟨j,h1,h2,h3,h4,h5⟩:=Ls he
 obtain⟨w,ew,rw'⟩:=r.get h2
 have hl:=r.length
 have hn:=G0
 have fin:EP X pins σ Q w s:=⟨z,H,I,rw',q⟩
 by_cases h0:0<=i
 .have hj:i.toNat=j:=by
   rw[seqIndex_of h0 h5]at h1
   exact Option.some.inj h1
  exact item_listR pl.isList h0 (by omega) (by rw[hj];simpa using ew) fin hs
 .have hj:(i+(its.toArray.size:Int)).toNat=j:=by
   rw[seqIndex_neg (by omega) h4]at h1
   rw[size_toArray,<-hl]
   exact Option.some.inj h1
  exact subscriptTail_builtinR (x:=w) pl.isList.typeIs slot_list_getitem.lookup
   (wpAny_getItem_list_neg (Q:=λr s'=>r=w/\EP X pins σ Q r s') pl.isList (by omega) (by rw[size_toArray]<;>omega) (by omega) (by rw[hj];simpa using ew) ⟨rfl,fin⟩) hs
theorem T3:IxR X (rIxT X.K):=by
 intro value slice pins s σ H x y v u Q I rx ry h hs
 obtain⟨p,xs,i,z,rfl,rfl,hq,he,q⟩:=h
 cases rx
 obtain⟨t,rfl⟩:=ry
 obtain⟨its,r,pl,hz⟩:=I.tuple hq
 obtain⟨j,h1,h2,h3,h4,h5⟩:=Ls he
 obtain⟨w,ew,rw'⟩:=r.get h2
 have hl:=r.length
 have hn:=G0
 have fin:EP X pins σ Q w s:=⟨z,H,I,rw',q⟩
 exact subscriptTail_builtinR (x:=w) pl.typeIs slot_tuple_getitem.lookup
  (getItem_tuple (j:=j) (Q:=λr s'=>r=w/\EP X pins σ Q r s') pl (by omega) (by omega) (by rw[size_toArray,<-hl];exact h1) (by simpa using ew) ⟨rfl,fin⟩) hs
theorem KY(its:List Value)(n j:Nat)(u:Value):Obj.mapSeq (·.setIfInBounds j u) {cls:=.type "list",data:=.seq its.toArray n}={cls:=.type "list",data:=.seq (its.set j u).toArray n}:=by
 simp[Obj.mapSeq]
theorem Inv.lst{pins:List (Addr×Obj)}{σ:St}{H:Hp}{s:Shared}{p:Addr}{xs:List V}(I:Inv X pins σ H s)(h:H p=some (.lst xs)):
  ∃(its:List Value) (n:Nat),Vals xs its/\s.heap.get? p=some {cls:=.type "list",data:=.seq its.toArray n}/\xs.length<=sizeLine:=by
 obtain⟨z,its,n,r,e⟩:=I.hok p _ h
 exact⟨its,n,r,e,z⟩
theorem Inv.lstUpd{pins:List (Addr×Obj)}{σ:St}{H:Hp}{s:Shared}{p:Addr}{xs ys:List V}{its its':List Value}{n':Nat}{f:Obj->Obj}(I:Inv X pins σ H s)(h:H p=some (.lst xs))
  (ho:s.heap.get? p=some {cls:=.type "list",data:=.seq its.toArray n})(hf:f {cls:=.type "list",data:=.seq its.toArray n}={cls:=.type "list",data:=.seq its'.toArray n'})(r:Vals ys its')(hz:ys.length<=sizeLine)(t:Nat):
  Inv X pins σ (upd H p (.lst ys)) {s with heap:=s.heap.update p f,toks:=t}:=by
 have e:(s.heap.update p f).get? p=some {cls:=.type "list",data:=.seq its'.toArray n'}:=by
  rw[Heap.get?_update_self f ho (by rw[hf]<;>rfl),hf]
 refine I.write (x:=p) (e:=p) (by rw[h];trivial) (.inl rfl) (λb u hb q=>(Heap.get?_update_other _ _ (Ne.symm hb)).trans q) ⟨_,e⟩ ?_
 exact⟨hz,its',n',r,e⟩
def TY:V->V->V->Hp->(Hp->Prop)->Prop:=λo i v H Q=>∃p xs k j,o=.ref p/\i=.int k/\H p=some (.lst xs)/\ixN xs.length k=some j/\Q (upd H p (.lst (xs.set j v)))
theorem set_list:PSet X TY:=by
 intro pins s σ H o i v ov iv u Q I ro ri rv h
 obtain⟨p,xs,k,j,rfl,rfl,hp,hj,q⟩:=h
 cases ro
 obtain⟨t,rfl⟩:=ri
 obtain⟨its,n,r,ho,hz⟩:=I.lst hp
 obtain⟨h1,h2,h3,h4⟩:=Mq hj
 have hl:=r.length
 have hn:=G0
 have I':Inv X pins σ (upd H p (.lst (xs.set j v))) {s with heap:=s.heap.update p (Obj.mapSeq (·.setIfInBounds j u))}:=
  I.lstUpd hp ho (KY its n j u) (r.set rv j) (by rw[length_set];exact hz) s.toks
 by_cases h0:0<=k
 .have hk:k.toNat=j:=by
   rw[seqIndex_of h0 h4]at h1
   exact Option.some.inj h1
  exact PySem.W.ki_setAt ho h0 (by omega) (by rw[size_toArray,<-hl];exact h4) (by rw[hk];exact⟨_,I',q⟩)
 .have hk:(k+(its.toArray.size:Int)).toNat=j:=by
   rw[seqIndex_neg (by omega) h3]at h1
   rw[size_toArray,<-hl]
   exact Option.some.inj h1
  exact PySem.W.ki_setBack ho (by omega) (by rw[size_toArray,<-hl];exact h3) (by omega) (by rw[hk];exact⟨_,I',q⟩)
theorem IW(lo hi:Option Int)(n:Nat):(sliceBounds lo hi none n).1=((HT.sIx n 0 lo:Nat):Int)/\(sliceBounds lo hi none n).2.1=((HT.sIx n n hi:Nat):Int)/\(sliceBounds lo hi none n).2.2=1:=by
 refine⟨?_,?_,rfl⟩
 .cases lo with
  |none=>simp[sliceBounds,HT.sIx]
  |some i=>
   simp only[sliceBounds,HT.sIx,Option.getD_none,show(1:Int)>0 by decide,if_true]
   by_cases h:i<0
   .simp only[h,if_true]<;>omega
   .simp only[h,if_false]<;>omega
 .cases hi with
  |none=>simp[sliceBounds,HT.sIx]
  |some i=>
   simp only[sliceBounds,HT.sIx,Option.getD_none,show(1:Int)>0 by decide,if_true]
   by_cases h:i<0
   .simp only[h,if_true]<;>omega
   .simp only[h,if_false]<;>omega
theorem Hv(its:List Value)(lo hi:Option Int):slicePick its.toArray lo hi none=((its.drop (HT.sIx its.length 0 lo)).take (HT.sIx its.length its.length hi-HT.sIx its.length 0 lo)).toArray:=by
 obtain⟨h1,h2,h3⟩:=IW lo hi its.toArray.size
 unfold slicePick
 rw[h1,h2,h3]
 simp only[sliceRange_one,pick_run,size_toArray]<;>rfl
def rSlL(K:Frag):V->Option Int->Option Int->Hp->VK->Prop:=λx lo hi H Q=>∃a xs,x=.ref a/\SqL K H a xs/\∀p,H p=none->Q (.ref p) (upd H p (.lst (cutV xs lo hi)))
theorem Rb:SlR X (rSlL X.K):=by
 intro pins s σ H x v vl vu lo hi sl Q I rx hs pl pu h
 obtain⟨a,xs,rfl,hx,q⟩:=h
 cases rx
 obtain⟨its,r,ht,hz⟩:=I.list hx
 have hlen:=r.length
 refine⟨"list",_,slot_list_getitem.lookup,ht.isList.typeIs,?_⟩
 refine wpAny_getItem_list_slice ht.isList hs pl pu .none (by simp) ?_ (by rw[size_toArray]<;>omega)
 rw[Hv,<-hlen]
 refine⟨.ref s.heap.objs.size,_,I.laid (t':=s.toks) (o:=.lst (cutV xs lo hi)) (λb ob q=>get?_push_of_some _ q) (le_refl _) ?_,rfl,q _ (I.hok.fresh (le_refl _))⟩
 exact⟨le_trans (FJ xs lo hi) hz,_,0,(r.drop (HT.sIx xs.length 0 lo)).take (HT.sIx xs.length xs.length hi-HT.sIx xs.length 0 lo),get?_push_size _ rfl⟩
def Ea:V->Bool
 | .non=>true
 | .bl _=>true
 | .int _=>true
 | .str _=>true
 |_=>false
def eqV:V->V->Bool
 | .non,.non=>true
 | .bl a,.bl b=>a==b
 | .bl a,.int b=>(if a then 1 else 0)==b
 | .int a,.bl b=>a==(if b then 1 else 0)
 | .int a,.int b=>a==b
 | .str a,.str b=>a==b
 |_,_=>false
theorem Kt{A:Around}{s:Shared}{y x:V}{u v:Value}(ry:RelV y u)(rx:RelV x v)(fy:Ea y=true)(fx:Ea x=true):SeqAt.EqAt A s u v (eqV y x):=by
 cases y with
 |non=>
  cases ry
  cases x with
  |non=>cases rx;exact SeqAt.EqAt.same _
  |bl b=>cases rx;exact none_bool b
  |int b=>obtain⟨t,rfl⟩:=rx;exact none_int b t
  |str b=>obtain⟨t,rfl⟩:=rx;exact none_str b t
  |_=>exact absurd (show false=true from fx) Bool.false_ne_true
 |bl a=>
  cases ry
  cases x with
  |non=>cases rx;exact bool_none a
  |bl b=>cases rx;exact bool_bool a b
  |int b=>obtain⟨t,rfl⟩:=rx;exact bool_int a b t
  |str b=>obtain⟨t,rfl⟩:=rx;exact bool_str a b t
  |_=>exact absurd (show false=true from fx) Bool.false_ne_true
 |int a=>
  obtain⟨t',rfl⟩:=ry
  cases x with
  |non=>cases rx;exact int_none a t'
  |bl b=>cases rx;exact int_bool a t' b
  |int b=>obtain⟨t,rfl⟩:=rx;exact int_int a t' b t
  |str b=>obtain⟨t,rfl⟩:=rx;exact int_str a t' b t
  |_=>exact absurd (show false=true from fx) Bool.false_ne_true
 |str a=>
  obtain⟨t',rfl⟩:=ry
  cases x with
  |non=>cases rx;exact str_none a t'
  |bl b=>cases rx;exact str_bool a t' b
  |int b=>obtain⟨t,rfl⟩:=rx;exact str_int a t' b t
  |str b=>obtain⟨t,rfl⟩:=rx;exact str_str a t' b t
  |_=>exact absurd (show false=true from fx) Bool.false_ne_true
 |_=>exact absurd (show false=true from fy) Bool.false_ne_true
def eqU(x:V)(u:Value):Bool:=match u with
 | .none=>eqV .non x
 | .bool b=>eqV (.bl b) x
 | .int i _=>eqV (.int i) x
 | .str z _=>eqV (.str z) x
 |_=>false
theorem PB{x y:V}{u:Value}(r:RelV y u)(f:Ea y=true):eqU x u=eqV y x:=by
 cases y with
 |non=>cases r;rfl
 |bl b=>cases r;rfl
 |int i=>obtain⟨t,rfl⟩:=r;rfl
 |str z=>obtain⟨t,rfl⟩:=r;rfl
 |_=>exact absurd (show false=true from f) Bool.false_ne_true
theorem EQ{x:V}:∀{xs:List V}{us:List Value},Vals xs us->xs.all Ea=true->us.any (eqU x)=xs.any λy=>eqV y x
 |_,_,.nil,_=>rfl
 |y::xs,u::us,.cons r t,f=>by
  rw[all_cons,and_eq_true]at f
  rw[any_cons,any_cons,PB r f.1,EQ t f.2]
theorem DI{A:Around}{s:Shared}{x:V}{v:Value}(rx:RelV x v)(fx:Ea x=true):∀{xs:List V}{us:List Value},Vals xs us->xs.all Ea=true->∀u∈us,SeqAt.EqAt A s u v (eqU x u)
 |_,_,.nil,_=>λu hu=>by cases hu
 |y::xs,u::us,.cons r t,f=>λu' hu=>by
  rw[all_cons,and_eq_true]at f
  rcases mem_cons.mp hu with rfl|hu
  .rw[PB r f.1];exact Kt r rx f.1 fx
  .exact DI rx fx t f.2 u' hu
def inV(x:V)(xs:List V):Bool:=xs.any λy=>eqV y x
def rIn(K:Frag)(neg:Bool):R2:=λx y H Q=>∃p xs,y=.ref p/\(SqL K H p xs\/SqT K H p xs)/\Ea x=true/\xs.all Ea=true/\Q (.bl (if neg then !inV x xs else inV x xs)) H
theorem op_in_seq:OpR X (compareOp .In) (rIn X.K false):=by
 intro pins s σ H x y v u Q I rx ry h
 obtain⟨p,xs,rfl,hq,fx,fs,q⟩:=h
 cases ry
 rcases hq with hq|hq
 .obtain⟨its,r,pl,hz⟩:=I.list hq
  refine SeqAt.in_listAt (eqU x) pl.isList (λw hw=>DI rx fx r fs w (by simpa using hw)) ⟨.bl _,H,I,rfl,?_⟩
  rw[show its.toArray.any (eqU x)=its.any (eqU x) by simp,EQ r fs]
  exact q
 .obtain⟨its,r,pl,hz⟩:=I.tuple hq
  refine SeqAt.in_tupleAt (eqU x) pl (λw hw=>DI rx fx r fs w (by simpa using hw)) ⟨.bl _,H,I,rfl,?_⟩
  rw[show its.toArray.any (eqU x)=its.any (eqU x) by simp,EQ r fs]
  exact q
theorem op_notIn_seq:OpR X (compareOp .NotIn) (rIn X.K true):=by
 intro pins s σ H x y v u Q I rx ry h
 obtain⟨p,xs,rfl,hq,fx,fs,q⟩:=h
 cases ry
 rcases hq with hq|hq
 .obtain⟨its,r,pl,hz⟩:=I.list hq
  refine SeqAt.notIn_listAt (eqU x) pl.isList (λw hw=>DI rx fx r fs w (by simpa using hw)) ⟨.bl _,H,I,rfl,?_⟩
  rw[show its.toArray.any (eqU x)=its.any (eqU x) by simp,EQ r fs]
  exact q
 .obtain⟨its,r,pl,hz⟩:=I.tuple hq
  refine SeqAt.notIn_tupleAt (eqU x) pl (λw hw=>DI rx fx r fs w (by simpa using hw)) ⟨.bl _,H,I,rfl,?_⟩
  rw[show its.toArray.any (eqU x)=its.any (eqU x) by simp,EQ r fs]
  exact q
theorem call_len_seq:CallR X (.builtin "len") (λxs H Q=>∃p ys,xs=[.ref p]/\(SqL X.K H p ys\/SqT X.K H p ys)/\Q (.int ys.length) H):=by
 intro pins s σ H xs us Q I r h
 obtain⟨p,ys,rfl,hq,q⟩:=h
 obtain⟨u,rfl,rx⟩:=vals1 r
 cases rx
 have hn:=G0
 rcases hq with hq|hq
 .obtain⟨its,r',pl,hz⟩:=I.list hq
  have hlen:=r'.length
  exact Calls.call_len_list pl.isList (by simp only[size_toArray]<;>omega) ⟨.int ys.length,H,I.tok _,⟨s.toks+1,by rw[size_toArray,hlen]⟩,q⟩
 .obtain⟨its,r',pl,hz⟩:=I.tuple hq
  have hlen:=r'.length
  exact len_tuple pl (by simp only[size_toArray]<;>omega) ⟨.int ys.length,H,I.tok _,⟨s.toks+1,by rw[size_toArray,hlen]⟩,q⟩
theorem call_len_str:CallR X (.builtin "len") (λxs H Q=>∃z,xs=[.str z]/\z.length<=sizeLine/\Q (.int z.length) H):=by
 intro pins s σ H xs us Q I r h
 obtain⟨z,rfl,hz,q⟩:=h
 obtain⟨u,rfl,t,rfl⟩:=vals1 r
 have hn:=G0
 exact len_str (by omega) ⟨.int z.length,H,I.tok _,⟨_,rfl⟩,q⟩
theorem call_list_of:CallR X (.type "list") (λxs H Q=>∃p ys,xs=[.ref p]/\(SqL X.K H p ys\/SqT X.K H p ys)/\∀l,H l=none->Q (.ref l) (upd H l (.lst ys))):=by
 intro pins s σ H xs us Q I r h
 obtain⟨p,ys,rfl,hq,q⟩:=h
 obtain⟨u,rfl,rx⟩:=vals1 r
 cases rx
 have fin:∀(its:List Value),Vals ys its->ys.length<=sizeLine->∀(h':Heap) (c':Nat),(∀b o',s.heap.get? b=some o'->h'.get? b=some o')->
   h'.get? s.heap.objs.size=some {cls:=.type "list",dict:=none,data:=.seq its.toArray c',slots:=#[]}->EP X pins σ Q (.ref s.heap.objs.size) {s with heap:=h'}:=λits r' hz h' c' kp e=>
  ⟨.ref s.heap.objs.size,_,I.laid (t':=s.toks) kp (le_refl _) (show ObjOk X.prog X.w _ h' _ (.lst ys)from⟨hz,its,c',r',e⟩),rfl,q _ (I.hok.fresh (le_refl _))⟩
 rcases hq with hq|hq
 .obtain⟨its,r',pl,hz⟩:=I.list hq
  have hlen:=r'.length
  obtain⟨o,ho,hc,n,hd⟩:=pl.isList
  exact call_list_seq p (.inl rfl) ho hc hd (λh' c' kp e=>fin its r' hz h' c' kp e) (by simp only[size_toArray]<;>omega)
 .obtain⟨its,r',pl,hz⟩:=I.tuple hq
  have hlen:=r'.length
  obtain⟨o,ho,hc,n,hd⟩:=pl
  exact call_list_seq p (.inr rfl) ho hc hd (λh' c' kp e=>fin its r' hz h' c' kp e) (by simp only[size_toArray]<;>omega)
theorem call_tuple_of:CallR X (.type "tuple") (λxs H Q=>∃p ys,xs=[.ref p]/\((SqL X.K H p ys/\∀l,H l=none->Q (.ref l) (upd H l (.tup ys)))\/(SqT X.K H p ys/\Q (.ref p) H))):=by
 intro pins s σ H xs us Q I r h
 obtain⟨p,ys,rfl,h⟩:=h
 obtain⟨u,rfl,rx⟩:=vals1 r
 cases rx
 rcases h with⟨hq,q⟩|⟨hq,q⟩
 .obtain⟨its,r',pl,hz⟩:=I.list hq
  have hlen:=r'.length
  refine call_tuple_list pl.isList (λh' kp=>?_) (by simp only[size_toArray]<;>omega)
  have I1:Inv X pins σ H {s with heap:=h'}:=I.kept (t':=s.toks) kp
  have I2:Inv X pins σ (upd H h'.objs.size (.tup ys)) {s with heap:=h'.push {cls:=.type "tuple",data:=.seq its.toArray}}:=
   I1.laid (t':=s.toks) (λb o e=>get?_push_of_some _ e) (le_refl _) (show ObjOk X.prog X.w _ _ _ (.tup ys)from⟨hz,⟨its,r',IsTup.new _ _⟩,_,get?_push_size _ rfl,rfl⟩)
  exact⟨.ref h'.objs.size,_,I2,rfl,q _ (I1.hok.fresh (le_refl _))⟩
 .obtain⟨its,r',pl,hz⟩:=I.tuple hq
  exact call_tuple_same pl ⟨.ref p,H,I,rfl,q⟩
def tyV(K:Frag)(T:String)(x:V)(H:Hp):Prop:=match x with
 | .str _=>T="str"
 | .int _=>T="int"
 | .ref p=>(T="list"/\∃xs,SqL K H p xs)\/(T="tuple"/\∃o,K.lookup p=some o/\o.cls=.type "tuple"/\o.dict=none)\/
   (T="dict"/\((∃kvs,H p=some (.dK kvs))\/∃kvs,H p=some (.dT kvs)))\/(T="set"/\∃S n,H p=some (.set S n))
 |_=>False
theorem P9{pins:List (Addr×Obj)}{σ:St}{H:Hp}{s:Shared}{T:String}{x:V}{v:Value}(I:Inv X pins σ H s)(r:RelV x v)(ty:tyV X.K T x H):
  s.TypeIs v T/\∀a,v=.ref a->∃ob,s.heap.get? a=some ob/\ob.dict=none:=by
 cases x with
 |str z=>
  obtain⟨t,rfl⟩:=r
  cases(show T="str"from ty)
  exact⟨typeIs_str s z t,λ_ e=>nomatch e⟩
 |int i=>
  obtain⟨t,rfl⟩:=r
  cases(show T="int"from ty)
  exact⟨typeIs_int s i t,λ_ e=>nomatch e⟩
 |ref p=>
  cases r
  rcases ty with⟨rfl,xs,hq⟩|⟨rfl,o,hk,hc,hd⟩|⟨rfl,hk⟩|⟨rfl,S,n,hk⟩
  .obtain⟨its,_,pl,_⟩:=I.list hq
   refine⟨pl.isList.typeIs,λa e=>?_⟩
   cases e
   obtain⟨o,n,e,c,hd,_⟩:=pl
   exact⟨o,e,hd⟩
  .refine⟨⟨o,I.kIn p o hk,hc⟩,λa e=>?_⟩
   cases e
   exact⟨o,I.kIn _ o hk,hd⟩
  .have z:∃o,s.heap.get? p=some o/\o.ExactDict:=by
    rcases hk with⟨kvs,hk⟩|⟨kvs,hk⟩
    .obtain⟨_,_,_,_,o,_,_,e,ex,_⟩:=I.hok p _ hk
     exact⟨o,e,ex⟩
    .obtain⟨_,_,_,_,o,_,_,e,ex,_⟩:=I.hok p _ hk
     exact⟨o,e,ex⟩
   obtain⟨o,e,ex⟩:=z
   refine⟨⟨o,e,ex.1⟩,λa e2=>?_⟩
   cases e2
   exact⟨o,e,ex.2.1⟩
  .obtain⟨o,_,_,_,e,ex,_⟩:=I.hok p _ hk
   refine⟨⟨o,e,ex.1⟩,λa e2=>?_⟩
   cases e2
   exact⟨o,e,ex.2.1⟩
 |_=>exact False.elim ty
def tBM(K:Frag)(T:String)(r:V->List V->Hp->VK->Prop)(to:TE)(t:TA):TE:=λσ H Q=>to σ H λx H1=>tyV K T x H1/\t σ H1 λxs H2=>r x xs H2 Q
variable{o:Expr}{es:List Expr}{to:TE}{t:TA}{name:Str}{apos cpos:Pos}{id:String}{r:V->List V->Hp->VK->Prop}
theorem Jg(pa:PlainAttrs T)(slot:Slot T name id)(hty:typeOf (.builtin id)=pure (.type "method_descriptor"))(hm:MtR X id r)(ho:PE X o to)(ha:PA X (e::es) t)
  (hbase:attributeBase o name X.env (eval o X.env)=eval o X.env:=by rfl)
  (hfew:((backTo cpos (starEach (e::es) X.env)).all (λx=>!x.1)&&(backToKw cpos (keywordEach [] X.env)).all (λx=>x.1.isSome)
   &&decide ((e::es).length+([]:List Keyword).length+(if([]:List Keyword).isEmpty then 0 else 1)<30))=true:=by rfl)
  (hline:(apos.endLine==cpos.line)=true:=by rfl)(hs:Zst X e es:=by rfl)(hplain:(backTo cpos (starEach es X.env)).any (·.1)=false:=by rfl):
  PE X (.Call (.Attribute o name apos) (e::es) [] cpos) (tBM X.K T r to t):=by
 intro pins s σ H Q I h
 refine wpAny_Call_method_late hbase hfew hline rfl (thn (ho pins s σ H _ I h) λv s1 ⟨x,H1,I1,r1,ty,q1⟩=>?_)
 obtain⟨h1,h2⟩:=P9 I1 r1 ty
 refine⟨T,id,pa,slot,hty,h1,h2,?_⟩
 have hA:=ha cpos pins s1 σ H1 _ I1 q1
 rw[hs]at hA ⊢
 refine Calls.callWith_builtin (by show(false||(backTo cpos (starEach es X.env)).any (·.1))=false;rw[hplain]<;>rfl) (Calls.evalArgs_plain ?_)
 exact thn hA λus s2 ⟨vs,H2,I2,r2,q2⟩=>hm pins s2 σ H2 x vs v us Q I2 r1 r2 q2
end
def MtM(X:Cx)(id:String)(r:V->List V->Hp->VK->Prop):Prop:=
 ∀(pins:List (Addr×Obj)) (s:Shared) (σ:St) (H:Hp) (x:V) (xs:List V) (v:Value) (us:List Value) (Q:VK),Inv X pins σ H s->RelV x v->Vals xs us->r x xs H Q->
  wpAny (model X.prog X.w) X.A (call (.builtin id) (v::us)) (EP X pins σ Q) X.xe s
theorem Vals.one:∀{x:V}{us:List Value},Vals [x] us->∃u,us=[u]/\RelV x u
 |_,_,.cons r .nil=>⟨_,rfl,r⟩
variable{xs:List V}
theorem Vals.rep{us:List Value}(h:Vals xs us):∀k:Nat,Vals (List.replicate k xs).flatten (List.replicate k us).flatten
 |0=>.nil
 |k+1=>by
  rw[List.replicate_succ,List.replicate_succ,List.flatten_cons,List.flatten_cons]
  exact Vals.append h (Vals.rep h k)
theorem foldl_rep(its:List Value):∀(k:Nat) (acc:List Value),
  foldl (λx1 x2=>x1++x2) acc.toArray (replicate k its.toArray)=(acc++(replicate k its).flatten).toArray
 |0,acc=>by simp
 |k+1,acc=>by
  have e:acc.toArray++its.toArray=(acc++its).toArray:=by simp
  have e2:(acc++its)++(replicate k its).flatten=acc++(replicate (k+1) its).flatten:=by
   rw[replicate_succ,flatten_cons,List.append_assoc]
  rw[<-e2,<-foldl_rep its k (acc++its),<-e,replicate_succ,foldl_cons]
variable{pins:List (Addr×Obj)}{σ:St}{H:Hp}{s:Shared}{ys:List V}
section
variable{l b:Addr}{zs:List V}
theorem Inv.lset{its its':List Value}{f:Array Value->Array Value}{t':Nat}(I:Inv X pins σ H s)(hH:H l=some (.lst xs))
  (e:s.heap.get? l=some {cls:=.type "list",data:=.seq its.toArray n})(hf:f its.toArray=its'.toArray)(hv:Vals ys its')(hz:ys.length<=sizeLine):
  Inv X pins σ (upd H l (.lst ys)) {s with heap:=s.heap.update l (Obj.mapSeq f),toks:=t'}:=by
 have q:=PySem.IsL.update e f
 rw[hf]at q
 refine I.write (x:=l) (e:=l) (by rw[hH];exact trivial) (.inl rfl) (λb' u hb hu=>(Heap.get?_update_other s.heap (Obj.mapSeq f) (Ne.symm hb)).trans hu) ⟨_,q⟩ ?_
 exact⟨hz,its',_,hv,q⟩
theorem Inv.lnew{its:List Value}{t':Nat}(I:Inv X pins σ H s)(hv:Vals ys its)(hz:ys.length<=sizeLine):
  Inv X pins σ (upd H s.heap.objs.size (.lst ys)) {s with heap:=s.heap.push {cls:=.type "list",data:=.seq its.toArray},toks:=t'}:=
 I.laid (λ_ _ q=>Heap.get?_push_of_some _ q) (Nat.le_refl _) ⟨hz,its,0,hv,Heap.get?_push_size _ rfl⟩
theorem Inv.lstM(I:Inv X pins σ H s)(hH:H l=some (.lst xs)):xs.length<=sizeLine/\∃(its:List Value) (n:Nat),Vals xs its/\xs.length=its.length/\s.heap.get? l=some {cls:=.type "list",data:=.seq its.toArray n}:=by
 obtain⟨z,its,n,r,e⟩:=I.hok l _ hH
 exact⟨z,its,n,r,r.length,e⟩
theorem Qh(h:n<=sizeLine):Builtin.List.listTooLong n=false:=by
 unfold Builtin.List.listTooLong
 exact decide_eq_false (by omega)
end
def RL:V->List V->Hp->VK->Prop:=λx vs H Q=>∃l xs y,x=.ref l/\vs=[y]/\H l=some (.lst xs)/\xs.length<sizeLine/\Q .non (upd H l (.lst (xs++[y])))
theorem Fg:MtM X "list.append" RL:=by
 intro pins s σ H x vs v us Q I rx rv h
 obtain⟨l,xs,y,rfl,rfl,hH,hz,q⟩:=h
 cases rx
 obtain⟨u,rfl,ru⟩:=rv.one
 obtain⟨z,its,n,r,hl,e⟩:=I.lstM hH
 refine call_meets F.slot_list_append ⟨_,e,rfl⟩ F.entry_list_append (F.args_list_append_2 _ _) (PySem.list_append l its.toArray n u (by rw[size_toArray];omega)) ⟨e,?_⟩
 refine⟨.non,_,I.lset (its':=its++[u]) hH e (by simp) (r.append (.cons ru .nil)) ?_,rfl,q⟩
 rw[length_append,List.length_singleton]
 omega
theorem len_rep(xs:List α)(k:Nat):(replicate k xs).flatten.length=k*xs.length:=by
 induction k with
 |zero=>simp
 |succ k ih=>rw[replicate_succ,flatten_cons,length_append,ih,Nat.succ_mul,add_comm]
variable{A:Around}
section
variable{prog:Program}{w:World}{E:Value->Shared->Prop}
end
end L2
namespace Att
open PySem PySem.W PySem.Calls PyProof.Rows
theorem FM{P:Params}{h:Heap}:∀(ns:List Int) (vs:List Value),WellAll P h vs (ns.map WData.int)->IntsAre vs ns:=by
 intro ns
 induction ns with
 |nil=>
  intro vs w
  rw[map_nil]at w
  cases w
  exact .nil
 |cons n ns ih=>
  intro vs w
  rw[map_cons]at w
  cases w with
  |cons a b=>
   cases a
   exact .cons _ _ (ih _ b)
theorem Nb{l:OpenLaw}{n:Nat}(hn:l.most=some n){P:Params}{h:Heap}{args:List WData}{vals:List Value}
  (hpre:l.row.toRowW.claim.pre args=true)(hwl:WellAll P h vals args):
  ∃a vs ns,vals=[Value.ref a]/\args=[WData.list (ns.map WData.int)]/\h.get? a=some {cls:=.type "list",data:=.seq vs.toArray}/\IntsAre vs ns/\ns.length<=n:=by
 have hsh:WShape.hasAll [] args [.list .int]=true:=(pre_splitW hpre).1
 have hc:l.pre.holds [] {args:=args}=true:=(pre_splitW hpre).2
 obtain⟨d,r,rfl,h1,h2⟩:=hasAllW_cons hsh
 obtain rfl:=hasAllW_nil h2
 obtain⟨xs,rfl,h3⟩:=hasW_list h1
 obtain⟨ns,rfl⟩:=items_int h3
 have hlen:ns.length<=n:=by
  unfold OpenLaw.pre at hc
  have h4:(WTm.not (.lt (.lit (.int (n:Int))) (.len (.arg 0)))).holds [] {args:=[.list (ns.map .int)]}=true:=by
   have h4:=(holds_andW hc).1
   rw[hn]at h4
   exact h4
  have h5:=condW_of h4 (w_not (w_lt w_lit (w_len_list (w_arg rfl))))
  rw[length_map]at h5
  refine Nat.le_of_not_lt λq=>?_
  have q':(n:Int)<((ns.length:Nat):Int):=by omega
  first
   |(rw[decide_eq_true q']at h5;exact absurd h5 (by decide))
   |(simp at h5;omega)
 cases hwl with
 |cons w1 w2=>
  cases w2
  cases w1 with
  |list ho hall=>exact⟨_,_,ns,rfl,rfl,ho,FM ns _ hall,hlen⟩
theorem Nt(l:OpenLaw)(args:List WData):l.row.toRowW.claim.post args (.bool true) args=true:=
 postW_of (r:=l.row.toRowW) (X:=(true==true))
  (show WShape.has [] (.bool true) .bool=true by first|rfl|decide|simp[WShape.has,WShape.arms,WShape.armsAll])
  (show(WTm.eq .res (.lit (.bool true))).value [] {args:=args,res:=some (.bool true),after:=args}=some (.bool (true==true))from w_eq_bool (w_res rfl) w_lit) rfl
theorem attach_call{l:OpenLaw}{n:Nat}{q:Program}{loose:List Str}{XP:(Str->Option Value)->Heap->Prop}{YP:World->Heap->Prop}{d:DefRec}
  (hn:l.most=some n)(hdf:d.params.defaults=[])
  (call:∀(w:World) (s₀ s₁:Shared) (mg mb:Str->Option Value) (fa:Addr) (o:Obj) (pm cd doc:Value) (a:Addr) (vs:List Value) (ns:List Int),
   Ground q loose [] XP w s₀ mg mb s₁.heap->YP w s₁.heap->
   s₁.heap.get? fa=some o->o.data=.func (docDef d.name d.params d.body d.scope pm cd doc)->s₁.heap.CodeRec cd d.name->mg d.name=some (.ref fa)->
   s₁.heap.get? a=some {cls:=.type "list",data:=.seq vs.toArray}->IntsAre vs ns->ns.length<=n->s₁.gens=#[]->
   codeAny (model l.prog w) callerA (.call (.ref fa) ⟨[.ref a],[]⟩) (λr s'=>r=.ok (.ret (.bool true))/\OldK s₁.heap s'.heap/\s'.os=s₁.os/\AllBare s'.gens) s₁):
  WalkO q loose XP YP l.row.toRowW d [] (λf vs=>PySem.call f vs):=by
 intro w s₀ s₁ mg mb G Y fa o pm cd doc dV kV ho hd hcd hD hmg hg args vals as hpre hlay hrd hwl hlo
 obtain rfl:dV=.none:=Dflts.none hD hdf
 obtain rfl:kV=.none:=Dflts.noKw hD
 obtain⟨a,vs,ns,rfl,rfl,hobj,hints,hlen⟩:=Nb hn hpre hwl
 refine enter_call (codeAny_mono (call w s₀ s₁ mg mb fa o pm cd doc a vs ns G Y ho (fd_plain hd) hcd hmg hobj hints hlen hg) λr s' hq=>?_)
 obtain⟨rfl,h2,h3,h4⟩:=hq
 exact⟨.inl ⟨.bool true,.bool true,[],rfl,λ_=>rfl,.bool true,Nt l _,λ_=>⟨List.Pairwise.nil,λ_ hm=>(nomatch hm)⟩⟩,h2,h3,h4⟩
section
variable{prog:Program}{w:World}{A:Around}{E:Value->Shared->Prop}{s:Shared}{K:Frag}
end
end Att
namespace L2
open PySem PySem.Spec PyProof.Rows
theorem HY:∀{vs:List Value}{ns:List Int},IntsAre vs ns->Vals (ns.map V.int) vs
 |_,_,.nil=>.nil
 |_,_,.cons n t h=>.cons ⟨t,rfl⟩ (HY h)
def inClass(s:Stmt)(j:Nat):Stmt:=match s with
 | .ClassDef _ _ _ body _ _ _ _ _ _ _=>body.getD j (.Pass ⟨0,0,0,0⟩)
 |_=>.Pass ⟨0,0,0,0⟩
def BT(s:Stmt):Arguments:=match s with
 | .FunctionDef _ a _ _ _ _ _ _ _ _=>a
 |_=>{posonlyargs:=[],args:=[],vararg:=none,kwonlyargs:=[],kw_defaults:=[],kwarg:=none,defaults:=[]}
def AB(s:Stmt):List Stmt:=match s with
 | .FunctionDef _ _ b _ _ _ _ _ _ _=>b
 |_=>[]
def Ad(s:Stmt):Scope:=match s with
 | .FunctionDef _ _ _ _ _ _ sc _ _ _=>sc
 |_=>{kind:=.function,names:=[],isGenerator:=false,isCoroutine:=false}
abbrev CX0:CXT:=λ_ _ _ _ _ _=>False
abbrev E0:XK:=λ_ _ _=>False
variable{X:Cx}
theorem Ci:Dv CX0 X E0:=λ_ _ _ _ _ _ _ h=>h.elim
structure Fun(K:Frag)(x qual:Str)(st:Stmt)(f:Addr)(fd:FuncData):Prop where
 ex:∃(oc:Value) (od:Option Addr) (kV doc pm:Value) (an:Option Addr) (cdv ct:Value) (osl:Array (Option Value)),
  fd=fnOf x qual (BT st) (AB st) (Ad st) .none kV doc pm an cdv ct/\K.lookup f=some ⟨oc,od,.func fd,osl⟩/\codeIn K cdv qual=true
 kp:keepIn K (.ref f)=true
variable{P:Program}{w:World}{K:Frag}{mg:Str->Option Value}{base:Heap}
theorem Fun.ok{x qual:Str}{st:Stmt}{f:Addr}{fd:FuncData}{N ps:List Str}{k:Nat}{sp:Sp}(F:Fun K x qual st f fd)(S:FnScope N ps (Ad st))(len:∀vs H Q E,sp vs H Q E->vs.length=ps.length)
  (hbody:∀(cdv:Value) (A:Around) (outer:List Env) (s:Shared) (H:Hp) (vs:List V) (Q:VK) (E:XK),Room k (A.deeper (envOfC qual (Ad st) s.heap.objs.size f cdv))->sp vs H Q E->
   ∃t,PSs (cxOf CX0 P w K mg base N qual (Ad st) f cdv A outer s H E).nox (AB st) t/\t {nx:=λ_ H'=>Q .non H',rt:=Q} (start N vs) H):FnOk P w K mg base CX0 (k+1) f fd ps sp:=by
 obtain⟨oc,od,kV,doc,pm,an,cdv,ct,osl,rfl,lk,hcd⟩:=F.ex
 refine RX lk hcd S len λA outer s H vs Q E hr hsp=>?_
 obtain⟨t,h,q⟩:=hbody cdv A outer s H vs Q E hr hsp
 exact⟨t,h.nox,q⟩
theorem Fun.binds{x qual:Str}{st:Stmt}{f:Addr}{fd:FuncData}{ps:List Str}(F:Fun K x qual st f fd)
  (h:∀(kV doc pm:Value) (an:Option Addr) (cdv ct:Value) (us:List Value),us.length=ps.length->bindArgs (PySem.W.fnOf x qual (BT st) (AB st) (Ad st) .none kV doc pm an cdv ct) ⟨us,[]⟩=pure (ps.zip us)):Binds K fd ps []:=by
 obtain⟨oc,od,kV,doc,pm,an,cdv,ct,osl,rfl,lk,hcd⟩:=F.ex
 exact .all (h kV doc pm an cdv ct)
theorem IB{x qual:Str}{st:Stmt}{f:Addr}{oc:Value}{od an:Option Addr}{osl:Array (Option Value)}{kV doc pm cdv ct:Value}(l:K.lookup f=some ⟨oc,od,.func (fnOf x qual (BT st) (AB st) (Ad st) .none kV doc pm an cdv ct),osl⟩)
  (c:codeIn K cdv qual=true)(k:keepIn K (.ref f)=true):Fun K x qual st f (fnOf x qual (BT st) (AB st) (Ad st) .none kV doc pm an cdv ct):=⟨⟨oc,od,kV,doc,pm,an,cdv,ct,osl,rfl,l,c⟩,k⟩
theorem pv(i:Nat){x:Str}{pos:Pos}(hN:X.N[i]?=some x:=by rfl)(hv:Vis X.env.scope x:=by first|exact inl rfl|exact inr (inl rfl)|exact inr (inr rfl))(hd:(x==("__debug__":Str))=false:=by decide)
  (hcd:(x==("__classdict__":Str))=false:=by decide):PE X (.Name x pos) (tVar i):=SC hN hv hd hcd
theorem iteF{A B:Prop}(h:B):if false=true then A else B:=by
 rw[if_neg Bool.false_ne_true]
 exact h
theorem iteT{A B:Prop}(h:A):if true=true then A else B:=by
 rw[if_pos rfl]
 exact h
def Same(H H':Hp):Prop:=∀b o,H b=some o->H' b=some o
theorem Same.refl(H:Hp):Same H H:=λ_ _ h=>h
variable{H:Hp}
theorem Same.trans{H1 H2:Hp}(a:Same H H1)(b:Same H1 H2):Same H H2:=λc o h=>b c o (a c o h)
variable{H':Hp}
theorem Same.free(e:Same H H'){l:Addr}(h:H' l=Option.none):H l=Option.none:=by
 cases q:H l with
 |none=>rfl
 |some o=>
  rw[e l o q]at h
  cases h
variable{a:Addr}
theorem Same.seq{xs:List V}(e:Same H H')(h:SqL K H a xs):SqL K H' a xs:=by
 rcases h with(h|⟨o,h⟩)|h
 .exact .inl (.inl (e _ _ h))
 .exact .inl (.inr ⟨o,e _ _ h⟩)
 .exact .inr h
def OwnG(k:Nat)(g:TG):Prop:=∀v σ H (Q Q':St->Hp->Prop),
 (∀σ2 H2,σ2.length=σ.length->(∀j,k<=j->σ2[j]?=σ[j]?)->Q σ2 H2->Q' σ2 H2)->g v σ H Q->g v σ H Q'
def L4(k:Nat)(t:TGs):Prop:=∀vs σ H (Q Q':St->Hp->Prop),
 (∀σ2 H2,σ2.length=σ.length->(∀j,k<=j->σ2[j]?=σ[j]?)->Q σ2 H2->Q' σ2 H2)->t vs σ H Q->t vs σ H Q'
theorem BW{k i:Nat}(h:i<k):OwnG k (BI i):=by
 intro v σ H Q Q' m q
 refine m _ _ (by simp) (λj hj=>?_) q
 rw[getElem?_set_ne (by omega)]
theorem Lu{k:Nat}:L4 k gNil:=λvs σ H Q Q' m ⟨e,q⟩=>⟨e,m _ _ rfl (λ_ _=>rfl) q⟩
theorem EX{k:Nat}{t:TG}{u:TGs}(ht:OwnG k t)(hu:L4 k u):L4 k (JK t u):=by
 rintro vs σ H Q Q' m ⟨v,r,e,q⟩
 refine⟨v,r,e,ht v σ H _ _ (λσ2 H2 l2 k2 q2=>?_) q⟩
 exact hu r σ2 H2 _ _ (λσ3 H3 l3 k3 q3=>m σ3 H3 (l3.trans l2) (λj hj=>(k3 j hj).trans (k2 j hj)) q3) q2
theorem Mz{k n:Nat}{t:TGs}(ht:L4 k t):OwnG k (gTup K n t):=by
 rintro v σ H Q Q' m ⟨a,xs,e,hs,hl,q⟩
 exact⟨a,xs,e,hs,hl,ht xs σ H Q Q' m q⟩
def A8(X:Cx)(scope:Scope)(cl:List (Str×Addr))(C:Addr)(N:List Str)(s:Shared)(H:Hp)(ex:List Addr):Cx:=
 {X with N:=N,s₀:=s,H₀:=H,env:=compEnvC scope cl C X.env,outer:=X.stack,ex:=ex,fn:=λ_=>false,pn:=[],xe:=λ_ _=>False}
def CB(osc:Scope)(oN:List Str)(k:Nat)(ix:List Nat)(N:List Str)(scope:Scope):Prop:=
 scope.kind=.function/\(∀y∈scope.names,y.2≠.cell)/\(∀y∈scope.names,y.2=.local->scope.names.lookup y.1=some .local)/\
 (∀y∈scope.names,y.2=.free->osc.names.lookup y.1=some .cell\/osc.names.lookup y.1=some .free)/\
 N.length=k+ix.length/\(∀p∈(N.drop k).zip ix,oN[p.2]?=some p.1/\scope.names.lookup p.1=some .free)
instance{osc:Scope}{oN:List Str}{k:Nat}{ix:List Nat}{N:List Str}{scope:Scope}:Decidable (CB osc oN k ix N scope):=by
 unfold CB
 exact inferInstance
def outS(ix:List Nat)(σ:St):St:=ix.map λi=>(σ[i]?).getD none
theorem E3(env:Env):∀(ns:List (Str×NameKind)) (acc:List (Str×Addr)),(∀y∈ns,y.2=.free->∃c,env.cells.lookup y.1=some c)->
  ∃cl,(forIn (m:=Sem) ns acc λ(y:Str×NameKind) r=>match y with
   |(n,k)=>if(k==.free)=true then(do let c <-cellOf env n;pure (yield ((n,c)::r)))else pure (yield r))=pure cl/\
   (∀n c,cl.lookup n=some c->acc.lookup n=some c\/env.cells.lookup n=some c)/\∀n,((acc.lookup n).isSome=true\/(n,NameKind.free)∈ns)->(cl.lookup n).isSome=true
 |[],acc,_=>⟨acc,rfl,λ_ _ h=>.inl h,λn h=>h.elim id λz=>by cases z⟩
 |(n,k)::ns,acc,h=>by
  by_cases hk:k=.free
  .subst hk
   obtain⟨c,hc⟩:=h (n,.free) mem_cons_self rfl
   obtain⟨cl,e,p,q⟩:=E3 env ns ((n,c)::acc) λy hy=>h y (mem_cons_of_mem _ hy)
   refine⟨cl,?_,λm d hm=>?_,λm hm=>?_⟩
   .rw[forIn_cons]
    simp only[cellOf,hc,beq_self_eq_true,if_true,pure_bind]
    exact e
   .rcases p m d hm with z|z
    .rw[lookup_cons]at z
     split at z
     .rename_i hmn
      cases z
      have:m=n:=by simpa using hmn
      subst this
      exact .inr hc
     .exact .inl z
    .exact .inr z
   .refine q m ?_
    rw[lookup_cons]
    split
    .exact .inl rfl
    .rename_i hmn
     rcases hm with z|z
     .exact .inl z
     .rcases mem_cons.mp z with z|z
      .cases z
       simp at hmn
      .exact .inr z
  .obtain⟨cl,e,p,q⟩:=E3 env ns acc λy hy=>h y (mem_cons_of_mem _ hy)
   have hb:(k==NameKind.free)=false:=by simpa using hk
   refine⟨cl,?_,p,λm hm=>q m (hm.imp id λz=>?_)⟩
   .rw[forIn_cons]
    simp only[hb,false_eq_true,if_false,pure_bind]
    exact e
   .rcases mem_cons.mp z with z|z
    .cases z
     exact absurd rfl hk
    .exact z
theorem Ec(env:Env)(scope:Scope)(h:∀y∈scope.names,y.2=.free->∃c,env.cells.lookup y.1=some c):
  ∃cl,closureFor scope env=pure cl/\(∀n c,cl.lookup n=some c->env.cells.lookup n=some c)/\∀n,(n,NameKind.free)∈scope.names->∃c,cl.lookup n=some c:=by
 obtain⟨cl,e,p,q⟩:=E3 env scope.names [] h
 refine⟨cl,?_,λn c z=>(p n c z).elim nofun id,λn hn=>Option.isSome_iff_exists.mp (q n (.inr hn))⟩
 unfold closureFor
 simpa using e
variable{prog:Program}{A:Around}{s:Shared}{elt target iter:Expr}{ifs:List Expr}{scope:Scope}{pos:Pos}
theorem MC{R:Result->Shared->Prop}{it acc:Value}{env:Env}
  (J:Nat->Shared->Prop)
  (turn:∀n s,J n s->wpAny (model prog w) A (pyNext it) (λr s1=>match r with
   |none=>R (.ok .next) s1
   |some v=>wpAny (model prog w) A (letOwnedTupleGo target it v) (λ_ s2=>wpAny (model prog w) A (assign target env v) (λ_ s3=>
    wpAny (model prog w) A (forIn ifs true λc r=>if r=true then do let ok <-isTrue c env (eval c env);pure (yield ok)else pure (yield r)) (λok s4=>
     if ok=true then wpAny (model prog w) A (eval elt env) (λx s5=>
      wpAny (model prog w) A (call (.builtin "list.append") [acc,x]) (λ_ s6=>∃m,m<n/\J m s6) (λ_ _=>False) s5) (λ_ _=>False) s4
     else ∃m,m<n/\J m s4) (λ_ _=>False) s3) (λ_ _=>False) s2) (λ_ _=>False) s1) (λ_ _=>False) s)
  (n:Nat)(h:J n s):codeAny (model prog w) A (.compLoop (.ListComp elt [⟨target,iter,ifs,0⟩] scope pos) 0 it acc env) R s:=by
 refine codeAny_loop rfl J (λn s hJ=>?_) n h
 show wpAny (model prog w) A ((compTurn (.ListComp elt [⟨target,iter,ifs,0⟩] scope pos) 0 it acc env).onRaise (λy=>do noteFrame y env;theTreesLotGoes y)) _ _ s
 refine wpAny_noted ?_
 rw[compTurn_list]
 refine wpAny_bind (wpAny_standAt (wpAny_bind (wpAny_mono (turn n s hJ) (λr s1 h1=>?_) λ_ _ z=>z.elim)))
 cases r with
 |none=>exact wpAny_pure h1
 |some v=>
  refine wpAny_bind (wpAny_mono h1 (λ_ s2 h2=>?_) λ_ _ z=>z.elim)
  refine wpAny_bind (wpAny_mono h2 (λ_ s3 h3=>?_) λ_ _ z=>z.elim)
  refine wpAny_bind (wpAny_mono h3 (λok s4 h4=>?_) λ_ _ z=>z.elim)
  cases ok with
  |false=>exact wpAny_pure ⟨rfl,h4⟩
  |true=>
   refine wpAny_bind (wpAny_bind (wpAny_mono h4 (λx s5 h5=>?_) λ_ _ z=>z.elim))
   exact wpAny_bind (wpAny_mono h5 (λ_ s6 h6=>wpAny_pure (wpAny_pure ⟨rfl,h6⟩)) λ_ _ z=>z.elim)
def PF(X:Cx)(ifs:List Expr)(t:TT):Prop:=
 ∀(pins:List (Addr×Obj)) (s:Shared) (σ:St) (H:Hp) (Q:Bool->Hp->Prop),Inv X pins σ H s->t σ H Q->
  wpAny (model X.prog X.w) X.A (forIn ifs true λc r=>if r=true then do let ok <-isTrue c X.env (eval c X.env);pure (yield ok)else pure (yield r)) (TP X pins σ Q) X.xe s
def tYes:TT:=λ_ H Q=>Q true H
theorem SF:PF X [] tYes:=λ_ _ _ H _ I h=>wpAny_tests_nil ⟨H,I,h⟩
variable{pins:List (Addr×Obj)}{σ:St}
theorem Jj{cl:List (Str×Addr)}{C:Addr}{N:List Str}{fp:List Addr}{k:Nat}{ix:List Nat}(I:Inv X pins σ H s)(hc:CB X.env.scope X.N k ix N scope)
  (hcl:∀n c,cl.lookup n=some c->X.env.cells.lookup n=some c)(hcl2:∀n,(n,NameKind.free)∈scope.names->∃c,cl.lookup n=some c)
  (hC:s.heap.objs.size<=C)(hf:∀b∈fp,FpOk X pins H b)(hlt:∀b∈fp,b<s.heap.objs.size):(A8 X scope cl C N s H fp).Ok:=by
 obtain⟨kind,nocell,names,free,len,own⟩:=hc
 have lk:∀(l:List (Str×NameKind)) (x:Str) (kd:NameKind),l.lookup x=some kd->(x,kd)∈l:=λl x kd e=>PySem.mem_of_lookup e
 refine⟨I.ok.mod,kind,I.ok.glob,I.ok.blt,hC,λx y c h1 h2=>I.ok.inj x y c (hcl x c h1) (hcl y c h2),λx hx=>?_,λx c z=>(by cases z),I.ok.hd,I.ok.frames,.inl rfl,λb hb=>⟨ne_of_lt (lt_of_lt_of_le (hlt b hb) hC),λx c e=>(hf b hb).2.2.2.2.1 x c (hcl x c e)⟩,
  I.bs,le_trans I.ok.bsz I.sz,λb o e z=>?_,λb hb z=>?_,I.stack,I.stkFree⟩
 ·
  have hx':(relabel scope X.env).names.lookup x=some .cell\/(relabel scope X.env).names.lookup x=some .free:=hx
  have key:(x,NameKind.free)∈scope.names:=by
   have:∃kd,(x,kd)∈(relabel scope X.env).names/\(kd=.cell\/kd=.free):=by
    rcases hx' with z|z
    .exact⟨_,lk _ _ _ z,.inl rfl⟩
    .exact⟨_,lk _ _ _ z,.inr rfl⟩
   obtain⟨kd,hm,hkd⟩:=this
   unfold relabel at hm
   obtain⟨⟨n,k0⟩,h1,h2⟩:=mem_map.mp hm
   dsimp only at h2
   by_cases hc:(k0==NameKind.free&&X.env.scope.kind==.function&&X.env.kindOf n==some .cell)=true
   .rw[if_pos hc]at h2
    cases h2
    have:k0=.free:=by
     simp only[and_eq_true]at hc
     simpa using hc.1.1
    rw[<-this]
    exact h1
   .rw[if_neg hc]at h2
    cases h2
    rcases hkd with z|z
    .exact absurd z (nocell _ h1)
    .rw[<-z]
     exact h1
  exact hcl2 x key
 .obtain⟨_,_,_,hx,_⟩:=hf b z
  rcases hx with hx|hx
  .exact I.ok.noex b o e hx
  .exact absurd (lt_of_lt_of_le (lt_size (I.ok.bs b o e).1) hx) (lt_irrefl _)
 .rcases mem_cons.mp (I.stkSub b z)with e|e
  .exact(hf b hb).2.1 e
  .exact(hf b hb).2.2.1 e
theorem NG{cl:List (Str×Addr)}{C:Addr}{h':Heap}{m m':Str->Option Value}{x:Str}{u:Value}(hl:scope.names.lookup x=some .free)
  (ho:X.env.scope.names.lookup x=some .cell\/X.env.scope.names.lookup x=some .free)(hcl:∀n c,cl.lookup n=some c->X.env.cells.lookup n=some c)(hcl2:∃c,cl.lookup x=some c)
  (l:Look X.env s.heap m x u)(hk:∀b o,s.heap.get? b=some o->h'.get? b=some o):Look (compEnvC scope cl C X.env) h' m' x u:=by
 rcases l with⟨hk1,_⟩|⟨hk1,c,hc,o,e1,e2⟩
 .have hk1':X.env.scope.names.lookup x=some .local:=hk1
  rcases ho with z|z<;>rw[hk1']at z<;>cases z
 .obtain⟨c',hc'⟩:=hcl2
  have:=hcl x c' hc'
  rw[hc]at this
  cases this
  refine .inr ⟨?_,c,hc',o,hk _ _ e1,e2⟩
  show(relabel scope X.env).names.lookup x=some .cell\/(relabel scope X.env).names.lookup x=some .free
  unfold relabel
  dsimp only
  revert hl
  generalize scope.names=ns
  intro hl
  induction ns with
  |nil=>cases hl
  |cons y r ih=>
   obtain⟨n,k0⟩:=y
   rw[map_cons]
   dsimp only
   rw[lookup_cons]at hl
   by_cases hxn:(x==n)=true
   .rw[hxn]at hl
    cases hl
    have exn:x=n:=by simpa using hxn
    subst exn
    by_cases hc:(NameKind.free==NameKind.free&&X.env.scope.kind==.function&&X.env.kindOf x==some .cell)=true
    .rw[if_pos hc,lookup_cons,beq_self_eq_true]
     exact .inl rfl
    .rw[if_neg hc,lookup_cons,beq_self_eq_true]
     exact .inr rfl
   .have hxn':(x==n)=false:=by simpa using hxn
    rw[hxn']at hl
    have hnn:∀(kk:NameKind),(List.lookup x ((n,kk)::map (λ(y:Str×NameKind)=>if(y.2==NameKind.free&&X.env.scope.kind==.function&&X.env.kindOf y.1==some .cell)=true then(y.1,NameKind.cell)else(y.1,y.2)) r))=List.lookup x (map (λ(y:Str×NameKind)=>if(y.2==NameKind.free&&X.env.scope.kind==.function&&X.env.kindOf y.1==some .cell)=true then(y.1,NameKind.cell)else(y.1,y.2)) r):=λkk=>by
     rw[lookup_cons,hxn']
    by_cases hc:(k0==NameKind.free&&X.env.scope.kind==.function&&X.env.kindOf n==some .cell)=true
    .rw[if_pos hc]
     exact(hnn .cell).symm▸ih hl
    .rw[if_neg hc]
     exact(hnn k0).symm▸ih hl
theorem OE{cl:List (Str×Addr)}{C:Addr}{N:List Str}{fp:List Addr}{k:Nat}{ix:List Nat}{h':Heap}{m':Str->Option Value}{t':Nat}(I:Inv X pins σ H s)(hc:CB X.env.scope X.N k ix N scope)
  (hcl:∀n c,cl.lookup n=some c->X.env.cells.lookup n=some c)(hcl2:∀n,(n,NameKind.free)∈scope.names->∃c,cl.lookup n=some c)
  (hC:s.heap.objs.size<=C)(hf:∀b∈fp,FpOk X pins H b)(hlt:∀b∈fp,b<s.heap.objs.size)(hk:∀b o,s.heap.get? b=some o->h'.get? b=some o)(hn:h'.Ns C m'):
  Inv (A8 X scope cl C N s H fp) [] (replicate k none++outS ix σ) H {s with heap:=h',toks:=t'}:=by
 have ok:=Jj I hc hcl hcl2 hC hf hlt
 obtain⟨kind,nocell,names,free,len,own⟩:=hc
 have mem:∀{x:Str},scope.names.lookup x=some .free->(x,NameKind.free)∈scope.names:=λe=>PySem.mem_of_lookup e
 refine⟨ok,rfl,I.bare,Un.kept hk,⟨m',hn,λi x v h1 h2 _=>?_⟩,λx c e=>?_,I.hok.fresh hC,λx c e=>I.freeC x c (hcl x c e),λp hp=>(by cases hp),I.hok.kept hk,?_⟩
 .have h1:N[i]?=some x:=h1
  have hi:k<=i:=by
   rcases lt_or_ge i k with z|z
   .rw[getElem?_append_left (by simpa using z),getElem?_replicate,if_pos z]at h2
    cases h2
   .exact z
  rw[List.getElem?_append_right (by simpa using hi),length_replicate]at h2
  unfold outS at h2
  rw[getElem?_map]at h2
  cases e:ix[i-k]? with
  |none=>rw[e]at h2;cases h2
  |some j=>
   rw[e]at h2
   have h2:(σ[j]?).getD none=some v:=Option.some.inj h2
   have hz:(x,j)∈(N.drop k).zip ix:=by
    refine mem_of_getElem? (i:=i-k) ?_
    rw[List.getElem?_zip_eq_some,List.getElem?_drop]
    exact⟨by rw[Nat.add_sub_cancel' hi];exact h1,e⟩
   obtain⟨o1,o2⟩:=own _ hz
   have hs:σ[j]?=some (some v):=by
    cases q:σ[j]? with
    |none=>rw[q]at h2;cases h2
    |some z=>rw[q]at h2;have h2:z=some v:=h2;rw[h2]
   obtain⟨m,hm,hl⟩:=I.loc
   have hfr:=free _ (mem o2) rfl
   have hv:Vis X.env.scope x:=hfr.elim (λz=>.inr (.inl z)) λz=>.inr (.inr z)
   obtain⟨u,r,l⟩:=hl j x v o1 hs hv
   exact⟨u,r,NG o2 hfr hcl (hcl2 _ (mem o2)) l hk⟩
 .obtain⟨v,o,e1,e2⟩:=I.cell x c (hcl x c e)
  exact⟨v,o,hk _ _ e1,e2⟩
 .show(replicate k none++outS ix σ).length=N.length
  rw[length_append,length_replicate,len]
  unfold outS
  rw[length_map]
structure BlockEnd(X:Cx)(scope:Scope)(cl:List (Str×Addr))(N:List Str)(s:Shared)(H:Hp)(fp:List Addr)(D C:Addr)(ys:List V)(H':Hp)(s':Shared):Prop where
 inv:∃σ',Inv (A8 X scope cl C N s H fp) [] σ' H' s'
 dn:H' D=none
 lst:∃(its:List Value) (n:Nat),Vals ys its/\s'.heap.get? D=some {cls:=.type "list",data:=.seq its.toArray n}
 hD:s.heap.objs.size<=D
 hC:s.heap.objs.size<=C
 ne:D≠C
 sz:ys.length<=sizeLine
theorem BlockEnd.out{cl:List (Str×Addr)}{N:List Str}{fp:List Addr}{D C:Addr}{ys:List V}{s':Shared}(I:Inv X pins σ H s)(hf:∀b∈fp,FpOk X pins H b)
  (B:BlockEnd X scope cl N s H fp D C ys H' s'):Inv X pins σ (upd H' D (.lst ys)) s'/\(∃m,s'.heap.Ns C m)/\upd H' D (.lst ys) C=none:=by
 obtain⟨σ',J⟩:=B.inv
 obtain⟨its,n,rv,e⟩:=B.lst
 have eD:∀b u,H' b=some u->b≠D:=λb u z=>Ao z B.dn
 refine⟨?_,let⟨m,hm,_⟩:=J.loc;⟨m,hm⟩,by rw[Ag (Ne.symm B.ne)];exact J.free⟩
 have U:Un (frs X.stack) fp H H' s.heap s'.heap:=J.base
 refine I.call' (ch:=fp) J.os ⟨U.keep,U.slot,λb o q z hb=>?_,U.there,λb xs q=>?_,λb o xs q=>?_,λb ps q=>?_⟩ ?_ J.bare λb hb=>?_
 .rw[Ag (Nat.ne_of_lt (Nat.lt_of_lt_of_le (Heap.lt_size q) B.hD))]
  exact U.free b o q z hb
 .have z:=U.tups b xs q
  rw[Ag (eD _ _ z)];exact z
 .have z:=U.frzs b o xs q
  rw[Ag (eD _ _ z)];exact z
 .obtain⟨m,z⟩:=U.tbls b ps q
  exact⟨m,by rw[Ag (eD _ _ z)];exact z⟩
 .intro b o q
  by_cases hb:b=D
  .subst hb
   rw[Ah]at q
   cases q
   exact⟨B.sz,its,n,rv,e⟩
  .rw[Ag hb]at q
   refine(J.hok b o q).stay (λ_ _ _ z=>z) (λc z=>?_) λc xs z=>?_
   .rw[Ag (eD _ _ z)];exact z
   .rw[Ag (eD _ _ z)];exact z
 .obtain⟨_,h1,h2,h3,h4,h5⟩:=hf b hb
  exact⟨h3,h1,h4,h5⟩
def UL(k:Nat)(ix:List Nat)(g:TG)(tc:TT)(te:TE)(σ:St)(x:V)(H:Hp)(Qe:V->Hp->Prop)(Qn:Hp->Prop):Prop:=
 g x (replicate k none++outS ix σ) H λσ2 H2=>tc σ2 H2 λb H3=>if b=true then te σ2 H3 Qe else Qn H3
def LM(k:Nat)(ix:List Nat)(g:TG)(tc:TT)(te:TE)(σ:St)(J:It)(H1:Hp)(Q:List V->Hp->Prop):Prop:=
 ∃W:Nat->Nat->List V->Hp->Prop,(∃m,W 0 m [] H1)/\∀i m ys H,W i m ys H->ys.length<=sizeLine/\
  ((J.stop i H/\Q ys H)\/(J.go i H/\∀x H',J.yld i H x H'->UL k ix g tc te σ x H' (λv H4=>∃m',m'<m/\W (i+1) m' (ys++[v]) H4) λH3=>∃m',m'<m/\W (i+1) m' ys H3))
theorem Gp{cl:List (Str×Addr)}{N:List Str}{fp:List Addr}{k:Nat}{ix:List Nat}{it:Addr}{J:It}{tn:Nat->Heap->Prop}{g:TG}{tc:TT}{te:TE}
  {Q:List V->Hp->Prop}{RR:Value->Addr->Result->Shared->Prop}{E:Value->Shared->Prop}(hcalm:X.calm=true)(I:Inv X pins σ H s)(hc:CB X.env.scope X.N k ix N scope)(og:OwnG k g)
  (hcl:∀n c,cl.lookup n=some c->X.env.cells.lookup n=some c)(hcl2:∀n,(n,NameKind.free)∈scope.names->∃c,cl.lookup n=some c)
  (T:Turn X.prog X.w X.K target J fp it tn)(t0:tn 0 s.heap)(hf:∀b∈fp,FpOk X pins H b)
  (hg:∀C,PG (A8 X scope cl C N s H fp) target g)(ht:∀C,PF (A8 X scope cl C N s H fp) ifs tc)(he:∀C,PE (A8 X scope cl C N s H fp) elt te)
  (hw:LM k ix g tc te σ J H Q)
  (fin:∀D C ys H' s',BlockEnd X scope cl N s H fp D C ys H' s'->Q ys H'->RR (.ref D) C (.ok .next) s'):
  wpAny (model X.prog X.w) X.A (newList []) (λacc s3=>wpAny (model X.prog X.w) X.A (newFunctionEnv scope X.env.globals cl [] X.env.qual none .none (some X.env)) (λcenv s4=>
   codeAny (model X.prog X.w) X.A (.compStart (.ListComp elt [⟨target,iter,ifs,0⟩] scope pos) 0 (.ref it) acc {cenv with scope:=relabel scope X.env}) (RR acc cenv.locals) s4) E s3) E s:=by
 have hlt:∀b∈fp,b<s.heap.objs.size:=λb hb=>by
  obtain⟨o,e,_⟩:=T.obj 0 _ t0 b hb
  exact lt_size e
 refine wpAny_newObj_type (wpAny_newFunctionEnv hc.2.1 (by intro y hy;simp at hy) (λh1 hns hsb=>?_) hc.1)
 dsimp only at hns hsb ⊢
 generalize eH:s.heap.push {cls:=.type "list",dict:=none,data:=.seq ([]:List Value).toArray}=Hx at hns hsb ⊢
 have hC:Hx.objs.size=s.heap.objs.size+1:=by rw[<-eH,size_push]
 have hne:s.heap.objs.size≠Hx.objs.size:=by rw[hC];exact ne_of_lt (Nat.lt_succ_self _)
 have hle:s.heap.objs.size<=Hx.objs.size:=by rw[hC];exact le_succ _
 have old:∀b o,s.heap.get? b=some o->h1.get? b=some o:=λb o e=>
  hsb.extBut b o (ne_of_lt (lt_of_lt_of_le (lt_size e) hle)) (get?_push_of_some _ (eH▸get?_push_of_some _ e))
 have hacc:h1.PlainList s.heap.objs.size #[]:=⟨_,hsb.extBut _ _ hne (get?_push_of_some _ (eH▸get?_push_size _ rfl))⟩
 have ci:=λ(t':Nat)=>OE (C:=Hx.objs.size) (t':=t') I hc hcl hcl2 hle hf hlt old hns
 have cfp:∀{H':Hp},(∀b∈fp,H' b=none)->∀b∈fp,FpOk (A8 X scope cl Hx.objs.size N s H fp) [] H' b:=λhn b hb=>by
  obtain⟨_,z1,z2,z3,z4,z5⟩:=hf b hb
  refine⟨hn b hb,ne_of_lt (lt_of_lt_of_le (hlt b hb) hle),λz=>?_,.inl hb,λx c e=>z4 x c (hcl x c e),λp hp=>by cases hp⟩
  rcases mem_cons.mp (I.stkSub b z)with e|e
  .exact z1 e
  .exact z2 e
 have dfs:s.heap.objs.size∉frs X.stack:=λz=>(mem_cons.mp (I.stkSub _ z)).elim (λe=>absurd I.lt (by rw[e];exact lt_irrefl _)) λe=>I.nofs (le_refl _) e
 have cne:∀x c,X.env.cells.lookup x=some c->c≠s.heap.objs.size:=λx c e z=>by
  obtain⟨_,o,q,_⟩:=I.cell x c e
  exact absurd (lt_size q) (by rw[z];exact lt_irrefl _)
 obtain⟨W,⟨m0,w0⟩,turn⟩:=hw
 have loop:∀s3:Shared,s3={s with heap:=h1,toks:=s.toks+([]:List (Str×Value)).length}->
   codeAny (model X.prog X.w) X.A (.compLoop (.ListComp elt [⟨target,iter,ifs,0⟩] scope pos) 0 (.ref it) (.ref s.heap.objs.size) (compEnvC scope cl Hx.objs.size X.env)) (RR (.ref s.heap.objs.size) Hx.objs.size) s3:=by
  rintro s3 rfl
  refine MC (λn s'=>∃i ys H' its,Inv (A8 X scope cl Hx.objs.size N s H fp) [] (replicate k none++outS ix σ) H' s'/\tn i s'.heap/\(∀b∈fp,H' b=none)/\s'.heap.PlainList s.heap.objs.size (toArray its)/\
   H' s.heap.objs.size=none/\Vals ys its/\W i n ys H') ?_ m0 ⟨0,[],H,[],ci _,T.keep _ _ _ t0 λb _ o e=>old b o e,λb hb=>(hf b hb).1,hacc,I.hok.fresh (le_refl _),.nil,w0⟩
  rintro n s4 ⟨i,ys,H4,its,I4,t4,f4,p4,d4,v4,w4⟩
  obtain⟨hsz,turn4⟩:=turn i n ys H4 w4
  rcases turn4 with⟨st,q⟩|⟨go,step⟩
  ·
   obtain⟨pn,pe⟩:=p4
   have I4':Inv (A8 X scope cl Hx.objs.size N s H fp) [(s.heap.objs.size,{cls:=.type "list",data:=.seq its.toArray pn})] (replicate k none++outS ix σ) H4 s4:=I4.pins_of λp hp=>by
    have ep:=mem_singleton.mp hp
    subst ep
    exact⟨pe,d4,hne,dfs,λv z=>(by cases z)⟩
   have fp4:∀b∈fp,FpOk (A8 X scope cl Hx.objs.size N s H fp) [(s.heap.objs.size,{cls:=.type "list",data:=.seq its.toArray pn})] H4 b:=λb hb=>by
    obtain⟨z0,z1,z2,z3,z4,_⟩:=cfp f4 b hb
    refine⟨z0,z1,z2,z3,z4,λp hp e=>?_⟩
    have ep:=mem_singleton.mp hp
    subst ep
    exact absurd (hlt b hb) (by rw[<-e];exact lt_irrefl _)
   refine thn (T.done (A8 X scope cl Hx.objs.size N s H fp) rfl rfl rfl hcalm i _ s4 _ H4 _ I4' fp4 t4 st) λr s5 ⟨hr,I5⟩=>?_
   subst hr
   obtain⟨e5,n5,_⟩:=I5.pin (s.heap.objs.size,_) (mem_singleton.mpr rfl)
   exact fin s.heap.objs.size Hx.objs.size ys H4 s5 ⟨⟨_,I5.pins_of (pins':=[]) λp hp=>(by cases hp)⟩,n5,⟨its,pn,v4,e5⟩,le_refl _,hle,hne,hsz⟩ q
  .obtain⟨pn,pe⟩:=p4
   have I4':Inv (A8 X scope cl Hx.objs.size N s H fp) [(s.heap.objs.size,{cls:=.type "list",data:=.seq its.toArray pn})] (replicate k none++outS ix σ) H4 s4:=I4.pins_of λp hp=>by
    have ep:=mem_singleton.mp hp
    subst ep
    exact⟨pe,d4,hne,dfs,λv z=>(by cases z)⟩
   have fpx:∀{H':Hp},(∀b∈fp,H' b=none)->∀b∈fp,FpOk (A8 X scope cl Hx.objs.size N s H fp) [(s.heap.objs.size,{cls:=.type "list",data:=.seq its.toArray pn})] H' b:=λhn b hb=>by
    obtain⟨z0,z1,z2,z3,z4,_⟩:=cfp hn b hb
    refine⟨z0,z1,z2,z3,z4,λp hp e=>?_⟩
    have ep:=mem_singleton.mp hp
    subst ep
    exact absurd (hlt b hb) (by rw[<-e];exact lt_irrefl _)
   refine thn (T.item (A8 X scope cl Hx.objs.size N s H fp) rfl rfl rfl hcalm i _ s4 _ H4 (λ_ _=>False) I4' (fpx f4) t4 go) λr s5 ⟨u,hr,h5⟩=>?_
   subst hr
   refine thn h5 λ_ s6 ⟨x,H6,I6,r6,y6,t6,f6⟩=>?_
   have I6':=I6.pinned (fpx f6) (T.obj _ _ t6)
   have stp:=og x _ H6 _ (λσ2 H2=>(σ2.length=(replicate k none++outS ix σ).length/\∀j,k<=j->σ2[j]?=(replicate k none++outS ix σ)[j]?)/\
    tc σ2 H2 λb H3=>if b=true then te σ2 H3 (λv H4=>∃m',m'<n/\W (i+1) m' (ys++[v]) H4)else ∃m',m'<n/\W (i+1) m' ys H3) (λσ2 H2 a b c=>⟨⟨a,b⟩,c⟩) (step x H6 y6)
   refine thn (hg _ _ s6 _ H6 x u _ I6' r6 stp) λ_ s7 ⟨σ7,H7,I7,⟨l7,k7⟩,q7⟩=>?_
   have weak:∀{H':Hp}{s':Shared}{ps:List (Addr×Obj)},Inv (A8 X scope cl Hx.objs.size N s H fp) ps σ7 H' s'->Inv (A8 X scope cl Hx.objs.size N s H fp) ps (replicate k none++outS ix σ) H' s':=λz=>z.weak l7.symm λj v e=>by
    rcases lt_or_ge j k with hj|hj
    .rw[getElem?_append_left (by simpa using hj),getElem?_replicate,if_pos hj]at e
     cases e
    .rw[k7 j hj];exact e
   refine thn (ht _ _ s7 σ7 H7 _ I7 q7) λok s8 ⟨H8,I8,q8⟩=>?_
   have keepT:∀{H':Hp}{s':Shared},Inv (A8 X scope cl Hx.objs.size N s H fp) ([(s.heap.objs.size,{cls:=.type "list",data:=.seq its.toArray pn})]++Gm fp s6.heap) σ7 H' s'->
     tn (i+1) s'.heap/\(∀b∈fp,H' b=none)/\s'.heap.PlainList s.heap.objs.size its.toArray/\H' s.heap.objs.size=none:=λ{H' s'} z=>by
    refine⟨T.keep _ _ _ t6 λb hb o e=>(z.pin (b,o) (mem_append_right _ (mem_append_right _ (Da hb e)))).1,λb hb=>?_,?_⟩
    .obtain⟨o,e,d⟩:=T.obj _ _ t6 b hb
     exact(z.pin (b,o) (mem_append_right _ (mem_append_right _ (Da hb e)))).2.1
    .obtain⟨e,n',_⟩:=z.pin (s.heap.objs.size,{cls:=.type "list",data:=.seq its.toArray pn}) (mem_append_right _ (mem_append_left _ (mem_singleton.mpr rfl)))
     exact⟨⟨pn,e⟩,n'⟩
   cases ok with
   |false=>
    have q8:∃m',m'<n/\W (i+1) m' ys H8:=by simpa using q8
    obtain⟨m',hm,w8⟩:=q8
    obtain⟨a1,a2,a3,a4⟩:=keepT I8
    exact⟨m',hm,i+1,ys,H8,its,(weak I8).pins_of (pins':=[]) λp hp=>(by cases hp),a1,a2,a3,a4,v4,w8⟩
   |true=>
    have q8:te σ7 H8 (λv H4=>∃m',m'<n/\W (i+1) m' (ys++[v]) H4):=by simpa using q8
    show wpAny _ _ (eval elt _) _ _ s8
    refine thn (he _ _ s8 σ7 H8 _ I8 q8) λy s9 ⟨v,H9,I9,r9,m',hm,w9⟩=>?_
    obtain⟨a1,a2,a3,a4⟩:=keepT I9
    refine wpAny_list_append_plain a3 (λh10 hp10 hs10=>?_) (by rw[size_toArray,<-v4.length];exact hsz)
    refine⟨m',hm,i+1,ys++[v],H9,its++[y],?_,T.keep _ _ _ a1 λb hb o e=>hs10.extBut b o (λz=>absurd (hlt b hb) (by rw[z];exact lt_irrefl _)) e,a2,by simpa using hp10,a4,Paired.snoc v4 r9,w9⟩
    have I9':Inv (A8 X scope cl Hx.objs.size N s H fp) [] (replicate k none++outS ix σ) H9 s9:=(weak I9).pins_of (pins':=[]) λp hp=>(by cases hp)
    exact I9'.turned (t':=s9.toks) (it:=s.heap.objs.size) (λb o hb e=>hs10.extBut b o hb e) a4 hne (.inr (le_refl _))
     (λx c e=>cne x c (hcl x c e)) λp hp=>(by cases hp)
 exact codeAny_compStart_list (loop _ rfl) (T.self _ 0 _ _ _ (T.keep _ _ _ t0 λb _ o e=>old b o e) (loop _ rfl))
def Ug(k:Nat)(ix:List Nat)(wi:TI)(g:TG)(tc:TT)(te:TE):TE:=λσ H Q=>wi σ H λJ H1=>
 LM k ix g tc te σ J H1 λys H2=>∀D,H2 D=none->Q (.ref D) (upd H2 D (.lst ys))
variable{N:List Str}{ix:List Nat}{g:TG}{tc:TT}{te:TE}
section
variable{k:Nat}{wi:TI}
theorem HE(I:Inv X pins σ H s)(hc:CB X.env.scope X.N k ix N scope):∀y∈scope.names,y.2=.free->∃c,X.env.cells.lookup y.1=some c:=λy hy e=>
 I.ok.has y.1 (hc.2.2.2.1 y hy e)
theorem Rk(hcalm:X.calm=true)(hc:CB X.env.scope X.N k ix N scope)(og:OwnG k g)(hi:PI X target iter wi)
  (hb:∀cl C s H fp,PG (A8 X scope cl C N s H fp) target g/\PF (A8 X scope cl C N s H fp) ifs tc/\PE (A8 X scope cl C N s H fp) elt te)
  (hs:∀x,foldedSetIterable iter X.env x=pure x:=by intro _;rfl):PE X (.ListComp elt [⟨target,iter,ifs,0⟩] scope pos) (Ug k ix wi g tc te):=by
 intro pins s σ H Q I h
 obtain⟨cl,hclos,hcl,hcl2⟩:=Ec X.env scope (HE I hc)
 rw[eval_ListComp]
 refine wpAny_comprehension_free (use:=none) rfl hs hclos hc.1 hc.2.2.1 (thn (hi pins s σ H _ I h) λxv s1 h1=>thn h1 λitv s2 h2=>?_)
 obtain⟨it,fp,tn,J,H2,e,I2,T,st2,f2,hw⟩:=h2
 subst e
 refine Gp hcalm I2 hc og hcl hcl2 T st2 f2 (λC=>(hb cl C s2 H2 fp).1) (λC=>(hb cl C s2 H2 fp).2.1) (λC=>(hb cl C s2 H2 fp).2.2) hw (RR:=λacc C=>compPost (model X.prog X.w) X.A X.xe none (EP X pins σ Q) acc C) ?_
 intro D C ys H' s' B q
 obtain⟨I3,⟨m,hm⟩,hCn⟩:=B.out I2 f2
 refine⟨m,hm,λh' hs'=>?_⟩
 have q':=q D B.dn
 have hCs:X.s₀.heap.objs.size<=C:=le_trans I2.sz B.hC
 obtain⟨_,f1,f3,f4,f5,f6⟩:=I2.fpOk (H':=upd H' D (.lst ys)) B.hC hCn
 exact⟨.ref D,_,I3.turned (t':=s'.toks) (it:=C) (λb o hb e=>hs'.extBut b o hb e) hCn f1 f4 f5 f6,rfl,q'⟩
def Qc(i k:Nat)(ix:List Nat)(wi:TI)(g:TG)(tc:TT)(te:TE):TS:=λD σ H=>wi σ H λJ H1=>
 LM k ix g tc te σ J H1 λys H2=>∀p,H2 p=none->D.nx (σ.set i (some (.ref p))) (upd H2 p (.lst ys))
theorem Kx{i:Nat}{x:Str}{pos' spos:Pos}(hcalm:X.calm=true)(hN:X.N.Nodup)(hx0:X.N[i]?=some x)(hx:X.env.scope.names.lookup x=some .local)(hc:CB X.env.scope X.N k ix N scope)(og:OwnG k g)(hi:PI X target iter wi)
  (hb:∀cl C s H fp,PG (A8 X scope cl C N s H fp) target g/\PF (A8 X scope cl C N s H fp) ifs tc/\PE (A8 X scope cl C N s H fp) elt te)
  (hsw:swapsWith (.ListComp elt [⟨target,iter,ifs,0⟩] scope pos) (some (.Name x pos')) spos.line X.env=pure true:=by rfl)
  (hs:∀x,foldedSetIterable iter X.env x=pure x:=by intro _;rfl):PS X (.Assign [.Name x pos'] (.ListComp elt [⟨target,iter,ifs,0⟩] scope pos) spos) (Qc i k ix wi g tc te):=by
 intro pins s σ H Dn I h
 obtain⟨cl,hclos,hcl,hcl2⟩:=Ec X.env scope (HE I hc)
 rw[exec_Assign_Name_used _ _ _ _ hsw]
 refine wpAny_bind (wpAny_standAt (wpAny_bind ?_))
 show wpAny _ X.A (do let _ <-comprehension (.ListComp elt [⟨target,iter,ifs,0⟩] scope pos) scope X.env _ (newList []) false (eval iter X.env) (some (assign (.Name x pos') X.env))) _ _ s
 refine wpAny_bind (wpAny_mono (wpAny_comprehension_free (use:=some (assign (.Name x pos') X.env)) (Q:=λ_ s'=>SP X pins Dn .next s') rfl hs hclos hc.1 hc.2.2.1
  (thn (hi pins s σ H _ I h) λxv s1 h1=>thn h1 λitv s2 h2=>?_)) (λ_ s' hq=>wpAny_pure (wpAny_pure hq)) λ_ _ e=>e)
 obtain⟨it,fp,tn,J,H2,e,I2,T,st2,f2,hw⟩:=h2
 subst e
 refine Gp hcalm I2 hc og hcl hcl2 T st2 f2 (λC=>(hb cl C s2 H2 fp).1) (λC=>(hb cl C s2 H2 fp).2.1) (λC=>(hb cl C s2 H2 fp).2.2) hw (RR:=λacc C=>compPost (model X.prog X.w) X.A X.xe (some (assign (.Name x pos') X.env)) (λ_ s'=>SP X pins Dn .next s') acc C) ?_
 intro D C ys H' s' B q
 obtain⟨I3,⟨m,o,es,ep,ho,hd,hr⟩,hCn⟩:=B.out I2 f2
 have q':=q D B.dn
 obtain⟨_,f1,f3,f4,f5,f6⟩:=I2.fpOk (H':=upd H' D (.lst ys)) B.hC hCn
 have I4:Inv X (pins++[(C,o)]) σ (upd H' D (.lst ys)) s':=I3.pins_of λp hp=>(mem_append.mp hp).elim (λz=>I3.pin p (mem_append_right _ z)) λz=>by
  have z':=mem_singleton.mp z
  subst z'
  exact⟨ho,hCn,f1,f3,λv z=>by rw[hd]at z;cases z⟩
 show wpAny _ X.A (assign (.Name x pos') X.env (.ref D)) _ _ s'
 refine wpAny_assign_Name (EZ I4 hN hx0 (.inl hx) (v:=.ref D) (u:=.ref D) rfl (λs5 I5=>?_) (.inr hx))
 obtain⟨e5,n5,_⟩:=I5.pin (C,o) (mem_append_right _ (mem_append_right _ (mem_singleton.mpr rfl)))
 refine⟨m,⟨o,es,ep,e5,hd,hr⟩,λh' hs'=>?_⟩
 exact⟨_,_,I5.unpinned.turned (t':=s5.toks) (it:=C) (λb o hb e=>hs'.extBut b o hb e) hCn f1 f4 f5 f6,q'⟩
end
section
def ExcAt(a C:Addr)(h:Heap):Prop:=∃o vs,h.get? a=some o/\o.cls=.ref C/\o.data=.fields vs
def excD(C:Addr):PyData:=.dict [(.none,.int (C:Int))]
def Tw(a C dx:Addr)(h:Heap):Prop:=∃o vs,h.get? a=some o/\o.cls=.ref C/\o.data=.fields vs/\o.dict=some dx
def Sg(C:Addr)(n:Int):PyData:=.dict [(.none,.int (C:Int)),(.none,.int n)]
def excC:List (PyData×PyData)->Option Addr
 |[(.none,.int i)]=>some i.toNat
 |[(.none,.int i),(.none,.int _)]=>some i.toNat
 |(.none,.tuple [.int i])::_=>some i.toNat
 |(.bool true,_)::_=>some 0
 |_=>none
def objD(C:Addr)(es:List (PyData×PyData)):PyData:=.dict ((.none,.tuple [.int (C:Int)])::es)
def Qi:PyData->Bool
 | .dict ((.none,.tuple _)::_)=>true
 | .dict ((.bool true,_)::_)=>true
 |_=>false
theorem Kb(i:Int)(es:List (PyData×PyData)):excC ((.none,.tuple [.int i])::es)=some i.toNat:=by
 cases es with
 |nil=>rfl
 |cons y ys=>cases ys<;>rfl
def keyD:Key->PyData
 | .inl i=>.int i
 | .inr x=>.str x
def ppE(m:List ((Int×Int)×Int)):List (PyData×PyData):=(.bool true,.none)::m.map λq=>(.tuple [.int q.1.1,.int q.1.2],.int q.2)
def ppK(m:List ((Int×Int)×Int)):List (List Key×V):=m.map λq=>([.inl q.1.1,.inl q.1.2],V.int q.2)
def AY:List Str:=["start","text","rows","ways","atoms","numbers","rights","memory","box_words","here","truth_pair","told_words","stored_cells","done_count","led"]
mutual
inductive DV(K:Frag)(H:Hp):V->PyData->Prop where
 |non:DV K H .non .none
 |bl (b:Bool):DV K H (.bl b) (.bool b)
 |int (i:Int):DV K H (.int i) (.int i)
 |str (x:Str):DV K H (.str x) (.str x)
 |tup {a:Addr}{xs:List V}{ds:List PyData}:SqT K H a xs->DVs K H xs ds->DV K H (.ref a) (.tuple ds)
 |lst {a:Addr}{xs:List V}{ds:List PyData}:SqL K H a xs->DVs K H xs ds->DV K H (.ref a) (.list ds)
 |dct {a:Addr}{kvs:List (Key×V)}{es:List (PyData×PyData)}:H a=some (.dK kvs)->DVk K H kvs es->DV K H (.ref a) (.dict es)
 |exc {a C:Addr}:H a=some (.ext (ExcAt a C))->DV K H (.ref a) (.dict [(.none,.int (C:Int))])
 |exr {a C dx:Addr}{n:Int}:H a=some (.ext (Tw a C dx))->H dx=some (.xd [("row",.int n)])->DV K H (.ref a) (.dict [(.none,.int (C:Int)),(.none,.int n)])
 |obj {a C dx:Addr}{fs:List (Str×V)}{es:List (PyData×PyData)}:H a=some (.ins C dx fs)->(∀m:Str,m∉AY->fs.lookup m=none)->DVf K H fs es->DV K H (.ref a) (.dict ((.none,.tuple [.int (C:Int)])::es))
 |dtt {a:Addr}{m:List ((Int×Int)×Int)}:H a=some (.dT (ppK m))->DV K H (.ref a) (.dict (ppE m))
inductive DVs(K:Frag)(H:Hp):List V->List PyData->Prop where
 |nil:DVs K H [] []
 |cons {x:V}{d:PyData}{xs:List V}{ds:List PyData}:DV K H x d->DVs K H xs ds->DVs K H (x::xs) (d::ds)
inductive DVk(K:Frag)(H:Hp):List (Key×V)->List (PyData×PyData)->Prop where
 |nil:DVk K H [] []
 |cons {k:Key}{x:V}{d:PyData}{xs:List (Key×V)}{ds:List (PyData×PyData)}:DV K H x d->DVk K H xs ds->DVk K H ((k,x)::xs) ((keyD k,d)::ds)
inductive DVf(K:Frag)(H:Hp):List (Str×V)->List (PyData×PyData)->Prop where
 |nil {fs:List (Str×V)}:DVf K H fs []
 |cons {fs:List (Str×V)}{f:Str}{x:V}{d:PyData}{ds:List (PyData×PyData)}:fs.lookup f=some x->DV K H x d->DVf K H fs ds->DVf K H fs ((.str f,d)::ds)
end
theorem Same.seqT{xs:List V}(e:Same H H')(h:SqT K H a xs):SqT K H' a xs:=by
 rcases h with(h|⟨o,h⟩)|h
 .exact .inl (.inl (e _ _ h))
 .exact .inl (.inr ⟨o,e _ _ h⟩)
 .exact .inr h
mutual
theorem DV.mono(e:Same H H'):∀{v:V}{d:PyData},DV K H v d->DV K H' v d
 |_,_,.non=>.non
 |_,_,.bl b=>.bl b
 |_,_,.int i=>.int i
 |_,_,.str x=>.str x
 |_,_,.tup h t=>.tup (e.seqT h) (DVs.mono e t)
 |_,_,.lst h t=>.lst (e.seq h) (DVs.mono e t)
 |_,_,.dct h t=>.dct (e _ _ h) (DVk.mono e t)
 |_,_,.exc h=>.exc (e _ _ h)
 |_,_,.exr h h'=>.exr (e _ _ h) (e _ _ h')
 |_,_,.obj h n t=>.obj (e _ _ h) n (DVf.mono e t)
 |_,_,.dtt h=>.dtt (e _ _ h)
theorem DVs.mono(e:Same H H'):∀{vs:List V}{ds:List PyData},DVs K H vs ds->DVs K H' vs ds
 |_,_,.nil=>.nil
 |_,_,.cons h t=>.cons (DV.mono e h) (DVs.mono e t)
theorem DVk.mono(e:Same H H'):∀{vs:List (Key×V)}{ds:List (PyData×PyData)},DVk K H vs ds->DVk K H' vs ds
 |_,_,.nil=>.nil
 |_,_,.cons h t=>.cons (DV.mono e h) (DVk.mono e t)
theorem DVf.mono(e:Same H H'):∀{vs:List (Str×V)}{ds:List (PyData×PyData)},DVf K H vs ds->DVf K H' vs ds
 |_,_,.nil=>.nil
 |_,_,.cons l h t=>.cons l (DV.mono e h) (DVf.mono e t)
end
theorem DVs.length:∀{vs:List V}{ds:List PyData},DVs K H vs ds->vs.length=ds.length
 |_,_,.nil=>rfl
 |_,_,.cons _ t=>by rw[List.length_cons,List.length_cons,DVs.length t]
theorem DVs.get:∀{vs:List V}{ds:List PyData}{i:Nat}{d:PyData},DVs K H vs ds->ds[i]?=some d->∃v,vs[i]?=some v/\DV K H v d
 |_,_,_,_,.nil,e=>by simp at e
 |_,_,0,_,.cons h _,e=>by simp at e;subst e;exact⟨_,rfl,h⟩
 |_,_,i+1,d,.cons _ t,e=>by
  obtain⟨v,h1,h2⟩:=DVs.get (i:=i) (d:=d) t (by simpa using e)
  exact⟨v,by simpa using h1,h2⟩
theorem DVs.get':∀{vs:List V}{ds:List PyData}{i:Nat}{v:V},DVs K H vs ds->vs[i]?=some v->∃d,ds[i]?=some d/\DV K H v d
 |_,_,_,_,.nil,e=>by simp at e
 |_,_,0,_,.cons h _,e=>by simp at e;subst e;exact⟨_,rfl,h⟩
 |_,_,i+1,d,.cons _ t,e=>by
  obtain⟨v,h1,h2⟩:=DVs.get' (i:=i) (v:=d) t (by simpa using e)
  exact⟨v,by simpa using h1,h2⟩
theorem DVs.append:∀{vs ws:List V}{ds es:List PyData},DVs K H vs ds->DVs K H ws es->DVs K H (vs++ws) (ds++es)
 |_,_,_,_,.nil,s=>s
 |_,_,_,_,.cons h t,s=>.cons h (DVs.append t s)
theorem DVs.take:∀{vs:List V}{ds:List PyData}(n:Nat),DVs K H vs ds->DVs K H (vs.take n) (ds.take n)
 |_,_,0,_=>.nil
 |_,_,_+1,.nil=>.nil
 |_,_,n+1,.cons h t=>.cons h (DVs.take n t)
theorem DVs.drop:∀{vs:List V}{ds:List PyData}(n:Nat),DVs K H vs ds->DVs K H (vs.drop n) (ds.drop n)
 |_,_,0,r=>r
 |_,_,_+1,.nil=>.nil
 |_,_,n+1,.cons _ t=>DVs.drop n t
theorem DVs.ints:∀(ns:List Int),DVs K H (ns.map V.int) (ns.map PyData.int)
 |[]=>.nil
 |n::r=>.cons (.int n) (DVs.ints r)
theorem DVs.of_ints:∀{vs:List V}{ns:List Int},DVs K H vs (ns.map PyData.int)->vs=ns.map V.int
 |_,[],.nil=>rfl
 |_,n::r,.cons h t=>by cases h;rw[DVs.of_ints t];rfl
theorem DVs.of_bools:∀{vs:List V}{ns:List Bool},DVs K H vs (ns.map PyData.bool)->vs=ns.map V.bl
 |_,[],.nil=>rfl
 |_,n::r,.cons h t=>by cases h;rw[DVs.of_bools t];rfl
theorem DV.of_int{v:V}{i:Int}(h:DV K H v (.int i)):v=.int i:=by cases h;rfl
theorem DV.of_bl{v:V}{i:Bool}(h:DV K H v (.bool i)):v=.bl i:=by cases h;rfl
theorem DV.of_str{v:V}{i:Str}(h:DV K H v (.str i)):v=.str i:=by cases h;rfl
theorem DV.of_tup{v:V}{ds:List PyData}(h:DV K H v (.tuple ds)):∃a xs,v=.ref a/\SqT K H a xs/\DVs K H xs ds:=by cases h with|tup h t=>exact⟨_,_,rfl,h,t⟩
theorem DV.of_dct{v:V}{es:List (PyData×PyData)}(h:DV K H v (.dict es))(hx:excC es=none):∃a kvs,v=.ref a/\H a=some (.dK kvs)/\DVk K H kvs es:=by
 cases h with
 |dct h t=>exact⟨_,_,rfl,h,t⟩
 |exc h=>cases hx
 |exr h h'=>cases hx
 |obj h n t=>rw[Kb]at hx;cases hx
 |dtt h=>unfold ppE excC at hx;cases hx
theorem GC{kvs:List (Key×V)}{es:List (PyData×PyData)}(h:DVk K H kvs es):excC es=none:=by
 cases h with
 |nil=>rfl
 |cons h t=>
  rename_i k x d xs ds
  cases t with
  |nil=>cases k<;>cases d<;>rfl
  |cons h2 t2=>rename_i k2 x2 d2 xs2 ds2;cases k<;>cases d<;>cases k2<;>cases d2<;>cases ds2<;>rfl
theorem DV.of_objN{v:V}{C:Addr}{es:List (PyData×PyData)}(h:DV K H v (objD C es)):∃a dx fs,v=.ref a/\H a=some (.ins C dx fs)/\DVf K H fs es/\∀m:Str,m∉AY->fs.lookup m=none:=by
 unfold objD at h
 generalize ei:((C:Nat):Int)=i at h
 generalize ee:PyData.dict ((.none,.tuple [.int i])::es)=e at h
 cases h with
 |dct h t=>
  injection ee with ee
  subst ee
  have z:=GC t
  rw[Kb]at z
  cases z
 |obj h n t=>
  injection ee with ee
  injection ee with ee e2
  injection ee with _ ee
  injection ee with ee
  injection ee with ee _
  injection ee with ee
  have:C=_:=Int.ofNat.inj (ei.trans ee)
  subst this e2
  exact⟨_,_,_,rfl,h,t,n⟩
 |_=>cases ee
theorem DVf.get:∀{fs:List (Str×V)}{es:List (PyData×PyData)}{f:Str}{d:PyData},DVf K H fs es->(.str f,d)∈es->∃v,fs.lookup f=some v/\DV K H v d
 |_,_,_,_,.nil,h=>by cases h
 |_,_,f,d,.cons l q t,h=>by
  rcases List.mem_cons.mp h with e|e
  .injection e with e1 e2
   injection e1 with e1
   subst e1 e2
   exact⟨_,l,q⟩
  .exact DVf.get t e
theorem DV.of_lst{v:V}{ds:List PyData}(h:DV K H v (.list ds)):∃a xs,v=.ref a/\SqL K H a xs/\DVs K H xs ds:=by cases h with|lst h t=>exact⟨_,_,rfl,h,t⟩
mutual
theorem DV.reads{X:Cx}{pins:List (Addr×Obj)}{σ:St}{H:Hp}{s:Shared}(I:Inv X pins σ H s):∀{v:V}{d:PyData}{u:Value},DV X.K H v d->RelV v u->d.canLay0=true->∃as,Reads s.heap u d as
 |_,_,_,.non,r,_=>⟨[],by rw[show _=Value.none from r];exact .none⟩
 |_,_,_,.bl b,r,_=>⟨[],by rw[show _=Value.bool b from r];exact .bool b⟩
 |_,_,_,.int i,r,_=>let⟨t,e⟩:=r;⟨[],by rw[e];exact .int i t⟩
 |_,_,_,.str x,r,_=>let⟨t,e⟩:=r;⟨[],by rw[e];exact .str x t⟩
 |_,_,_,.tup h t,r,c=>by
  rw[show _=Value.ref _ from r]
  obtain⟨its,rv,⟨o,e1,e2,n,e3⟩,_⟩:=I.tuple h
  obtain⟨as,q⟩:=DVs.reads I t rv (by unfold PyData.canLay0 at c;exact c)
  exact⟨_,.tuple e1 e2 e3 (by simpa using q)⟩
 |_,_,_,.lst h t,r,c=>by
  rw[show _=Value.ref _ from r]
  obtain⟨its,rv,pl,_⟩:=I.list h
  obtain⟨o,e1,e2,n,e3⟩:=pl.isList
  obtain⟨as,q⟩:=DVs.reads I t rv (by unfold PyData.canLay0 at c;exact c)
  exact⟨_,.list e1 e2 e3 (by simpa using q)⟩
 |_,_,_,.dct h t,r,c=>by simp[PyData.canLay0]at c
 |_,_,_,.exc h,r,c=>by simp[PyData.canLay0]at c
 |_,_,_,.exr h h',r,c=>by simp[PyData.canLay0]at c
 |_,_,_,.obj h n t,r,c=>by simp[PyData.canLay0]at c
 |_,_,_,.dtt h,r,c=>by simp[PyData.canLay0]at c
theorem DVs.reads{X:Cx}{pins:List (Addr×Obj)}{σ:St}{H:Hp}{s:Shared}(I:Inv X pins σ H s):∀{vs:List V}{ds:List PyData}{us:List Value},DVs X.K H vs ds->Vals vs us->PyData.canLayAll0 ds=true->∃as,ReadsAll s.heap us ds as
 |_,_,_,.nil,.nil,_=>⟨_,.nil⟩
 |_,_,_,.cons h t,.cons r rs,c=>by
  unfold PyData.canLayAll0 at c
  rw[Bool.and_eq_true]at c
  obtain⟨a1,q1⟩:=DV.reads I h r c.1
  obtain⟨a2,q2⟩:=DVs.reads I t rs c.2
  exact⟨_,.cons q1 q2⟩
end
abbrev Gam:=List (Option PyData)
def SD(K:Frag)(H:Hp)(σ:St)(G:Gam):Prop:=σ.length=G.length/\∀(i:Nat) d,G[i]?=some (some d)->∃v,σ[i]?=some (some v)/\DV K H v d
theorem SD.mono{G:Gam}(h:SD K H σ G)(e:Same H H'):SD K H' σ G:=⟨h.1,λi d z=>let⟨v,a,b⟩:=h.2 i d z;⟨v,a,b.mono e⟩⟩
theorem SD.set{G:Gam}{i:Nat}{v:V}{d:PyData}(h:SD K H σ G)(q:DV K H v d):SD K H (σ.set i (some v)) (G.set i (some d)):=by
 refine⟨by rw[List.length_set,List.length_set,h.1],λj e z=>?_⟩
 by_cases hj:i=j
 .subst hj
  by_cases hl:i<G.length
  .rw[List.getElem?_set_self hl]at z
   cases z
   exact⟨v,List.getElem?_set_self (by rw[h.1];exact hl),q⟩
  .rw[List.getElem?_eq_none (by rw[List.length_set];omega)]at z
   cases z
 .rw[List.getElem?_set_ne hj]at z
  obtain⟨w,a,b⟩:=h.2 j e z
  exact⟨w,by rw[List.getElem?_set_ne hj];exact a,b⟩
theorem SD.forget{G G':Gam}(h:SD K H σ G)(hl:G'.length=G.length)(hw:∀(i:Nat) d,G'[i]?=some (some d)->G[i]?=some (some d)):SD K H σ G':=⟨h.1.trans hl.symm,λi d z=>h.2 i d (hw i d z)⟩
def tD(K:Frag)(G:Gam)(d:PyData):TE:=λσ H Q=>SD K H σ G/\∀v H',Same H H'->DV K H' v d->Q v H'
def tDT(K:Frag)(G:Gam)(b:Bool):TT:=λσ H Q=>SD K H σ G/\∀H',Same H H'->Q b H'
def tDA(K:Frag)(G:Gam)(ds:List PyData):TA:=λσ H Q=>SD K H σ G/\∀vs H',Same H H'->DVs K H' vs ds->Q vs H'
inductive Out where
 |next (G:Gam)|ret (d:PyData)
def tDS(K:Frag)(G:Gam)(o:Out):TS:=λD σ H=>SD K H σ G/\match o with
 | .next G'=>∀σ' H',Same H H'->SD K H' σ' G'->D.nx σ' H'
 | .ret d=>∀v H',Same H H'->DV K H' v d->D.rt v H'
abbrev EV(X:Cx)(G:Gam)(e:Expr)(d:PyData):Prop:=PE X e (tD X.K G d)
abbrev TV(X:Cx)(G:Gam)(e:Expr)(b:Bool):Prop:=PT X e (tDT X.K G b)
abbrev WV(X:Cx)(G:Gam)(e:Expr)(b:Bool):Prop:=PW X e (tDT X.K G b)
abbrev AV(X:Cx)(G:Gam)(es:List Expr)(ds:List PyData):Prop:=PA X es (tDA X.K G ds)
abbrev SV(X:Cx)(G:Gam)(st:Stmt)(o:Out):Prop:=PS X st (tDS X.K G o)
abbrev SVs(X:Cx)(G:Gam)(st:List Stmt)(o:Out):Prop:=PSs X st (tDS X.K G o)
variable{G:Gam}{c e:Expr}{es:List Expr}{d da db dc:PyData}
section
variable{a b:Expr}
theorem PE.imp{t t':TE}(h:PE X e t)(m:∀σ H Q,t' σ H Q->t σ H Q):PE X e t':=λpins s σ H Q I q=>h pins s σ H Q I (m σ H Q q)
theorem PT.imp{t t':TT}(h:PT X e t)(m:∀σ H Q,t' σ H Q->t σ H Q):PT X e t':=λpins s σ H Q I q=>h pins s σ H Q I (m σ H Q q)
theorem PW.imp{t t':TT}(h:PW X e t)(m:∀σ H Q,t' σ H Q->t σ H Q):PW X e t':=λw pins s σ H Q I q=>h w pins s σ H Q I (m σ H Q q)
theorem PA.imp{t t':TA}(h:PA X es t)(m:∀σ H Q,t' σ H Q->t σ H Q):PA X es t':=λp pins s σ H Q I q=>h p pins s σ H Q I (m σ H Q q)
theorem PS.imp{st:Stmt}{t t':TS}(h:PS X st t)(m:∀D σ H,t' D σ H->t D σ H):PS X st t':=λpins s σ H D I q=>h pins s σ H D I (m D σ H q)
theorem PSs.imp{st:List Stmt}{t t':TS}(h:PSs X st t)(m:∀D σ H,t' D σ H->t D σ H):PSs X st t':=λpins s σ H D I q=>h pins s σ H D I (m D σ H q)
theorem OpR.imp{f:Value->Value->Sem Value}{r r':R2}(h:OpR X f r)(m:∀x y H Q,r' x y H Q->r x y H Q):OpR X f r':=λpins s σ H x y v u Q I rx ry q=>h pins s σ H x y v u Q I rx ry (m x y H Q q)
theorem CallR.imp{f:Value}{r r':List V->Hp->VK->Prop}(h:CallR X f r)(m:∀xs H Q,r' xs H Q->r xs H Q):CallR X f r':=λpins s σ H xs us Q I rs q=>h pins s σ H xs us Q I rs (m xs H Q q)
theorem Fu(i:Nat){x:Str}(hG:G[i]?=some (some d))(hp:PE X (.Name x pos) (tVar i)):EV X G (.Name x pos) d:=hp.imp λσ H Q ⟨h,k⟩=>by
 obtain⟨v,a,b⟩:=h.2 i d hG
 exact⟨v,a,k v H (Same.refl H) b⟩
theorem evv(i:Nat){x:Str}(hG:G[i]?=some (some d):=by rfl)(hN:X.N[i]?=some x:=by rfl)(hv:Vis X.env.scope x:=by first|exact inl rfl|exact inr (inl rfl)|exact inr (inr rfl))(hd:(x==("__debug__":Str))=false:=by decide)(hcd:(x==("__classdict__":Str))=false:=by decide):EV X G (.Name x pos) d:=Fu i hG (pv i hN hv hd hcd)
theorem Ab{i j}:EV X G (.Constant (.int i) j pos) (.int i):=pe_int.imp λσ H Q ⟨h,k⟩=>k _ H (Same.refl H) (.int i)
theorem So{i j}:EV X G (.Constant (.bool i) j pos) (.bool i):=pe_bl.imp λσ H Q ⟨h,k⟩=>k _ H (Same.refl H) (.bl i)
theorem Ar{i j}:EV X G (.Constant (.str i) j pos) (.str i):=pe_str.imp λσ H Q ⟨h,k⟩=>k _ H (Same.refl H) (.str i)
theorem DC{j}:EV X G (.Constant .none j pos) .none:=pe_non.imp λσ H Q ⟨h,k⟩=>k _ H (Same.refl H) .non
def rD(K:Frag)(da db d:PyData):R2:=λx y H Q=>DV K H x da/\DV K H y db/\∀v H',Same H H'->DV K H' v d->Q v H'
abbrev OD(X:Cx)(f:Value->Value->Sem Value)(da db d:PyData):Prop:=OpR X f (rD X.K da db d)
theorem HS{r:R2}{Q:VK}(h:SD K H σ G)(k:∀x y H',Same H H'->DV K H' x da->DV K H' y db->r x y H' Q):tOp r (tD K G da) (tD K G db) σ H Q:=
 ⟨h,λx H1 s1 d1=>⟨h.mono s1,λy H2 s2 d2=>k x y H2 (s1.trans s2) (d1.mono s2) d2⟩⟩
theorem Ae{op:Operator}(ha:EV X G a da)(hb:EV X G b db)(ho:OD X (binaryOp op) da db d):EV X G (.BinOp a op b pos) d:=
 (L5 ho ha hb).imp λσ H Q ⟨h,k⟩=>HS h λx y H' s' d1 d2=>⟨d1,d2,λv H2 s2 dv=>k v H2 (s'.trans s2) dv⟩
theorem BP{op:CmpOp}(ha:EV X G a da)(hb:EV X G b db)(ho:OD X (compareOp op) da db d)(hm:behindInMarks op b=false):EV X G (.Compare a [op] [b] pos) d:=
 (Rg ho ha hb hm).imp λσ H Q ⟨h,k⟩=>HS h λx y H' s' d1 d2=>⟨d1,d2,λv H2 s2 dv=>k v H2 (s'.trans s2) dv⟩
theorem Al{op:CmpOp}{k:Bool}(ha:EV X G a da)(hb:EV X G b db)(ho:OD X (compareOp op) da db (.bool k))(hm:behindInMarks op b=false):TV X G (.Compare a [op] [b] pos) k:=
 (LL ho ha hb hm).imp λσ H Q ⟨h,kk⟩=>HS h λx y H' s' d1 d2=>⟨d1,d2,λv H2 s2 dv=>⟨k,dv.of_bl,kk H2 (s'.trans s2)⟩⟩
theorem DN{f:Value->Value->Sem Value}{i j:Int}{g:Int->Int->V}(h:OpR X f (rI0 g))(hd:∀H,DV X.K H (g i j) d):OD X f (.int i) (.int j) d:=
 h.imp λx y H Q ⟨h1,h2,k⟩=>⟨i,j,h1.of_int,h2.of_int,k _ H (Same.refl H) (hd H)⟩
theorem M0{f:Value->Value->Sem Value}{i j:Int}{C:Int->Int->Prop}{g:Int->Int->V}(h:OpR X f (rI C g))(hc:C i j)(hd:∀H,DV X.K H (g i j) d):OD X f (.int i) (.int j) d:=
 h.imp λx y H Q ⟨h1,h2,k⟩=>⟨i,j,h1.of_int,h2.of_int,hc,k _ H (Same.refl H) (hd H)⟩
theorem AZ{k:Bool}(hu:X.A.units+64<cLine)(ha:da.canLay0=true)(hb:db.canLay0=true)(hd:min da.depth db.depth<=60)(hk:eqv da db=k):OD X (compareOp .Eq) da db (.bool k):=by
 intro pins s σ H x y v u Q I rx ry ⟨h1,h2,q⟩
 obtain⟨as,r1⟩:=h1.reads I rx ha
 obtain⟨bs,r2⟩:=h2.reads I ry hb
 refine PySem.SeqAt.compareEq_reads r1 r2 ha hb (by omega) ⟨.bl _,H,I,rfl,q _ H (Same.refl H) ?_⟩
 rw[hk]
 exact .bl k
theorem Ct{k:Bool}(hu:X.A.units+64<cLine)(ha:da.canLay0=true)(hb:db.canLay0=true)(hd:min da.depth db.depth<=60)(hk:(!PyData.eqv da db)=k):OD X (compareOp .NotEq) da db (.bool k):=by
 intro pins s σ H x y v u Q I rx ry ⟨h1,h2,q⟩
 obtain⟨as,r1⟩:=h1.reads I rx ha
 obtain⟨bs,r2⟩:=h2.reads I ry hb
 refine PySem.SeqAt.compareNe_reads r1 r2 ha hb (by omega) ⟨.bl _,H,I,rfl,q _ H (Same.refl H) ?_⟩
 rw[hk]
 exact .bl k
end
end
section
variable{a b:Expr}{rest:List Expr}
theorem Same.new{p:Addr}{o:HO}(h:H p=none):Same H (upd H p o):=λb u e=>by rw[Ag (Ao e h)];exact e
theorem AQ{k:Bool}(h:EV X G e (.bool k))(he:∀whole,isTrue e X.env whole=(do let v <-whole;standAt e.pos;holding [v] (truthy v)):=by intro _;rfl):TV X G e k:=
 (Tv h he).imp λσ H Q ⟨h,q⟩=>⟨h,λv H' s' dv=>⟨k,dv.of_bl,q H' s'⟩⟩
theorem AI{k:Bool}(h:TV X G a k):WV X G (.BoolOp .And [a] pos) k:=Rm h
theorem By{k:Bool}(h:TV X G a k):WV X G (.BoolOp .Or [a] pos) k:=SK h
theorem AF{k k':Bool}(h:TV X G a k)(h2:k=true->WV X G (.BoolOp .And (b::rest) pos) k'):WV X G (.BoolOp .And (a::b::rest) pos) (k&&k'):=by
 cases k with
 |true=>exact(TM h (h2 rfl)).imp λσ H Q ⟨h,q⟩=>⟨h,λH' s'=>(by simp only[if_true];exact⟨h.mono s',λH2 s2=>q H2 (s'.trans s2)⟩)⟩
 |false=>
  intro wh pins s σ H Q I ⟨h1,q⟩
  refine isTrue_and (thn (h pins s σ H (λc H1=>c=false/\Q false H1) I ⟨h1,λH' s'=>⟨rfl,q H' s'⟩⟩) λc s1 ⟨H1,I1,e1,q1⟩=>?_)
  subst e1
  exact⟨H1,I1,q1⟩
theorem B3{k k':Bool}(h:TV X G a k)(h2:k=false->WV X G (.BoolOp .Or (b::rest) pos) k'):WV X G (.BoolOp .Or (a::b::rest) pos) (k||k'):=by
 cases k with
 |false=>exact(Uu h (h2 rfl)).imp λσ H Q ⟨h,q⟩=>⟨h,λH' s'=>(by simp only[false_eq_true,if_false];exact⟨h.mono s',λH2 s2=>q H2 (s'.trans s2)⟩)⟩
 |true=>
  intro wh pins s σ H Q I ⟨h1,q⟩
  refine isTrue_or (thn (h pins s σ H (λc H1=>c=true/\Q true H1) I ⟨h1,λH' s'=>⟨rfl,q H' s'⟩⟩) λc s1 ⟨H1,I1,e1,q1⟩=>?_)
  subst e1
  exact⟨H1,I1,q1⟩
theorem AR{k:Bool}(h:WV X G e k):TV X G e k:=h.pt
theorem AU{k:Bool}(h:TV X G a k):TV X G (.UnaryOp .Not a pos) (!k):=(SX h).imp λσ H Q ⟨h,q⟩=>⟨h,λH' s'=>q H' s'⟩
theorem I_{k:Bool}(h:EV X G a (.bool k)):EV X G (.UnaryOp .Not a pos) (.bool (!k)):=(TB h).imp λσ H Q ⟨h,q⟩=>⟨h,λv H' s' dv=>⟨k,dv.of_bl,q _ H' s' (.bl _)⟩⟩
theorem Fj{op}(h:EV X G a d):EV X G (.BoolOp op [a] pos) d:=Tp h
theorem Do{k:Bool}(h:EV X G a (.bool k))(h2:k=true->EV X G (.BoolOp .And (b::rest) pos) d)(h3:k=false->d=.bool false):EV X G (.BoolOp .And (a::b::rest) pos) d:=by
 cases k with
 |true=>exact(S3 h (h2 rfl)).imp λσ H Q ⟨h,q⟩=>⟨h,λv H' s' dv=>⟨true,dv.of_bl,by simp only[if_true];exact⟨h.mono s',λv2 H2 s2 d2=>q v2 H2 (s'.trans s2) d2⟩⟩⟩
 |false=>
  intro pins s σ H Q I ⟨h1,q⟩
  refine BoolOp_and (thn (h pins s σ H (λv H1=>v=.bl false/\Q (.bl false) H1) I ⟨h1,λv H' s' dv=>⟨dv.of_bl,q _ H' s' (by rw[h3 rfl];exact .bl _)⟩⟩) λv s1 ⟨x,H1,I1,r1,e1,q1⟩=>?_)
  subst e1
  cases r1
  exact wpAny_truthy_bool ⟨.bl false,H1,I1,rfl,q1⟩
theorem Uy{k:Bool}(h:EV X G a (.bool k))(h2:k=false->EV X G (.BoolOp .Or (b::rest) pos) d)(h3:k=true->d=.bool true):EV X G (.BoolOp .Or (a::b::rest) pos) d:=by
 cases k with
 |false=>exact(UI h (h2 rfl)).imp λσ H Q ⟨h,q⟩=>⟨h,λv H' s' dv=>⟨false,dv.of_bl,by simp only[false_eq_true,if_false];exact⟨h.mono s',λv2 H2 s2 d2=>q v2 H2 (s'.trans s2) d2⟩⟩⟩
 |true=>
  intro pins s σ H Q I ⟨h1,q⟩
  refine BoolOp_or (thn (h pins s σ H (λv H1=>v=.bl true/\Q (.bl true) H1) I ⟨h1,λv H' s' dv=>⟨dv.of_bl,q _ H' s' (by rw[h3 rfl];exact .bl _)⟩⟩) λv s1 ⟨x,H1,I1,r1,e1,q1⟩=>?_)
  subst e1
  cases r1
  exact wpAny_truthy_bool ⟨.bl true,H1,I1,rfl,q1⟩
theorem PX{op op':CmpOp}{k k':Bool}(ho:OD X (compareOp op) da db (.bool k))(ho':k=true->OD X (compareOp op') db dc (.bool k'))(ha:EV X G a da)(hb:EV X G b db)(hc:k=true->EV X G c dc)
  (hm:lastMarks [op,op'] [b,c]=false:=by with_unfolding_all rfl):EV X G (.Compare a [op,op'] [b,c] pos) (.bool (k&&k')):=by
 cases k with
 |true=>
  refine(Pg ho (ho' rfl) ha hb (hc rfl) hm).imp λσ H Q ⟨h,q⟩=>⟨h,λx H1 s1 d1=>⟨h.mono s1,λy H2 s2 d2=>⟨d1.mono s2,d2,λv H3 s3 d3=>⟨true,d3.of_bl,?_⟩⟩⟩⟩
  simp only[if_true]
  exact⟨((h.mono s1).mono s2).mono s3,λz H4 s4 d4=>⟨(d2.mono s3).mono s4,d4,λv H5 s5 d5=>q v H5 ((((s1.trans s2).trans s3).trans s4).trans s5) d5⟩⟩
 |false=>
  intro pins s σ H Q I ⟨h1,q⟩
  refine Compare_chain (thn (ha pins s σ H (λx H1=>Same H H1/\DV X.K H1 x da) I ⟨h1,λv H' s' dv=>⟨s',dv⟩⟩) λv s1 ⟨x,H1,I1,r1,z1,d1⟩=>
   chain_link (thn (hb pins s1 σ H1 (λy H2=>Same H H2/\DV X.K H2 x da/\DV X.K H2 y db) I1 ⟨h1.mono z1,λv H' s' dv=>⟨z1.trans s',d1.mono s',dv⟩⟩) λu s2 ⟨y,H2,I2,r2,z2,d2,d3⟩=>
   thn (ho pins s2 σ H2 x y v u (λz H3=>z=.bl false/\Q (.bl false) H3) I2 r1 r2 ⟨d2,d3,λv H3 s3 d3=>⟨d3.of_bl,q _ H3 (z2.trans s3) (.bl false)⟩⟩) λw s3 ⟨z,H3,I3,r3,e3,q3⟩=>?_)) hm
  subst e3
  cases r3
  exact wpAny_truthy_bool (ite_ff ⟨.bl false,H3,I3,rfl,q3⟩)
theorem A7{i j:Int}:OD X (binaryOp .Add) (.int i) (.int j) (.int (i+j)):=DN Lk λH=>.int _
theorem Hk{i j:Int}:OD X (binaryOp .Sub) (.int i) (.int j) (.int (i-j)):=DN Tx λH=>.int _
theorem DH{i j:Int}(h:CMul i j):OD X (binaryOp .Mult) (.int i) (.int j) (.int (i*j)):=M0 Tj h λH=>.int _
theorem L6{i j:Int}(h:CDiv i j):OD X (binaryOp .FloorDiv) (.int i) (.int j) (.int (i/j)):=M0 QU h λH=>.int _
theorem AA{i j:Int}(h:0<j):OD X (binaryOp .Mod) (.int i) (.int j) (.int (i%j)):=M0 Th h λH=>.int _
theorem SL{i j:Int}(h:CPow i j):OD X (binaryOp .Pow) (.int i) (.int j) (.int (i^j.toNat)):=M0 TL h λH=>.int _
theorem Tg{i j:Int}:OD X (binaryOp .BitXor) (.int i) (.int j) (.int (Builtin.bitXor i j)):=DN SZ λH=>.int _
theorem O9{i j:Int}:OD X (compareOp .Lt) (.int i) (.int j) (.bool (decide (i<j))):=DN Up λH=>.bl _
theorem FA{i j:Int}:OD X (compareOp .LtE) (.int i) (.int j) (.bool (decide (i<=j))):=DN Uf λH=>.bl _
theorem J4{i j:Int}:OD X (compareOp .Gt) (.int i) (.int j) (.bool (decide (j<i))):=DN Ui λH=>.bl _
theorem U7{i j:Int}:OD X (compareOp .GtE) (.int i) (.int j) (.bool (decide (j<=i))):=DN Ud λH=>.bl _
theorem EF{xs ys:List PyData}(hz:xs.length+ys.length<=sizeLine):OD X (binaryOp .Add) (.list xs) (.list ys) (.list (xs++ys)):=by
 intro pins s σ H x y v u Q I rx ry ⟨h1,h2,q⟩
 obtain⟨l,us,rfl,hl,d1⟩:=h1.of_lst
 obtain⟨m,ws,rfl,hm,d2⟩:=h2.of_lst
 cases rx
 cases ry
 obtain⟨its,r,pl,_⟩:=I.list hl
 obtain⟨its2,r2,pl2,_⟩:=I.list hm
 obtain⟨⟨cls,dd,data,sl⟩,ho,hc,n,hd⟩:=pl.isList
 obtain⟨⟨cls2,dd2,data2,sl2⟩,ho2,hc2,n2,hd2⟩:=pl2.isList
 simp only at hc hd hc2 hd2
 subst hc hd hc2 hd2
 have hn:its.toArray.size+its2.toArray.size<=sizeLine:=by rw[size_toArray,size_toArray,<-r.length,<-r2.length,d1.length,d2.length];exact hz
 refine concat_meets ⟨_,ho,rfl⟩ ⟨_,ho2,rfl⟩ noFill_list_add seq_list_add PySem.F.slot_list_add PySem.F.entry_list_add (PySem.F.args_list_add_2 _ _) (list_addW l m its.toArray its2.toArray n n2 dd dd2 sl sl2 hn) ⟨ho,ho2,?_⟩
 have ea:its.toArray++its2.toArray=(its++its2).toArray:=by simp
 rw[ea]
 have hf:=I.hok.fresh (le_refl _)
 refine⟨.ref s.heap.objs.size,_,I.laid (t':=s.toks) (o:=.lst (us++ws)) (λb o e=>get?_push_of_some _ e) (le_refl _) ⟨by rw[length_append,d1.length,d2.length];exact hz,its++its2,0,r.append r2,get?_push_size _ rfl⟩,rfl,q _ _ (Same.new hf) ?_⟩
 exact .lst (SqL.of Ah) ((d1.append d2).mono (Same.new hf))
theorem LV{xs ys:List PyData}(hx:xs≠[])(hz:xs.length+ys.length<=sizeLine):OD X (binaryOp .Add) (.tuple xs) (.tuple ys) (.tuple (xs++ys)):=
 op_catT.imp λx y H Q ⟨h1,h2,q⟩=>by
  obtain⟨l,us,rfl,hl,d1⟩:=h1.of_tup
  obtain⟨m,ws,rfl,hm,d2⟩:=h2.of_tup
  refine⟨l,m,us,ws,rfl,rfl,hl,hm,λz=>hx ?_,by rw[d1.length,d2.length];exact hz,λz=>?_,λz p hp=>?_⟩
  .subst z
   cases d1
   rfl
  .subst z
   cases d2
   rw[append_nil]at q
   exact q _ H (Same.refl H) (.tup hl d1)
  .exact q _ _ (Same.new hp) (.tup (SqT.of Ah) ((d1.append d2).mono (Same.new hp)))
def CK:PyData->Bool
 | .none=>true
 | .bool _=>true
 | .int _=>true
 | .str _=>true
 |_=>false
theorem DV.flat{v:V}(h:DV K H v d)(f:CK d=true):Ea v=true:=by
 cases h<;>first|rfl|cases f
theorem DVs.flat:∀{vs:List V}{ds:List PyData},DVs K H vs ds->ds.all CK=true->vs.all Ea=true
 |_,_,.nil,_=>rfl
 |_,_,.cons h t,f=>by
  rw[List.all_cons,Bool.and_eq_true]at f ⊢
  exact⟨h.flat f.1,DVs.flat t f.2⟩
theorem DV.eqV_eqv{v w:V}{e:PyData}(h:DV K H v d)(h':DV K H w e)(f:CK d=true)(f':CK e=true):eqV v w=PyData.eqv d e:=by
 cases h<;>cases h'<;>first|rfl|(simp[CK]at f;done)|(simp[CK]at f';done)
theorem DVs.inV{K:PySem.W.Frag}{H:Hp}{v:V}{d:PyData}(h:DV K H v d)(f:CK d=true):∀{vs:List V}{ds:List PyData},DVs K H vs ds->ds.all CK=true->inV v vs=ds.any λe=>PyData.eqv e d
 |_,_,.nil,_=>rfl
 |_,_,.cons h' t,fs=>by
  rw[List.all_cons,Bool.and_eq_true]at fs
  have ih:=DVs.inV h f t fs.2
  unfold L2.inV at ih ⊢
  rw[List.any_cons,List.any_cons,ih,h'.eqV_eqv h fs.1 f]
theorem GQ{xs:List PyData}{k:Bool}(hs:db=.list xs\/db=.tuple xs)(f:CK da=true)(fs:xs.all CK=true)(hk:(xs.any λe=>eqv e da)=k):OD X (compareOp .In) da db (.bool k):=
 op_in_seq.imp λx y H Q ⟨h1,h2,q⟩=>by
  have z:∃p us,y=.ref p/\(SqL X.K H p us\/SqT X.K H p us)/\DVs X.K H us xs:=by
   rcases hs with rfl|rfl
   .obtain⟨l,us,e,hl,d1⟩:=h2.of_lst
    exact⟨l,us,e,.inl hl,d1⟩
   .obtain⟨l,us,e,hl,d1⟩:=h2.of_tup
    exact⟨l,us,e,.inr hl,d1⟩
  obtain⟨p,us,e,hl,d1⟩:=z
  refine⟨p,us,e,hl,h1.flat f,d1.flat fs,q _ H (Same.refl H) ?_⟩
  rw[if_neg (by simp),d1.inV h1 f fs,hk]
  exact .bl k
theorem Hj{xs:List PyData}{k:Bool}(hs:db=.list xs\/db=.tuple xs)(f:CK da=true)(fs:xs.all CK=true)(hk:(!xs.any λe=>eqv e da)=k):OD X (compareOp .NotIn) da db (.bool k):=
 op_notIn_seq.imp λx y H Q ⟨h1,h2,q⟩=>by
  have z:∃p us,y=.ref p/\(SqL X.K H p us\/SqT X.K H p us)/\DVs X.K H us xs:=by
   rcases hs with rfl|rfl
   .obtain⟨l,us,e,hl,d1⟩:=h2.of_lst
    exact⟨l,us,e,.inl hl,d1⟩
   .obtain⟨l,us,e,hl,d1⟩:=h2.of_tup
    exact⟨l,us,e,.inr hl,d1⟩
  obtain⟨p,us,e,hl,d1⟩:=z
  refine⟨p,us,e,hl,h1.flat f,d1.flat fs,q _ H (Same.refl H) ?_⟩
  rw[if_pos rfl,d1.inV h1 f fs,hk]
  exact .bl k
def nonD:PyData->Bool
 | .none=>true
 |_=>false
theorem DV.isNon{v:V}(h:DV K H v d):decide (v=.non)=nonD d:=by
 cases h<;>rfl
theorem Ac:AV X G [] []:=pa_nil.imp λσ H Q ⟨h,q⟩=>q [] H (Same.refl H) .nil
theorem Aa{ds:List PyData}(h:EV X G e d)(hr:AV X G es ds)(hs:Zst X e es:=by rfl):AV X G (e::es) (d::ds):=
 (Cq h hr hs).imp λσ H Q ⟨h,q⟩=>⟨h,λv H1 s1 d1=>⟨h.mono s1,λvs H2 s2 d2=>q _ H2 (s1.trans s2) (.cons (d1.mono s2) d2)⟩⟩
theorem A9{x1}{ds:List PyData}(h:AV X G es ds)(hz:ds.length<=sizeLine):EV X G (.Tuple es x1 pos) (.tuple ds):=
 (KD h).imp λσ H Q ⟨h,q⟩=>⟨h,λvs H1 s1 d1=>⟨by rw[d1.length];exact hz,λp hp=>q _ _ (s1.trans (Same.new hp)) (.tup (SqT.of Ah) (d1.mono (Same.new hp)))⟩⟩
theorem Bf{ds:List PyData}(h:AV X G es ds)(hz:ds.length<=sizeLine):EV X G (.List es pos) (.list ds):=
 (Ip h).imp λσ H Q ⟨h,q⟩=>⟨h,λvs H1 s1 d1=>⟨by rw[d1.length];exact hz,λp hp=>q _ _ (s1.trans (Same.new hp)) (.lst (SqL.of Ah) (d1.mono (Same.new hp)))⟩⟩
theorem DVs.atI{K:PySem.W.Frag}{H:Hp}{vs:List V}{ds:List PyData}{i:Int}{d:PyData}(h:DVs K H vs ds)(e:atI ds i=some d):∃v,L2.atI vs i=some v/\DV K H v d:=by
 unfold L2.atI at e ⊢
 rw[h.length]
 cases q:ixN ds.length i with
 |none=>rw[q]at e;cases e
 |some j=>
  rw[q]at e
  exact h.get e
theorem A1{ds:List PyData}{i:Int}(ha:EV X G a (.list ds))(hb:EV X G b (.int i))(he:atI ds i=some d)(hs:Gh b:=by intro _ _;rfl):EV X G (.Subscript a b pos) d:=
 (Q7 R7 ha hb hs).imp λσ H Q ⟨h,q⟩=>HS h λx y H' s' d1 d2=>by
  obtain⟨l,us,rfl,hl,d3⟩:=d1.of_lst
  obtain⟨v,e1,e2⟩:=d3.atI he
  exact⟨l,us,i,v,rfl,d2.of_int,hl,e1,q v H' s' e2⟩
theorem A4{ds:List PyData}{i:Int}(ha:EV X G a (.tuple ds))(hb:EV X G b (.int i))(he:atI ds i=some d)(hs:Gh b:=by intro _ _;rfl):EV X G (.Subscript a b pos) d:=
 (Q7 T3 ha hb hs).imp λσ H Q ⟨h,q⟩=>HS h λx y H' s' d1 d2=>by
  obtain⟨l,us,rfl,hl,d3⟩:=d1.of_tup
  obtain⟨v,e1,e2⟩:=d3.atI he
  exact⟨l,us,i,v,rfl,d2.of_int,hl,e1,q v H' s' e2⟩
theorem Qg{i:Int}(ha:EV X G a (.int i)):EV X G (.UnaryOp .USub a pos) (.int (-i)):=
 (U8 TW ha).imp λσ H Q ⟨h,q⟩=>⟨h,λv H' s' dv=>⟨i,dv.of_int,q _ H' s' (.int _)⟩⟩
def tDO(K:Frag)(G:Gam)(o:Option Int):TO:=λσ H Q=>SD K H σ G/\∀H',Same H H'->Q o H'
abbrev OV(X:Cx)(G:Gam)(e:Option Expr)(o:Option Int):Prop:=PO X e (tDO X.K G o)
theorem FZ:OV X G none none:=λpins s σ H Q I ⟨h,q⟩=>Ro pins s σ H Q I (q H (Same.refl H))
theorem BC{i:Int}(h:EV X G e (.int i)):OV X G (some e) (some i):=λpins s σ H Q I ⟨h1,q⟩=>RQ h pins s σ H Q I ⟨h1,λv H' s' dv=>⟨i,dv.of_int,q H' s'⟩⟩
def cutD(xs:List PyData)(lo hi:Option Int):List PyData:=(xs.drop (HT.sIx xs.length 0 lo)).take (HT.sIx xs.length xs.length hi-HT.sIx xs.length 0 lo)
theorem DVs.cut{vs:List V}{ds:List PyData}(h:DVs K H vs ds)(lo hi:Option Int):DVs K H (cutV vs lo hi) (cutD ds lo hi):=by
 unfold cutV cutD
 rw[h.length]
 exact(h.drop _).take _
theorem Iw{lo hi:Option Expr}{ol oh:Option Int}{p2:Pos}{ds:List PyData}(ha:EV X G a (.list ds))(hl:OV X G lo ol)(hh:OV X G hi oh):EV X G (.Subscript a (.Slice lo hi none p2) pos) (.list (cutD ds ol oh)):=
 (Jp Rb ha hl hh).imp λσ H Q ⟨h,q⟩=>⟨h,λv H1 s1 d1=>⟨h.mono s1,λH2 s2=>⟨(h.mono s1).mono s2,λH3 s3=>by
  obtain⟨l,us,rfl,hl,d3⟩:=((d1.mono s2).mono s3).of_lst
  exact⟨l,us,rfl,hl,λp hp=>q _ _ (((s1.trans s2).trans s3).trans (Same.new hp)) (.lst (SqL.of Ah) ((d3.cut ol oh).mono (Same.new hp)))⟩⟩⟩⟩
theorem Kv{lo hi:Option Expr}{ol oh:Option Int}{p2:Pos}{ds:List PyData}(ha:EV X G a (.tuple ds))(hl:OV X G lo ol)(hh:OV X G hi oh)(hw:¬(HT.sIx ds.length 0 ol=0/\HT.sIx ds.length ds.length oh=ds.length)):
  EV X G (.Subscript a (.Slice lo hi none p2) pos) (.tuple (cutD ds ol oh)):=
 (Jp Tl ha hl hh).imp λσ H Q ⟨h,q⟩=>⟨h,λv H1 s1 d1=>⟨h.mono s1,λH2 s2=>⟨(h.mono s1).mono s2,λH3 s3=>by
  obtain⟨l,us,rfl,hl,d3⟩:=((d1.mono s2).mono s3).of_tup
  exact⟨l,us,rfl,hl,by rw[d3.length];exact hw,λp hp=>q _ _ (((s1.trans s2).trans s3).trans (Same.new hp)) (.tup (SqT.of Ah) ((d3.cut ol oh).mono (Same.new hp)))⟩⟩⟩⟩
end
section
variable{κ:Type}[DecidableEq κ]
def valV(kvs:List (κ×V))(k:κ):Option V:=(kvs.find? λkv=>decide (kv.1=k)).map (·.2)
def putK(kvs:List (κ×V))(k:κ)(v:V):List (κ×V):=
 if(kvs.any λkv=>decide (kv.1=k))=true then kvs.map (λkv=>if kv.1=k then(kv.1,v)else kv)else kvs++[(k,v)]
def UR(kvs:List (κ×V))(k:κ):List (κ×V):=kvs.filter λkv=>decide (kv.1≠k)
theorem DE{p:κ×V}{r:List (κ×V)}{k:κ}(e:p.1=k):valV (p::r) k=some p.2:=by simp[valV,find?_cons,e]
theorem Di{p:κ×V}{r:List (κ×V)}{k:κ}(e:¬p.1=k):valV (p::r) k=valV r k:=by simp[valV,find?_cons,e]
theorem EJ(k:κ):∀kvs:List (κ×V),(kvs.any λkv=>decide (kv.1=k))=(valV kvs k).isSome
 |[]=>rfl
 |p::r=>by
  rw[any_cons]
  by_cases e:p.1=k
  .simp only[DE e,decide_eq_true e,Bool.true_or,Option.isSome_some]
  .rw[Di e,decide_eq_false e,Bool.false_or];exact EJ k r
theorem DB(kvs:List (κ×V))(k:κ)(v:V):(putK kvs k v).length<=kvs.length+1:=by
 unfold putK
 split
 .rw[length_map];omega
 .rw[length_append,length_cons,length_nil];omega
theorem RelO.isSome_eq{o:Option V}{u:Option Value}(r:RelO o u):o.isSome=u.isSome:=by
 cases o with
 |none=>cases u with
  |none=>rfl
  |some _=>exact(show False from r).elim
 |some _=>cases u with
  |none=>exact(show False from r).elim
  |some _=>rfl
theorem RelO.getD{o:Option V}{u:Option Value}{d:V}{d':Value}(r:RelO o u)(rd:RelV d d'):RelV (o.getD d) (u.getD d'):=by
 cases o with
 |none=>cases u with
  |none=>exact rd
  |some _=>exact(show False from r).elim
 |some _=>cases u with
  |none=>exact(show False from r).elim
  |some _=>exact r
theorem KV.val{kvs:List (κ×V)}{vs:List (κ×Value)}(r:KV kvs vs)(k:κ):RelO (valV kvs k) (valueAt vs k):=by
 unfold KV at r
 induction r with
 |nil=>exact True.intro
 | @cons p q ps qs h t ih=>
   obtain⟨h1,h2⟩:=h
   by_cases e:p.1=k
   .have e':q.1=k:=h1.symm.trans e
    have b:valueAt (q::qs) k=some q.2:=by simp[valueAt,List.find?_cons,e']
    rw[DE e,b];exact h2
   .have e':¬q.1=k:=λz=>e (h1.trans z)
    have b:valueAt (q::qs) k=valueAt qs k:=by simp[valueAt,List.find?_cons,e']
    rw[Di e,b];exact ih
theorem KV.any{kvs:List (κ×V)}{vs:List (κ×Value)}(r:KV kvs vs)(k:κ):(kvs.any λkv=>decide (kv.1=k))=vs.any λkv=>decide (kv.1=k):=by
 unfold KV at r
 induction r with
 |nil=>rfl
 |cons h t ih=>rw[List.any_cons,List.any_cons,ih,h.1]
theorem KV.repl{kvs:List (κ×V)}{vs:List (κ×Value)}(r:KV kvs vs)(k:κ){y:V}{u:Value}(ry:RelV y u):
  KV (kvs.map λkv=>if kv.1=k then(kv.1,y)else kv) (vs.map λkv=>if kv.1=k then(kv.1,u)else kv):=by
 unfold KV at r ⊢
 induction r with
 |nil=>exact .nil
 | @cons p q ps qs h t ih=>
   rw[List.map_cons,List.map_cons]
   refine .cons ?_ ih
   obtain⟨h1,h2⟩:=h
   by_cases e:p.1=k
   .rw[if_pos e,if_pos (h1.symm.trans e)];exact⟨h1,ry⟩
   .rw[if_neg e,if_neg (λz=>e (h1.trans z))];exact⟨h1,h2⟩
theorem KV.put{kvs:List (κ×V)}{vs:List (κ×Value)}(r:KV kvs vs)(k:κ){y:V}{u:Value}(ry:RelV y u):KV (putK kvs k y) (stored vs k u):=by
 unfold putK stored
 rw[r.any k]
 by_cases e:(vs.any λkv=>decide (kv.1=k))=true
 .rw[if_pos e,if_pos e];exact r.repl k ry
 .rw[if_neg e,if_neg e];exact Paired.snoc r ⟨rfl,ry⟩
theorem KV.length{kvs:List (κ×V)}{vs:List (κ×Value)}(r:KV kvs vs):kvs.length=vs.length:=Paired.length r
end
variable{u:Value}
theorem Ji{k:Key}(r:RelV (kV k) u):(AC P w).is k u=true:=by
 cases k with
 |inl i=>obtain⟨t,e⟩:=(show ∃t,u=Value.int i t from r);subst e;exact JN P w i t
 |inr x=>obtain⟨t,e⟩:=(show ∃t,u=Value.str x t from r);subst e;exact Jm P w x t
theorem Ic{P:Program}{w:World}:∀{ks:List Key}{us:List Value},Vals (ks.map kV) us->ItemsAre (AC P w) ks us
 |[],_,r=>by rw[map_nil]at r;cases r;exact .nil
 |k::ks,_,r=>by
  rw[map_cons]at r
  cases r with
  |cons h t=>exact .cons (Ji h) (Ic t)
abbrev KT(H:Hp):List (List Key×V)->List (List Key×Addr×Value)->Prop:=Paired λp q=>p.1=q.1/\H q.2.1=some (.tup (p.1.map kV))/\RelV p.2 q.2.2
variable{kvs:List (List Key×V)}{xs:List (List Key×Addr×Value)}
theorem KT.val(r:KT H kvs xs)(k:List Key):RelO (valV kvs k) ((atKey xs k).map (·.2)):=by
 induction r with
 |nil=>exact True.intro
 | @cons p q ps qs h t ih=>
   obtain⟨h1,_,h2⟩:=h
   by_cases e:p.1=k
   .have e':q.1=k:=h1.symm.trans e
    have b:atKey (q::qs) k=some q.2:=by simp[atKey,List.find?_cons,e']
    rw[DE e,b];exact h2
   .have e':¬q.1=k:=λz=>e (h1.trans z)
    have b:atKey (q::qs) k=atKey qs k:=by simp[atKey,List.find?_cons,e']
    rw[Di e,b];exact ih
variable{y:V}
theorem KT.repl(r:KT H kvs xs)(k:List Key)(ry:RelV y u):
  KT H (kvs.map λkv=>if kv.1=k then(kv.1,y)else kv) (xs.map (putAt k u)):=by
 induction r with
 |nil=>exact .nil
 | @cons p q ps qs h t ih=>
   rw[List.map_cons,List.map_cons]
   refine .cons ?_ ih
   obtain⟨h1,h2,h3⟩:=h
   unfold putAt
   by_cases e:p.1=k
   .rw[if_pos e,if_pos (h1.symm.trans e)];exact⟨h1,h2,ry⟩
   .rw[if_neg e,if_neg (λz=>e (h1.trans z))];exact⟨h1,h2,h3⟩
variable{b:Addr}
theorem KT.put(r:KT H kvs xs)(k:List Key)(hb:H b=some (.tup (k.map kV)))(ry:RelV y u):
  KT H (putK kvs k y) (storedH xs k b u):=by
 have e:(kvs.any λkv=>decide (kv.1=k))=(atKey xs k).isSome:=by
  rw[EJ,(r.val k).isSome_eq,Option.isSome_map]
 unfold putK storedH
 rw[e]
 by_cases q:(atKey xs k).isSome=true
 .rw[if_pos q,if_pos q];exact r.repl k ry
 .rw[if_neg q,if_neg q];exact Paired.snoc r ⟨rfl,hb,ry⟩
theorem KT.keeps(r:KT H kvs xs)(ht:∀b ys,H b=some (.tup ys)->H' b=some (.tup ys)):KT H' kvs xs:=
 Paired.mapP r λ_ _ z=>⟨z.1,ht _ _ z.2.1,z.2.2⟩
section
variable{h:Heap}
theorem Sx{u:HO}(ok:HOk P w H h)(e:Rd H a u):ObjOk P w H h a u:=e.ok ok
theorem JT{kvs:List (Key×V)}(ok:HOk P w H h)(e:Rd H a (.dK kvs)):kvs.length<=sizeLine/\(a==sysModules)=false/\∃vs,KV kvs vs/\h.DictOf (AC P w) a vs:=
 show ObjOk P w H h a (.dK kvs)from Sx ok e
theorem Pe{kvs:List (Key×V)}(ok:HOk P w H h)(e:H a=some (.dK kvs)):kvs.length<=sizeLine/\(a==sysModules)=false/\∃vs,KV kvs vs/\h.DictOf (AC P w) a vs:=JT ok (.inl e)
theorem KU{ks:List Key}(ok:HOk P w H h)(e:H a=some (.tup (ks.map kV))):(tupleKind (AC P w)).is h ks a:=by
 obtain⟨_,⟨its,r,o,h1,h2,n,h3⟩,_⟩:=(show ObjOk P w H h a (.tup (ks.map kV))from ok a _ e)
 exact⟨o,its.toArray,n,h1,h2,h3,by simpa using Ic r⟩
theorem Qf(ok:HOk P w H h)(e:Rd H a (.dT kvs)):kvs.length<=sizeLine/\(a==sysModules)=false/\
  ∃xs,KT H kvs xs/\h.DictOfH (tupleKind (AC P w)) a xs:=by
 obtain⟨z,y,xs,r,o,es,ep,h1,h2,h3,h4,h5⟩:=(show ObjOk P w H h a (.dT kvs)from Sx ok e)
 refine⟨z,y,xs,r,o,es,ep,h1,h2,h3,h4,λx hx=>?_,h5⟩
 have all:∀{l:List (List Key×V)}{m:List (List Key×Addr×Value)},KT H l m->∀x∈m,(tupleKind (AC P w)).is h x.1 x.2.1:=by
  intro l m q
  induction q with
  |nil=>intro x hx;exact nomatch hx
  | @cons p q ps qs hq t ih=>
    intro x hx
    rcases mem_cons.mp hx with e|hx
    .subst e
     exact KU ok (by rw[<-hq.1];exact hq.2.1)
    .exact ih x hx
 exact all r x hx
theorem Uw(ok:HOk P w H h)(e:H a=some (.dT kvs)):kvs.length<=sizeLine/\(a==sysModules)=false/\
  ∃xs,KT H kvs xs/\h.DictOfH (tupleKind (AC P w)) a xs:=Qf ok (.inl e)
end
def DGet(H:Hp)(a:Addr)(y:V)(r:Option V):Prop:=
 (∃kvs k,Rd H a (.dK kvs)/\y=kV k/\r=valV kvs k)\/∃kvs k b,Rd H a (.dT kvs)/\y=.ref b/\H b=some (.tup (k.map kV))/\r=valV kvs k
def DPut(H:Hp)(a:Addr)(y v:V)(H':Hp):Prop:=
 (∃kvs k,H a=some (.dK kvs)/\y=kV k/\kvs.length<sizeLine/\H'=upd H a (.dK (putK kvs k v)))\/
 ∃kvs k b,H a=some (.dT kvs)/\y=.ref b/\H b=some (.tup (k.map kV))/\kvs.length<sizeLine/\H'=upd H a (.dT (putK kvs k v))
theorem DGet.k{H:Hp}{a:Addr}{kvs:List (Key×V)}{k:Key}(e:H a=some (.dK kvs)):DGet H a (kV k) (valV kvs k):=.inl ⟨kvs,k,.inl e,rfl,rfl⟩
theorem DGet.t{k:List Key}(e:H a=some (.dT kvs))(eb:H b=some (.tup (k.map kV))):DGet H a (.ref b) (valV kvs k):=.inr ⟨kvs,k,b,.inl e,rfl,eb,rfl⟩
theorem DPut.k{H:Hp}{a:Addr}{kvs:List (Key×V)}{k:Key}{v:V}(e:H a=some (.dK kvs))(hl:kvs.length<sizeLine):DPut H a (kV k) v (upd H a (.dK (putK kvs k v))):=.inl ⟨kvs,k,e,rfl,hl,rfl⟩
variable{v:V}
theorem DPut.t{k:List Key}(e:H a=some (.dT kvs))(eb:H b=some (.tup (k.map kV)))(hl:kvs.length<sizeLine):
  DPut H a (.ref b) v (upd H a (.dT (putK kvs k v))):=.inr ⟨kvs,k,b,e,rfl,eb,hl,rfl⟩
variable{o:Option V}{E:Value->Shared->Prop}
section
variable{r:Value}
theorem Inv.big(I:Inv X pins σ H s):sysModules<s.heap.objs.size:=by
 have h:mainGlobals<s.heap.objs.size:=(I.mod.glob.keeps I.bk).lt
 exact Nat.lt_trans (by decide) h
theorem IU{h':Heap}{t':Nat}{ob:HO}(I:Inv X pins σ H s)(mu:Mut (H a))(hs:SameBut a s.heap h')(he:∃q,h'.get? a=some q)(new:ObjOk X.prog X.w (upd H a ob) h' a ob):
  Inv X pins σ (upd H a ob) {s with heap:=h',toks:=t'}:=
 I.write (x:=a) (e:=a) mu (.inl rfl) (λb q hb z=>(hs.2 b hb).trans z) he new
theorem Pm{h':Heap}{kvs:List (Key×V)}{vs:List (Key×Value)}(z:kvs.length<=sizeLine)(hd:(a==sysModules)=false)(rel:KV kvs vs)(dd:h'.DictOf (AC P w) a vs):
  ObjOk P w H' h' a (.dK kvs):=⟨z,hd,vs,rel,dd⟩
theorem Nl{Q:Unit->Shared->Prop}(hu:A.units+1<cLine)(I:Inv X pins σ H s)(g:DPut H a y v H')(ry:RelV y u)(rv:RelV v r)(h:∀s',Inv X pins σ H' s'->Q () s'):
  wpAny (model X.prog X.w) A (setItem (.ref a) u r) Q E s:=by
 rcases g with⟨kvs,k,e,ey,l,eH⟩|⟨kvs,k,b,e,ey,eb,l,eH⟩
 .subst ey eH
  obtain⟨z,hd,vs,rel,dd⟩:=Pe I.hok e
  have hz:vs.length<=sizeLine:=by rw[<-rel.length];exact z
  have hl:(putK kvs k v).length<=sizeLine:=by have:=DB kvs k v;omega
  refine wpAny_setItem_pairs (hsz:=hz) (Ji ry) dd λh' dd' hs=>h _ ?_
  have he:∃q,h'.get? a=some q:=let⟨q,_,_,hq,_⟩:=dd';⟨q,hq⟩
  exact IU I (by rw[e];exact True.intro) hs he (Pm hl hd (rel.put k rv) dd')
 .subst ey eH
  cases(show u=Value.ref b from ry)
  obtain⟨z,hd,xs,rel,dd⟩:=Uw I.hok e
  have hz:xs.length<=sizeLine:=by rw[<-Paired.length rel];exact z
  have hl:(putK kvs k v).length<=sizeLine:=by have:=DB kvs k v;omega
  refine wpAny_setItem_heap (hsz:=hz) (tupleKind_room_in1 hu) (KU I.hok eb) dd λh' dd' hs=>h _ ?_
  obtain⟨q,es,ep,hq,h2,h3,h4,_,h5⟩:=dd'
  refine IU I (by rw[e];exact True.intro) hs ⟨q,hq⟩ ⟨hl,hd,_,(rel.put k eb rv).keeps λc ys ec=>?_,q,es,ep,hq,h2,h3,h4,h5⟩
  rw[Ag (UJ ec e (λz=>nomatch z))]
  exact ec
end
section
variable{kvs:List (Key×V)}{k:Key}
end
def NoSl(i:Expr):Prop:=∀ov iv,subscripted i false ov iv=operate [ov,iv] (getItem ov iv)
variable{Q:Value->Shared->Prop}
theorem QP{env:Env}{value slice:Expr}{T id:String}
  (hl:typeLookup (.type T) "__getitem__"=pure (some (.builtin id)))(hs:NoSl slice)
  (h:wpAny (model prog w) A (eval value env) (λo s₁=>wpAny (model prog w) A (eval slice env) (λi s₂=>s₂.TypeIs o T/\wpAny (model prog w) A (getItem o i) Q E s₂) E s₁) E s):
  wpAny (model prog w) A (eval (.Subscript value slice pos) env) Q E s:=by
 refine Subscript_ (wpAny_mono h (λo s₁ h₁=>wpAny_mono h₁ (λi s₂ h₂=>?_) λ_ _ x=>x) λ_ _ x=>x)
 obtain⟨hT,h₂⟩:=h₂
 unfold subscriptTail
 refine wpAny_bind ?_
 rw[getitemInPython_of_ne hT.not_modules]
 refine wpAny_bind (wpAny_specialOf hT hl ?_)
 have fin:wpAny (model prog w) A (subscripted slice false o i) (λr s₃=>wpAny (model prog w) A (letTemporaryGo value o r>>=λ_=>pure r) Q E s₃) E s₂:=by
  rw[hs o i]
  exact wpAny_operating (wpAny_mono h₂ (λr s₃ h₃=>wpAny_bind (wpAny_letTemporaryGo (wpAny_pure h₃))) λ_ _ x=>x)
 first
  |exact wpAny_pure (wpAny_bind fin)
  |exact wpAny_bind (wpAny_pure (wpAny_bind fin))
  |exact wpAny_bind fin
def Us(td ty tv:TE):TS:=λD σ H=>tv σ H λv H1=>td σ H1 λx H2=>ty σ H2 λy H3=>∃a H4,x=.ref a/\DPut H3 a y v H4/\D.nx σ H4
variable{value:Expr}{pos' tpos:Pos}{td ty:TE}
section
variable{o i:Expr}{tv:TE}
theorem LQ(hu:X.A.units+1<cLine)(ho:PE X o td)(hi:PE X i ty)(hv:PE X value tv)(hs:swapsWith value (some (.Subscript o i pos')) pos.line X.env=pure false):
  PS X (.Assign [.Subscript o i pos'] value pos) (Us td ty tv):=by
 intro pins s σ H D I h
 refine wpAny_Assign_Subscript (thn (hv pins s σ H _ I h) λr s1 ⟨v,H1,I1,rv,q1⟩=>thn (ho pins s1 σ H1 _ I1 q1) λu s2 ⟨x,H2,I2,rx,q2⟩=>thn (hi pins s2 σ H2 _ I2 q2) λiv s3 ⟨y,H3,I3,ry,a,H4,ex,g,q3⟩=>?_) hs
 subst ex
 obtain rfl:u=Value.ref a:=rx
 exact Nl hu I3 g ry rv λs4 I4=>⟨σ,H4,I4,q3⟩
end
theorem O0(h:Heap)(hb:sysModules<h.objs.size):ObjOk P w H (h.push {cls:=.type "dict",data:=.dict #[]}) h.objs.size (.dK []):=
 ⟨zero_le _,beq_eq_false_iff_ne.mpr (symm (ne_of_lt hb)),[],.nil,Heap.DictOf.new h⟩
theorem P7(h:Heap)(hb:sysModules<h.objs.size):ObjOk P w H (h.push {cls:=.type "dict",data:=.dict #[]}) h.objs.size (.dT []):=
 ⟨zero_le _,beq_eq_false_iff_ne.mpr (symm (ne_of_lt hb)),[],.nil,_,#[],0,get?_push_size _ rfl,⟨rfl,rfl,rfl⟩,rfl,rfl,nodup_nil⟩
def SU:TE:=λ_ H Q=>∀p,H p=none->Q (.ref p) (upd H p (.dK []))
def Tq:TE:=λ_ H Q=>∀p,H p=none->Q (.ref p) (upd H p (.dT []))
theorem GP:PE X (.Dict [] [] pos) SU:=λpins s σ H Q I h=>
 wpAny_Dict_empty ⟨.ref s.heap.objs.size,_,I.laid (a:=s.heap.objs.size) (o:=.dK []) (t':=s.toks) (λ_ _ q=>get?_push_of_some _ q) (le_refl _) (O0 s.heap I.big),rfl,h _ (I.hok.fresh (le_refl _))⟩
theorem pe_dnewT:PE X (.Dict [] [] pos) Tq:=λpins s σ H Q I h=>
 wpAny_Dict_empty ⟨.ref s.heap.objs.size,_,I.laid (a:=s.heap.objs.size) (o:=.dT []) (t':=s.toks) (λ_ _ q=>get?_push_of_some _ q) (le_refl _) (P7 s.heap I.big),rfl,h _ (I.hok.fresh (le_refl _))⟩
structure M1(X:Cx)(o:Expr)(m:Str)(apos:Pos)(e:Expr)(cpos:Pos):Prop where
 base:attributeBase o m X.env (eval o X.env)=eval o X.env
 few:((backTo cpos (starEach [e] X.env)).all (λx=>!x.1)&&(backToKw cpos (keywordEach [] X.env)).all (λx=>x.1.isSome)
  &&decide (([e]:List Expr).length+([]:List Keyword).length+(if([]:List Keyword).isEmpty then 0 else 1)<30))=true
 line:(apos.endLine==cpos.line)=true
 trees:backTo cpos (starEach [e] X.env)=[(false,eval e X.env)]
structure M2(X:Cx)(o:Expr)(m:Str)(apos:Pos)(e f:Expr)(cpos:Pos):Prop where
 base:attributeBase o m X.env (eval o X.env)=eval o X.env
 few:((backTo cpos (starEach [e,f] X.env)).all (λx=>!x.1)&&(backToKw cpos (keywordEach [] X.env)).all (λx=>x.1.isSome)
  &&decide (([e,f]:List Expr).length+([]:List Keyword).length+(if([]:List Keyword).isEmpty then 0 else 1)<30))=true
 line:(apos.endLine==cpos.line)=true
 trees:backTo cpos (starEach [e,f] X.env)=[(false,eval e X.env),(false,eval f X.env)]
def IsD(H:Hp)(a:Addr):Prop:=(∃kvs,Rd H a (.dK kvs))\/∃kvs,Rd H a (.dT kvs)
theorem K7(I:Inv X pins σ H s)(d:IsD H a):
  s.TypeIs (.ref a) "dict"/\(∀b,Value.ref a=.ref b->∃ob,s.heap.get? b=some ob/\ob.dict=none)/\(a==sysModules)=false:=by
 rcases d with⟨kvs,e⟩|⟨kvs,e⟩
 .obtain⟨_,hd,vs,_,dd⟩:=JT I.hok e
  refine⟨dd.typeIs,λb q=>?_,hd⟩
  cases q
  obtain⟨ob,_,_,h1,h2,_⟩:=dd
  exact⟨ob,h1,h2.2.1⟩
 .obtain⟨_,hd,xs,_,dd⟩:=Qf I.hok e
  refine⟨dd.typeIs,λb q=>?_,hd⟩
  cases q
  obtain⟨ob,_,_,h1,h2,_⟩:=dd
  exact⟨ob,h1,h2.2.1⟩
section
variable{d:V}{r:Value}
theorem SM(hu:A.units+1<cLine)(I:Inv X pins σ H s)(g:DGet H a y o)(ry:RelV y u)(rd:RelV d r)(h:∀w' s',Inv X pins σ H s'->RelV (o.getD d) w'->Q w' s'):
  wpAny (model X.prog X.w) A (call (.builtin "dict.get") [.ref a,u,r]) Q E s:=by
 rcases g with⟨kvs,k,e,ey,l⟩|⟨kvs,k,b,e,ey,eb,l⟩
 .subst ey
  obtain⟨z,hd,vs,rel,dd⟩:=JT I.hok e
  refine call_meetsIn slot_dict_get dd.typeIs entry_dict_get (PySem.F.args_dict_get_3 _ _ _) (meets_dict_get_default (AC X.prog X.w) a (Ji ry) hd r) ⟨_,dd.mapOf,h _ _ (I.tok _) ?_⟩
  rw[l]
  exact(rel.val k).getD rd
 .subst ey
  cases(show u=Value.ref b from ry)
  obtain⟨z,hd,xs,rel,dd⟩:=Qf I.hok e
  refine call_meetsIn slot_dict_get dd.typeIs entry_dict_get (PySem.F.args_dict_get_3 _ _ _) (meetsH_dict_get_default (tupleKind (AC X.prog X.w)) a b hd r) ⟨tupleKind_room_in1 hu,k,xs,KU I.hok eb,dd,h _ _ (I.tok _) ?_⟩
  rw[l]
  exact(rel.val k).getD rd
end
def TH(td ty tx:TE):TE:=λσ H Q=>td σ H λx H1=>∃a,x=.ref a/\IsD H1 a/\ty σ H1 λy H2=>tx σ H2 λz H3=>∃o,DGet H3 a y o/\Q (o.getD z) H3
variable{apos:Pos}
section
variable{o f:Expr}{cpos:Pos}{tx:TE}
theorem DL(hu:X.A.units+1<cLine)(ho:PE X o td)(he:PE X e ty)(hf:PE X f tx)(m:M2 X o "get" apos e f cpos):PE X (.Call (.Attribute o "get" apos) [e,f] [] cpos) (TH td ty tx):=by
 intro pins s σ H Q I h
 refine wpAny_Call_method m.base m.few m.line PySem.F.plainAttrs_dict slot_dict_get PySem.F.type_dict_get (thn (ho pins s σ H _ I h) λu s1 ⟨x,H1,I1,rx,a,ex,d,q1⟩=>?_)
 subst ex
 obtain rfl:u=Value.ref a:=rx
 obtain⟨t1,t2,_⟩:=K7 I1 d
 refine⟨t1,t2,?_⟩
 rw[m.trees]
 refine Calls.callWith_builtin rfl (Calls.evalArgs_plain (Calls.spliced_cons (thn (he pins s1 σ H1 _ I1 q1) λiv s2 ⟨y,H2,I2,ry,q2⟩=>
  Calls.spliced_cons (thn (hf pins s2 σ H2 _ I2 q2) λfv s3 ⟨z,H3,I3,rz,ov,g,q3⟩=>Calls.spliced_nil ?_))))
 exact SM hu I3 g ry rz λw' s4 I4 rw'=>⟨_,H3,I4,rw',q3⟩
end
section
variable{kvs:List (Key×V)}
end
def rDA(K:Frag)(ds:List PyData)(d:PyData):List V->Hp->VK->Prop:=λxs H Q=>DVs K H xs ds/\∀v H',Same H H'->DV K H' v d->Q v H'
abbrev CD(X:Cx)(f:Value)(ds:List PyData)(d:PyData):Prop:=CallR X f (rDA X.K ds d)
variable{p2:Pos}{ds:List PyData}{x:Str}{id T:String}
section
variable{a b:Expr}{rest:List Expr}{p:Pos}
theorem PH(hc:CD X (.builtin id) ds d)(hg:Gl X x)(hm:X.mg x=none)(hv:bootBuiltins x=some (.builtin id))(ha:AV X G (e::es) ds)(hn:x≠"__name__":=by decide)(hdb:(x==("__debug__":Str))=false:=by decide)
  (he:Zst X e es:=by rfl)(hpl:(backTo pos (starEach es X.env)).any (·.1)=false:=by rfl):EV X G (.Call (.Name x p) (e::es) [] pos) d:=
 (JE hc hg hm hv ha hn hdb he hpl).imp λσ H Q ⟨h,q⟩=>⟨h,λvs H1 s1 d1=>⟨d1,λv H2 s2 d2=>q v H2 (s1.trans s2) d2⟩⟩
theorem NJ(hc:CD X (.type T) ds d)(hg:Gl X x)(hm:X.mg x=none)(hv:bootBuiltins x=some (.type T))(ha:AV X G (e::es) ds)(hn:x≠"__name__":=by decide)(hdb:(x==("__debug__":Str))=false:=by decide)
  (he:Zst X e es:=by rfl)(hpl:(backTo pos (starEach es X.env)).any (·.1)=false:=by rfl):EV X G (.Call (.Name x p) (e::es) [] pos) d:=
 (HP hc hg hm hv ha hn hdb he hpl).imp λσ H Q ⟨h,q⟩=>⟨h,λvs H1 s1 d1=>⟨d1,λv H2 s2 d2=>q v H2 (s1.trans s2) d2⟩⟩
theorem DVs.one{vs:List V}(h:DVs K H vs [d]):∃v,vs=[v]/\DV K H v d:=by
 cases h with
 |cons h t=>cases t;exact⟨_,rfl,h⟩
theorem DVs.two{vs:List V}(h:DVs K H vs [da,db]):∃v w,vs=[v,w]/\DV K H v da/\DV K H w db:=by
 cases h with
 |cons h t=>
  obtain⟨w,rfl,h2⟩:=t.one
  exact⟨_,w,rfl,h,h2⟩
theorem Bt:CD X (.builtin "len") [.list ds] (.int ds.length):=call_len_seq.imp λxs H Q ⟨h,q⟩=>by
 obtain⟨v,rfl,dv⟩:=h.one
 obtain⟨l,us,rfl,hl,d1⟩:=dv.of_lst
 exact⟨l,us,rfl,.inl hl,q _ H (Same.refl H) (by rw[d1.length];exact .int _)⟩
theorem QQ:CD X (.builtin "len") [.tuple ds] (.int ds.length):=call_len_seq.imp λxs H Q ⟨h,q⟩=>by
 obtain⟨v,rfl,dv⟩:=h.one
 obtain⟨l,us,rfl,hl,d1⟩:=dv.of_tup
 exact⟨l,us,rfl,.inr hl,q _ H (Same.refl H) (by rw[d1.length];exact .int _)⟩
theorem Mj{z:Str}(hz:z.length<=sizeLine):CD X (.builtin "len") [.str z] (.int z.length):=call_len_str.imp λxs H Q ⟨h,q⟩=>by
 obtain⟨v,rfl,dv⟩:=h.one
 exact⟨z,by rw[dv.of_str],hz,q _ H (Same.refl H) (.int _)⟩
theorem HJ:CD X (.type "tuple") [.list ds] (.tuple ds):=call_tuple_of.imp λxs H Q ⟨h,q⟩=>by
 obtain⟨v,rfl,dv⟩:=h.one
 obtain⟨l,us,rfl,hl,d1⟩:=dv.of_lst
 exact⟨l,us,rfl,.inl ⟨hl,λp hp=>q _ _ (Same.new hp) (.tup (SqT.of Ah) (d1.mono (Same.new hp)))⟩⟩
theorem Pw:CD X (.type "list") [.list ds] (.list ds):=call_list_of.imp λxs H Q ⟨h,q⟩=>by
 obtain⟨v,rfl,dv⟩:=h.one
 obtain⟨l,us,rfl,hl,d1⟩:=dv.of_lst
 exact⟨l,us,rfl,.inl hl,λp hp=>q _ _ (Same.new hp) (.lst (SqL.of Ah) (d1.mono (Same.new hp)))⟩
theorem Pi:CD X (.type "list") [.tuple ds] (.list ds):=call_list_of.imp λxs H Q ⟨h,q⟩=>by
 obtain⟨v,rfl,dv⟩:=h.one
 obtain⟨l,us,rfl,hl,d1⟩:=dv.of_tup
 exact⟨l,us,rfl,.inr hl,λp hp=>q _ _ (Same.new hp) (.lst (SqL.of Ah) (d1.mono (Same.new hp)))⟩
theorem Ml{k:Bool}:CD X (.type "int") [.bool k] (.int (if k then 1 else 0)):=call_int1.imp λxs H Q ⟨h,q⟩=>by
 obtain⟨v,rfl,dv⟩:=h.one
 exact .inr ⟨k,by rw[dv.of_bl],q _ H (Same.refl H) (.int _)⟩
theorem Tk{i j:Int}(hc:X.calm=true):CD X (.builtin "max") [.int i,.int j] (.int (if j>i then j else i)):=(M_ hc).imp λxs H Q ⟨h,q⟩=>by
 obtain⟨v,w,rfl,dv,dw⟩:=h.two
 exact⟨i,j,by rw[dv.of_int,dw.of_int],q _ H (Same.refl H) (.int _)⟩
theorem Iz(bs:List Bool):(range bs.length).all (λi=>bs.getD i false)=bs.all (λz=>z):=by
 rw[Bool.eq_iff_iff,all_eq_true,all_eq_true]
 constructor
 .intro h x hx
  obtain⟨i,hi,e⟩:=List.mem_iff_getElem.mp hx
  have:=h i (mem_range.mpr hi)
  simp only[getD_eq_getElem?_getD,getElem?_eq_getElem hi,Option.getD_some]at this
  rw[<-e]
  exact this
 .intro h i hi
  have hi:=mem_range.mp hi
  simp only[getD_eq_getElem?_getD,getElem?_eq_getElem hi,Option.getD_some]
  exact h _ (getElem_mem hi)
theorem K3(hc:X.calm=true){bs:List Bool}:CD X (.builtin "all") [.list (bs.map PyData.bool)] (.bool (bs.all λz=>z)):=by
 intro pins s σ H xs us Q I rs ⟨h,q⟩
 obtain⟨v,rfl,dv⟩:=h.one
 obtain⟨l,vs,rfl,hl,d1⟩:=dv.of_lst
 obtain⟨u,rfl,ru⟩:=vals1 rs
 cases ru
 have e1:=d1.of_bools
 subst e1
 obtain⟨its,r,pl,hz⟩:=I.list hl
 have hlt:l<s.heap.objs.size:=by
  obtain⟨o,ho,_⟩:=pl.isList
  exact lt_size ho
 have hh:X.A.in1.handled=none:=I.ok.hd hc
 have hlen:its.toArray.size=bs.length:=by rw[size_toArray,<-r.length,length_map]
 refine call_all_walk (wpAny_pyIter_list pl.isList ⟨s.heap.objs.size,_,_,its.toArray.size,_,_,λi=>bs.getD i false,rfl,Walks.list hh s.heap.objs.size l (ne_of_lt hlt) its.toArray,
  ⟨⟨_,get?_push_size _ rfl,rfl,rfl⟩,let⟨o,e,r⟩:=pl.isList;⟨o,get?_push_of_some _ e,r⟩⟩,λi v s2 Q2 E2 hP hQ=>?_,λh' tk hk=>?_⟩)
 .have hP:its.toArray[i]?=some v:=hP
  have hP:its[i]?=some v:=by simpa using hP
  have hi:i<bs.length:=by
   have:=(List.getElem?_eq_some_iff.mp hP).1
   rw[<-r.length,length_map]at this
   exact this
  have hb:(bs.map V.bl)[i]?=some (V.bl bs[i]):=by simp[hi]
  obtain⟨u,e2,r2⟩:=r.get hb
  rw[hP]at e2
  cases e2
  cases r2
  refine wpAny_truthy_bool ?_
  have:bs.getD i false=bs[i]:=by simp[getD_eq_getElem?_getD,hi]
  exact this▸hQ
 .rw[hlen,Iz]
  have I1:Inv X pins σ H {s with heap:=h',toks:=tk}:=I.kept λb o e=>hk b o (by
   intro z
   have z:b=s.heap.objs.size:=by simpa using z
   exact absurd (lt_size e) (by rw[z];exact lt_irrefl _)) (get?_push_of_some _ e)
  exact⟨.bl _,H,I1,rfl,q _ H (Same.refl H) (.bl _)⟩
theorem Pf(hc:X.calm=true){ns:List Int}:CD X (.builtin "sum") [.list (ns.map int)] (.int ns.sum):=by
 intro pins s σ H xs us Q I rs ⟨h,q⟩
 obtain⟨v,rfl,dv⟩:=h.one
 obtain⟨l,vs,rfl,hl,d1⟩:=dv.of_lst
 obtain⟨u,rfl,ru⟩:=vals1 rs
 cases ru
 have e1:=d1.of_ints
 subst e1
 obtain⟨its,r,pl,hz⟩:=I.list hl
 have hi:IntsAre its ns:=intsAre_of r
 obtain⟨ys,ey⟩:=(hi.allInts:AllInts its.toArray).items
 have hh:X.A.handled=none:=I.ok.hd hc
 have hl':s.heap.IsList l (intItems ys):=ey▸pl.isList
 refine sum_intListG hh hl' λh' tk t' hk=>?_
 have I1:Inv X pins σ H {s with heap:=h',toks:=tk}:=I.kept hk
 have en:ns=numsOf its:=hi.numsOf.symm
 have es:preSum (numAt ys) ys.size=ns.sum:=by
  rw[preSum_eq,take_of_length_le (by simp),en,<-nums_intItems ys]
  congr 2
  have:=congrArg toList ey
  simpa using this.symm
 rw[es]
 exact⟨.int _,H,I1,⟨_,rfl⟩,q _ H (Same.refl H) (.int _)⟩
def tyD:PyData->Value
 | .none=>.type "NoneType"
 | .bool _=>.type "bool"
 | .int _=>.type "int"
 | .str _=>.type "str"
 | .list _=>.type "list"
 | .tuple _=>.type "tuple"
 | .dict es=>match excC es with
   |some C=>.ref C
   |none=>.type "dict"
def IF(K:Frag)(C:Addr):Prop:=∀(a:Addr) (φ:Heap->Prop),(∀h,φ h->∃o,h.get? a=some o/\o.cls=.ref C)->KitX K (.ref a) (.ref C) φ
theorem Qw{c:Value}{k:Bool}(I:Inv X pins σ H s)(h:DV X.K H v d)(rv:RelV v u)
  (e:kitOne X.K (tyD d) c=some k)(hq:∀tk,Q (.bool k) {s with toks:=tk})(hX:∀C,d=excD C->IF X.K C:=by intro _ z;cases z)(hX2:∀C n,d=Sg C n->IF X.K C:=by intro _ _ z;first|cases z|(unfold excD at z;cases z))(hO:Qi d=false:=by first|rfl|assumption):wpAny (model X.prog X.w) A (call (.builtin "isinstance") [u,c]) Q E s:=by
 cases h with
 |non=>exact DX I rv .non e hq
 |bl b=>exact DX I rv (.bl b) e hq
 |int i=>exact DX I rv (.int i) e hq
 |str x=>exact DX I rv (.str x) e hq
 | @tup a xs ds h t=>
   cases rv
   obtain⟨its,_,⟨o,h1,h2,_⟩,_⟩:=I.tuple h
   exact kia_one kitx_tuple I.kIn ⟨o,h1,h2⟩ e (λz=>nomatch z) hq
 | @lst a xs ds h t=>
   cases rv
   obtain⟨its,_,pl,_⟩:=I.list h
   obtain⟨o,h1,h2,_⟩:=pl.isList
   exact kia_one kitx_list I.kIn ⟨o,h1,h2⟩ e (λz=>nomatch z) hq
 | @dct a kvs es h t=>
   cases rv
   have e':kitOne X.K (.type "dict") c=some k:=by
    have z:tyD (.dict es)=(match excC es with|some C=>Value.ref C|none=>.type "dict"):=rfl
    rw[z,GC t]at e
    exact e
   exact kia_one kitx_dict I.kIn (K7 I (.inl ⟨kvs,.inl h⟩)).1 e' (λz=>nomatch z) hq
 | @exc a C h=>
   cases rv
   have e':kitOne X.K (.ref C) c=some k:=e
   exact kia_one (hX C rfl a _ λh p=>let⟨o,_,h1,h2,_⟩:=p;⟨o,h1,h2⟩) I.kIn (I.hok a _ h).1 e' (λz=>nomatch z) hq
 | @exr a C dx n h h'=>
   cases rv
   have e':kitOne X.K (.ref C) c=some k:=e
   exact kia_one (hX2 C n rfl a _ λh p=>let⟨o,_,h1,h2,_⟩:=p;⟨o,h1,h2⟩) I.kIn (I.hok a _ h).1 e' (λz=>nomatch z) hq
 |obj h n t=>cases hO
 |dtt h=>unfold ppE Qi at hO;cases hO
theorem Hm{k:Bool}{n:String}{x1:Str}(ha:EV X G a da)(hg:Gl X "isinstance")(hm:X.mg "isinstance"=none)(hg1:Gl X x1)(hm1:X.mg x1=none)(hv1:bootBuiltins x1=some (.type n))(e:kitOne X.K (tyD da) (.type n)=some k)
  (hX:∀C,da=excD C->IF X.K C:=by intro _ z;cases z)(hX2:∀C n,da=Sg C n->IF X.K C:=by intro _ _ z;first|cases z|(unfold excD at z;cases z))(hO:Qi da=false:=by first|rfl|assumption)(hn:x1≠"__name__":=by decide)(hd1:(x1==("__debug__":Str))=false:=by decide)(hv:bootBuiltins "isinstance"=some (.builtin "isinstance"):=by decide+kernel)
  (he:starEach [a,.Name x1 p2] X.env=(false,eval a X.env)::starEach [.Name x1 p2] X.env:=by rfl)(he2:starEach [.Name x1 p2] X.env=(false,eval (.Name x1 p2) X.env)::starEach [] X.env:=by rfl)
  (hpl:(backTo pos (starEach [.Name x1 p2] X.env)).any (·.1)=false:=by rfl):
  EV X G (.Call (.Name "isinstance" p) [a,.Name x1 p2] [] pos) (.bool k):=by
 have cr:CallR X (.builtin "isinstance") (λxs H Q=>∃v,xs=[v,.ty n]/\DV X.K H v da/\Q (.bl k) H):=by
  intro pins s σ H xs us Q I rs ⟨v,ex,dv,q⟩
  subst ex
  obtain⟨u,w,rfl,ru,rw'⟩:=vals2 rs
  cases rw'
  exact Qw I dv ru e (λtk=>⟨.bl k,H,I.tok tk,rfl,q⟩) hX hX2 hO
 refine(JE cr hg hm hv (Cq ha (Cq (Ra (v:=.ty n) hg1 hm1 hv1 rfl hn hd1) pa_nil he2) he) (by decide) (by decide) he hpl).imp λσ H Q ⟨h,q⟩=>⟨h,λv H1 s1 d1=>⟨v,rfl,d1,q _ H1 s1 (.bl k)⟩⟩
def spD(K:Frag)(F:List PyData->PyData->Prop):Sp:=λvs H Q _=>∃ds d,DVs K H vs ds/\F ds d/\∀v H',Same H H'->DV K H' v d->Q v H'
def DFn(P:Program)(w:World)(K:Frag)(mg:Str->Option Value)(base:Heap)(k:Nat)(x:Str)(F:List PyData->PyData->Prop):Prop:=
 ∃f fd ps,FnOk P w K mg base CX0 k f fd ps (spD K F)/\mg x=some (.ref f)/\keepIn K (.ref f)=true/\Binds K fd ps []
theorem Aq{k:Nat}{F:List PyData->PyData->Prop}(D:DFn X.prog X.w X.K X.mg X.base k x F)(hr:Room k X.A)(hg:Gl X x)(ha:AV X G (e::es) ds)(hF:F ds d)(hdb:(x==("__debug__":Str))=false:=by decide)
  (he:Zst X e es:=by rfl)(hpl:(backTo pos (starEach es X.env)).any (·.1)=false:=by rfl):EV X G (.Call (.Name x p) (e::es) [] pos) d:=by
 obtain⟨f,fd,ps,ok,hm,hk,hb⟩:=D
 refine(Jb ok hr hg hm hk hb .nil Ci ha hdb he hpl).imp λσ H Q ⟨h,q⟩=>⟨h,λvs H1 s1 d1=>?_⟩
 show spD X.K F (vs++[]) H1 Q E0
 rw[append_nil]
 exact⟨ds,d,d1,hF,λv H2 s2 d2=>q v H2 (s1.trans s2) d2⟩
theorem Oa{i:Int}{t:Tok}(hg:Gl X x)(hm:X.mg x=some (.int i t))(hd:(x==("__debug__":Str))=false:=by decide):EV X G (.Name x pos) (.int i):=
 (FY (v:=.int i) hg hm ⟨t,rfl⟩ hd).imp λσ H Q ⟨h,q⟩=>q _ H (Same.refl H) (.int i)
theorem At:SVs X G [] (.next G):=pss_nil.imp λD σ H ⟨h,q⟩=>q σ H (Same.refl H) h
theorem Ai{st:Stmt}{sts:List Stmt}{G1:Gam}{o:Out}(h1:SV X G st (.next G1))(h2:SVs X G1 sts o):SVs X G (st::sts) o:=
 (As h1 h2).imp λD σ H ⟨h,q⟩=>⟨h,λσ' H' s' h'=>⟨h',by
  cases o with
  |next G2=>exact λσ2 H2 s2 h2=>q σ2 H2 (s'.trans s2) h2
  |ret d=>exact λv H2 s2 h2=>q v H2 (s'.trans s2) h2⟩⟩
theorem Af{st:Stmt}{sts:List Stmt}(h1:SV X G st (.ret d)):SVs X G (st::sts) (.ret d):=by
 intro pins s σ H D I ⟨h,q⟩
 have z:PSs X (st::sts) (λD σ H=>tDS X.K G (.ret d) D σ H):=by
  refine(As (t:=λD σ H=>tDS X.K G (.ret d) D σ H) (u:=Q5) h1 A2).imp λD σ H ⟨h,q⟩=>⟨h,q⟩
 exact z pins s σ H D I ⟨h,q⟩
theorem Ap(h:EV X G e d):SV X G (.Return (some e) pos) (.ret d):=(Ek h).imp λD σ H ⟨h,q⟩=>⟨h,q⟩
theorem AE{i:Nat}(hN:X.N.Nodup)(hi:X.N[i]?=some x)(hx:Loc X.env.scope x)(h:EV X G e d)(hs:swapsWith e (some (.Name x p)) pos.line X.env=pure false:=by rfl)
  (hf:Zlo X x:=by first|exact .inl rfl|exact .inr rfl|assumption):SV X G (.Assign [.Name x p] e pos) (.next (G.set i (some d))):=
 (Bn hN hi hx h hs hf).imp λD σ H ⟨h,q⟩=>⟨h,λv H1 s1 d1=>q _ H1 s1 ((h.mono s1).set d1)⟩
theorem Av{k:Bool}{A B:List Stmt}{o:Out}(hc:TV X G c k)(h1:k=true->SVs X G A o)(h2:k=false->SVs X G B o):SV X G (.If c A B pos) o:=by
 have hA:PSs X A (λD σ H=>k=true/\tDS X.K G o D σ H):=λpins s σ H D I ⟨e,q⟩=>h1 e pins s σ H D I q
 have hB:PSs X B (λD σ H=>k=false/\tDS X.K G o D σ H):=λpins s σ H D I ⟨e,q⟩=>h2 e pins s σ H D I q
 refine(BG hc hA hB).imp λD σ H ⟨h,q⟩=>⟨h,λH1 s1=>?_⟩
 have fin:tDS X.K G o D σ H1:=⟨h.mono s1,by
  cases o with
  |next G2=>exact λσ2 H2 s2 h2=>q σ2 H2 (s1.trans s2) h2
  |ret d=>exact λv H2 s2 h2=>q v H2 (s1.trans s2) h2⟩
 cases k with
 |true=>exact iteT ⟨rfl,fin⟩
 |false=>exact iteF ⟨rfl,fin⟩
theorem KR{sts:List Stmt}{G1 G2:Gam}(h:SVs X G sts (.next G1))(hl:G2.length=G1.length)(hw:∀(i:Nat) d,G2[i]?=some (some d)->G1[i]?=some (some d)):SVs X G sts (.next G2):=
 h.imp λD σ H ⟨h,q⟩=>⟨h,λσ' H' s' h'=>q σ' H' s' (h'.forget hl hw)⟩
theorem Ot{sts:List Stmt}{G1:Gam}{o:Out}(h:SVs X G sts o)(hl:G.length=G1.length)(hw:∀(i:Nat) d,G[i]?=some (some d)->G1[i]?=some (some d)):SVs X G1 sts o:=
 h.imp λD σ H ⟨h,q⟩=>⟨h.forget hl hw,q⟩
structure ItD(K:Frag)(J:It)(ds:List PyData)(H0:Hp):Prop where
 go:∀i H,Same H0 H->i<ds.length->J.go i H
 yld:∀i H v H',Same H0 H->i<ds.length->J.yld i H v H'->Same H H'/\∃d,ds[i]?=some d/\DV K H' v d
 stop:∀i H,Same H0 H->ds.length<=i->J.stop i H
def tDI(K:Frag)(G:Gam)(ds:List PyData):TI:=λσ H R=>SD K H σ G/\∀J H',Same H H'->ItD K J ds H'->R J H'
abbrev IV(X:Cx)(G:Gam)(tg iter:Expr)(ds:List PyData):Prop:=PI X tg iter (tDI X.K G ds)
theorem PI.imp{tg:Expr}{t t':TI}(h:PI X tg e t)(m:∀σ H R,t' σ H R->t σ H R):PI X tg e t':=λpins s σ H R I q=>h pins s σ H R I (m σ H R q)
theorem Iy{tg:Expr}(h:EV X G e (.list ds)):IV X G tg e ds:=(Gg h).imp λσ H R ⟨h,q⟩=>⟨h,λv H1 s1 d1=>by
 obtain⟨l,us,rfl,hl,d2⟩:=d1.of_lst
 refine⟨l,rfl,⟨us,hl⟩,q _ H1 s1 ⟨λi H2 s2 hi=>?_,λi H2 v H3 s2 _ ⟨e,y⟩=>?_,λi H2 s2 hi=>⟨us,s2.seq hl,by rw[d2.length];exact hi⟩⟩⟩
 .obtain⟨v,e,_⟩:=d2.get (i:=i) (d:=ds[i]) (by simp[hi])
  exact⟨us,v,s2.seq hl,e⟩
 .subst e
  obtain⟨d,e1,e2⟩:=d2.get' (y us (s2.seq hl))
  exact⟨Same.refl _,d,e1,e2.mono s2⟩⟩
end
def outG(ix:List Nat)(G:Gam):Gam:=ix.map λi=>(G[i]?).getD none
theorem SD.comp(h:SD K H σ G)(k:Nat)(ix:List Nat):SD K H (List.replicate k none++outS ix σ) (List.replicate k none++outG ix G):=by
 refine⟨by simp[outS,outG],λi d e=>?_⟩
 rcases Nat.lt_or_ge i k with hi|hi
 .rw[List.getElem?_append_left (by simpa using hi),List.getElem?_replicate,if_pos hi]at e
  cases e
 .rw[List.getElem?_append_right (by simpa using hi),List.length_replicate]at e ⊢
  unfold outG at e
  unfold outS
  rw[List.getElem?_map]at e ⊢
  cases q:ix[i-k]? with
  |none=>rw[q]at e;cases e
  |some j=>
   rw[q]at e
   have e:(G[j]?).getD none=some d:=Option.some.inj e
   have e':G[j]?=some (some d):=by
    cases z:G[j]? with
    |none=>rw[z]at e;cases e
    |some w=>rw[z]at e;have e:w=some d:=e;rw[e]
   obtain⟨v,a,b⟩:=h.2 j d e'
   exact⟨v,by rw[Option.map_some,a];rfl,b⟩
theorem PE.ex{ι:Type}{t:ι->TE}{p:ι->Prop}(h:∀i,p i->PE X e (t i)):PE X e (λσ H Q=>∃i,p i/\t i σ H Q):=λpins s σ H Q I ⟨i,hi,q⟩=>h i hi pins s σ H Q I q
theorem PF.ex{ι:Type}{t:ι->TT}{p:ι->Prop}(h:∀i,p i->PF X es (t i)):PF X es (λσ H Q=>∃i,p i/\t i σ H Q):=λpins s σ H Q I ⟨i,hi,q⟩=>h i hi pins s σ H Q I q
theorem Kn:PF X [] (tDT X.K G true):=λpins s σ H Q I ⟨h,q⟩=>SF pins s σ H Q I (q H (Same.refl H))
structure BindD(K:Frag)(k:Nat)(g:TG)(B:PyData->Gam->Gam)(d:PyData):Prop where
 to:∀(v:V) σ H G (Q:St->Hp->Prop),SD K H σ G->DV K H v d->(∀σ2,SD K H σ2 (B d G)->Q σ2 H)->g v σ H Q
def bind1(d:PyData)(G:Gam):Gam:=G.set 0 (some d)
def PL(d:PyData)(G:Gam):Gam:=match d with
 | .tuple [a,b]=>(G.set 0 (some a)).set 1 (some b)
 |_=>G
theorem K4(d:PyData):BindD K 1 (BI 0) bind1 d:=⟨λv σ H G Q h dv q=>q _ (h.set dv)⟩
theorem Ou(a b:PyData):BindD K 2 (gTup K 2 (JK (BI 0) (JK (BI 1) gNil))) PL (.tuple [a,b]):=⟨λv σ H G Q h dv q=>by
 obtain⟨l,us,rfl,hl,d1⟩:=dv.of_tup
 obtain⟨x,y,rfl,dx,dy⟩:=d1.two
 exact⟨l,[x,y],rfl,hl,rfl,x,[y],rfl,y,[],rfl,rfl,q _ ((h.set dx).set dy)⟩⟩
theorem L7{α:Type}{as:List α}{D:α->PyData}{k:Nat}{B:PyData->Gam->Gam}{J:It}{H1:Hp}{Q:List V->Hp->Prop}(K:Frag)(Pd:α->Bool)(F:α->PyData)(hz:as.length<=sizeLine)(og:OwnG k g)
  (hb:∀a∈as,BindD K k g B (D a))(hσ:SD K H1 σ G)(hJ:ItD K J (as.map D) H1)(q:∀ys H',Same H1 H'->DVs K H' ys ((as.filter Pd).map F)->Q ys H'):
  LM k ix g (λσ H Q=>∃a,a∈as/\tDT K (B (D a) (replicate k none++outG ix G)) (Pd a) σ H Q) (λσ H Q=>∃a,(a∈as/\Pd a=true)/\tD K (B (D a) (replicate k none++outG ix G)) (F a) σ H Q) σ J H1 Q:=by
 refine⟨λi m ys H=>i<=as.length/\m=as.length-i/\Same H1 H/\DVs K H ys (((as.take i).filter Pd).map F),⟨_,zero_le _,rfl,Same.refl _,.nil⟩,?_⟩
 rintro i m ys H ⟨hi,rfl,sm,dy⟩
 have hyl:ys.length<=as.length:=by
  rw[dy.length,length_map]
  refine le_trans (List.length_filter_le _ _) ?_
  rw[length_take]
  omega
 refine⟨le_trans hyl hz,?_⟩
 by_cases hlt:i<as.length
 .refine .inr ⟨hJ.go i H sm (by rw[length_map];exact hlt),λv H' y=>?_⟩
  obtain⟨s2,d,ed,dv⟩:=hJ.yld i H v H' sm (by rw[length_map];exact hlt) y
  have ea:as[i]?=some as[i]:=getElem?_eq_getElem hlt
  have ed':d=D as[i]:=by
   rw[getElem?_map,ea]at ed
   exact(Option.some.inj ed).symm
  subst ed'
  have hd:as[i]∈as:=getElem_mem hlt
  have tk:(as.take (i+1)).filter Pd=(as.take i).filter Pd++(if Pd as[i]then[as[i]]else[]):=take_succ_filter Pd as i as[i] ea
  refine(hb _ hd).to v _ H' _ _ (((hσ.mono sm).mono s2).comp k ix) dv λσ2 h2=>⟨as[i],hd,h2,λH3 s3=>?_⟩
  cases hp:Pd as[i]with
  |true=>
   refine iteT ⟨as[i],⟨hd,hp⟩,h2.mono s3,λw H4 s4 dw=>⟨as.length- (i+1),by omega,hlt,rfl,((sm.trans s2).trans s3).trans s4,?_⟩⟩
   rw[tk,hp,if_pos rfl,map_append]
   exact(((dy.mono s2).mono s3).mono s4).append (.cons dw .nil)
  |false=>
   refine iteF ⟨as.length- (i+1),by omega,hlt,rfl,(sm.trans s2).trans s3,?_⟩
   rw[tk,hp,if_neg Bool.false_ne_true,append_nil]
   exact(dy.mono s2).mono s3
 .have e:i=as.length:=by omega
  subst e
  rw[List.take_length]at dy
  exact .inl ⟨hJ.stop _ H sm (by rw[length_map];exact le_refl _),q ys H sm dy⟩
theorem IP{α:Type}{as:List α}{D:α->PyData}{k:Nat}{B:PyData->Gam->Gam}(Pd:α->Bool)(F:α->PyData)(hcalm:X.calm=true)(hc:CB X.env.scope X.N k ix N scope)(og:OwnG k g)(hi:IV X G target iter (as.map D))(hz:as.length<=sizeLine)
  (hb:∀a∈as,BindD X.K k g B (D a))(hg:∀cl C s H fp,PG (A8 X scope cl C N s H fp) target g)
  (ht:∀a∈as,∀cl C s H fp,PF (A8 X scope cl C N s H fp) ifs (tDT X.K (B (D a) (replicate k none++outG ix G)) (Pd a)))
  (he:∀a∈as,Pd a=true->∀cl C s H fp,EV (A8 X scope cl C N s H fp) (B (D a) (replicate k none++outG ix G)) elt (F a))
  (hs:∀x,foldedSetIterable iter X.env x=pure x:=by intro _;rfl):EV X G (.ListComp elt [⟨target,iter,ifs,0⟩] scope pos) (.list ((as.filter Pd).map F)):=by
 refine(Rk hcalm hc og hi (λcl C s H fp=>⟨hg cl C s H fp,PF.ex (t:=λa=>tDT X.K (B (D a) (replicate k none++outG ix G)) (Pd a)) (p:=λa=>a∈as) λd hd=>ht d hd cl C s H fp,PE.ex (t:=λa=>tD X.K (B (D a) (replicate k none++outG ix G)) (F a)) (p:=λa=>a∈as/\Pd a=true) λd hd=>he d hd.1 hd.2 cl C s H fp⟩) hs).imp λσ H Q ⟨h,q⟩=>⟨h,λJ H1 s1 hJ=>?_⟩
 refine L7 X.K Pd F hz og hb (h.mono s1) hJ λys H2 s2 dy D hD=>?_
 exact q _ _ ((s1.trans s2).trans (Same.new hD)) (.lst (SqL.of Ah) (dy.mono (Same.new hD)))
theorem G7{α:Type}{as:List α}{D:α->PyData}{k i:Nat}{spos:Pos}{B:PyData->Gam->Gam}(Pd:α->Bool)(F:α->PyData)(hcalm:X.calm=true)(hN:X.N.Nodup)(hx0:X.N[i]?=some x)(hx:X.env.scope.names.lookup x=some .local)
  (hc:CB X.env.scope X.N k ix N scope)(og:OwnG k g)(hi:IV X G target iter (as.map D))(hz:as.length<=sizeLine)
  (hb:∀a∈as,BindD X.K k g B (D a))(hg:∀cl C s H fp,PG (A8 X scope cl C N s H fp) target g)
  (ht:∀a∈as,∀cl C s H fp,PF (A8 X scope cl C N s H fp) ifs (tDT X.K (B (D a) (replicate k none++outG ix G)) (Pd a)))
  (he:∀a∈as,Pd a=true->∀cl C s H fp,EV (A8 X scope cl C N s H fp) (B (D a) (replicate k none++outG ix G)) elt (F a))
  (hsw:swapsWith (.ListComp elt [⟨target,iter,ifs,0⟩] scope pos) (some (.Name x pos')) spos.line X.env=pure true:=by rfl)
  (hs:∀x,foldedSetIterable iter X.env x=pure x:=by intro _;rfl):SV X G (.Assign [.Name x pos'] (.ListComp elt [⟨target,iter,ifs,0⟩] scope pos) spos) (.next (G.set i (some (.list ((as.filter Pd).map F))))):=by
 refine(Kx hcalm hN hx0 hx hc og hi (λcl C s H fp=>⟨hg cl C s H fp,PF.ex (t:=λa=>tDT X.K (B (D a) (replicate k none++outG ix G)) (Pd a)) (p:=λa=>a∈as) λd hd=>ht d hd cl C s H fp,PE.ex (t:=λa=>tD X.K (B (D a) (replicate k none++outG ix G)) (F a)) (p:=λa=>a∈as/\Pd a=true) λd hd=>he d hd.1 hd.2 cl C s H fp⟩) hsw hs).imp λDn σ H ⟨h,q⟩=>⟨h,λJ H1 s1 hJ=>?_⟩
 refine L7 X.K Pd F hz og hb (h.mono s1) hJ λys H2 s2 dy D hD=>?_
 have s3:=(s1.trans s2).trans (Same.new (o:=.lst ys) hD)
 exact q _ _ s3 ((h.mono s3).set (.lst (SqL.of Ah) (dy.mono (Same.new hD))))
theorem SO{α:Type}{as:List α}{D:α->PyData}{tg:Expr}{body:List Stmt}{k:Nat}{B:PyData->Gam->Gam}(J:Nat->Gam)(hp:PassesOwn (model X.prog X.w) X.A X.env X.xe)(hcalm:X.calm=true)(hi:IV X (J 0) tg iter (as.map D))(hg:PG X tg g)(hb:∀a∈as,BindD X.K k g B (D a))
  (hs:∀(i:Nat) a,as[i]?=some a->SVs X (B (D a) (J i)) body (.next (J (i+1))))(hfs:∀x,foldedSetIterable iter X.env x=pure x:=by intro _;rfl):SV X (J 0) (.For tg iter body [] pos) (.next (J as.length)):=by
 have hbody:PSs X body (λDn σ H=>∃p:Nat×α,as[p.1]?=some p.2/\tDS X.K (B (D p.2) (J p.1)) (.next (J (p.1+1))) Dn σ H):=λpins s σ H Dn I ⟨p,hp,q⟩=>hs p.1 p.2 hp pins s σ H Dn I q
 refine(Ep hp hcalm hi hg hbody hfs).imp λDn σ H ⟨h,q⟩=>⟨h,λIt0 H1 s1 hJ=>?_⟩
 refine⟨λi m σ H=>i<=as.length/\m=as.length-i/\Same H1 H/\SD X.K H σ (J i),⟨_,zero_le _,rfl,Same.refl _,h.mono s1⟩,?_⟩
 rintro i m σ H ⟨hi,rfl,sm,hσ⟩
 by_cases hlt:i<as.length
 .refine .inr ⟨hJ.go i H sm (by rw[length_map];exact hlt),λσ' H'=>Same H1 H'/\SD X.K H' σ' (J (i+1)),λσ' H' ⟨a,b⟩=>⟨as.length- (i+1),by omega,hlt,rfl,a,b⟩,λv H' y=>?_⟩
  obtain⟨s2,d,ed,dv⟩:=hJ.yld i H v H' sm (by rw[length_map];exact hlt) y
  have ea:as[i]?=some as[i]:=getElem?_eq_getElem hlt
  have ed':d=D as[i]:=by
   rw[getElem?_map,ea]at ed
   exact(Option.some.inj ed).symm
  subst ed'
  refine(hb _ (getElem_mem hlt)).to v _ H' _ _ (hσ.mono s2) dv λσ2 h2=>⟨(i,as[i]),ea,h2,λσ3 H3 s3 h3=>⟨(sm.trans s2).trans s3,h3⟩⟩
 .have e:i=as.length:=by omega
  subst e
  exact .inl ⟨hJ.stop _ H sm (by rw[length_map];exact le_refl _),q σ H (s1.trans sm) hσ⟩
def PU(i:Nat)(d:PyData)(G:Gam):Gam:=G.set i (some d)
def AT(N:List Str)(ds:List PyData):Gam:=ds.map some++replicate (N.length-ds.length) none
theorem SD.start{K:PySem.W.Frag}{H:Hp}{N:List Str}{vs:List V}{ds:List PyData}(h:DVs K H vs ds):SD K H (start N vs) (AT N ds):=by
 refine⟨by simp[L2.start,AT,h.length],λi d e=>?_⟩
 unfold AT at e
 unfold L2.start
 rcases Nat.lt_or_ge i ds.length with hi|hi
 .rw[List.getElem?_append_left (by simpa using hi),List.getElem?_map]at e
  rw[List.getElem?_append_left (by simpa[h.length]using hi),List.getElem?_map]
  cases q:ds[i]? with
  |none=>rw[q]at e;cases e
  |some d'=>
   rw[q]at e
   have e:d'=d:=by
    have:=Option.some.inj e
    exact Option.some.inj this
   subst e
   obtain⟨v,a,b⟩:=h.get q
   exact⟨v,by rw[a];rfl,b⟩
 .rw[List.getElem?_append_right (by simpa using hi),List.getElem?_replicate]at e
  split at e<;>cases e
theorem Fun.data{qual:Str}{st:Stmt}{f:Addr}{fd:FuncData}{ps:List Str}{k:Nat}{F:List PyData->PyData->Prop}(F0:Fun K x qual st f fd)(hm:mg x=some (.ref f))(hb:Binds K fd ps [])(S:FnScope N ps (Ad st))(len:∀ds d,F ds d->ds.length=ps.length)
  (hbody:∀(cdv:Value) (A:Around) (outer:List Env) (s:Shared) (H:Hp) (E:XK) (ds:List PyData) (d:PyData),Room k (A.deeper (envOfC qual (Ad st) s.heap.objs.size f cdv))->F ds d->
   SVs (cxOf CX0 P w K mg base N qual (Ad st) f cdv A outer s H E).nox (AT N ds) (AB st) (.ret d)):DFn P w K mg base (k+1) x F:=by
 refine⟨f,fd,ps,F0.ok S (λvs H Q E ⟨ds,d,h1,h2,_⟩=>h1.length.trans (len ds d h2)) (λcdv A outer s H vs Q E hr ⟨ds,d,h1,h2,q⟩=>⟨_,hbody cdv A outer s H E ds d hr h2,SD.start h1,q⟩),hm,F0.kp,hb⟩
mutual
def noL:PyData->Bool
 | .none=>true
 | .bool _=>true
 | .int _=>true
 | .str _=>true
 | .tuple xs=>noLs xs
 | .list _=>false
 | .dict _=>false
def noLs:List PyData->Bool
 |[]=>true
 |x::r=>noL x&&noLs r
end
def dele(H:Hp)(p:Addr):Hp:=λb=>if b=p then none else H b
variable{p:Addr}
theorem AN:dele H p p=none:=by unfold dele;rw[if_pos rfl]
theorem Bj(h:b≠p):dele H p b=H b:=by unfold dele;rw[if_neg h]
theorem Kl{o:HO}(h:H p=some o):upd (dele H p) p o=H:=by
 funext b
 by_cases hb:b=p
 .subst hb;rw[Ah,h]
 .rw[Ag hb,Bj hb]
mutual
theorem DV.dele{K:PySem.W.Frag}{H:Hp}{p:Addr}{ws:List V}(hp:H p=some (.lst ws)):∀{v:V}{d:PyData},DV K H v d->noL d=true->DV K (L2.dele H p) v d
 |_,_,.non,_=>.non
 |_,_,.bl b,_=>.bl b
 |_,_,.int i,_=>.int i
 |_,_,.str x,_=>.str x
 |_,_,.tup (a:=a) h t,f=>by
  refine .tup ?_ (DVs.dele hp t (by unfold noL at f;exact f))
  rcases h with(h|⟨o,h⟩)|h
  .have:a≠p:=λz=>by subst z;rw[hp]at h;cases h
   exact .inl (.inl (by rw[Bj this];exact h))
  .have:a≠p:=λz=>by subst z;rw[hp]at h;cases h
   exact .inl (.inr ⟨o,by rw[Bj this];exact h⟩)
  .exact .inr h
 |_,_,.lst h t,f=>by unfold noL at f;cases f
 |_,_,.dct h t,f=>by unfold noL at f;cases f
 |_,_,.exc h,f=>by unfold noL at f;cases f
 |_,_,.exr h h',f=>by unfold noL at f;cases f
 |_,_,.obj h n t,f=>by unfold noL at f;cases f
 |_,_,.dtt h,f=>by unfold noL at f;cases f
theorem DVs.dele{K:PySem.W.Frag}{H:Hp}{p:Addr}{ws:List V}(hp:H p=some (.lst ws)):∀{vs:List V}{ds:List PyData},DVs K H vs ds->noLs ds=true->DVs K (L2.dele H p) vs ds
 |_,_,.nil,_=>.nil
 |_,_,.cons h t,f=>by
  unfold noLs at f
  rw[Bool.and_eq_true]at f
  exact .cons (DV.dele hp h f.1) (DVs.dele hp t f.2)
end
def OSt(K:Frag)(H0:Hp)(p:Addr)(i:Nat)(G:Gam)(ds:List PyData)(σ:St)(H:Hp):Prop:=
 ∃Hb vs,H=upd Hb p (.lst vs)/\Hb p=none/\Same H0 Hb/\SD K Hb σ G/\σ[i]?=some (some (.ref p))/\DVs K Hb vs ds
abbrev Ed(G:Gam)(i:Nat)(ds:List PyData):Gam:=G.set i (some (.list ds))
theorem OSt.sd{H0:Hp}{i:Nat}(h:OSt K H0 p i G ds σ H):SD K H σ (Ed G i ds):=by
 obtain⟨Hb,vs,rfl,hn,_,hσ,hi,dv⟩:=h
 have h1:=hσ.mono (Same.new (o:=.lst vs) hn)
 have h2:=h1.set (i:=i) (v:=.ref p) (d:=.list ds) (.lst (SqL.of Ah) (dv.mono (Same.new hn)))
 have e:σ.set i (some (V.ref p))=σ:=by
  refine List.ext_getElem? λj=>?_
  by_cases hj:i=j
  .subst hj
   rw[List.getElem?_set_self (List.getElem?_eq_some_iff.mp hi).1,hi]
  .rw[List.getElem?_set_ne hj]
 rw[e]at h2
 exact h2
theorem OSt.step{H0:Hp}{i:Nat}(h:OSt K H0 p i G ds σ H)(s:Same H H'):
  OSt K H0 p i G ds σ H'/\∀v d,DV K H' v d->noL d=true->∃Hb vs,H'=upd Hb p (.lst vs)/\Hb p=none/\Same H0 Hb/\SD K Hb σ G/\σ[i]?=some (some (.ref p))/\DVs K Hb vs ds/\DV K Hb v d:=by
 obtain⟨Hb,vs,rfl,hn,s0,hσ,hi,dv⟩:=h
 have hp:H' p=some (.lst vs):=s p _ Ah
 have sb:Same Hb (dele H' p):=λb o e=>by
  have hb:b≠p:=Ao e hn
  rw[Bj hb]
  exact s b o (by rw[Ag hb];exact e)
 refine⟨⟨dele H' p,vs,(Kl hp).symm,AN,s0.trans sb,hσ.mono sb,hi,dv.mono sb⟩,λv d q f=>⟨dele H' p,vs,(Kl hp).symm,AN,s0.trans sb,hσ.mono sb,hi,dv.mono sb,DV.dele hp q f⟩⟩
def tH(K:Frag)(H0:Hp)(p:Addr)(i:Nat)(Pre Post:Gam->List PyData->Prop):TS:=λD σ H=>(∃G ds,Pre G ds/\OSt K H0 p i G ds σ H)/\∀σ' H' G ds,Post G ds->OSt K H0 p i G ds σ' H'->D.nx σ' H'
abbrev HT1(X:Cx)(H0:Hp)(p:Addr)(i:Nat)(Pre:Gam->List PyData->Prop)(st:Stmt)(Post:Gam->List PyData->Prop):Prop:=PS X st (tH X.K H0 p i Pre Post)
abbrev HTs(X:Cx)(H0:Hp)(p:Addr)(i:Nat)(Pre:Gam->List PyData->Prop)(sts:List Stmt)(Post:Gam->List PyData->Prop):Prop:=PSs X sts (tH X.K H0 p i Pre Post)
variable{H0:Hp}
section
variable{i j:Nat}{Pre Mid Post PreA PreB:Gam->List PyData->Prop}{pos2:Pos}
theorem Br(h:∀G ds,Pre G ds->Post G ds):HTs X H0 p i Pre [] Post:=pss_nil.imp λD σ H ⟨⟨G,ds,a,b⟩,q⟩=>q σ H G ds (h G ds a) b
theorem AG{st:Stmt}{sts:List Stmt}(h1:HT1 X H0 p i Pre st Mid)(h2:HTs X H0 p i Mid sts Post):HTs X H0 p i Pre (st::sts) Post:=
 (As h1 h2).imp λD σ H ⟨a,q⟩=>⟨a,λσ' H' G ds m o=>⟨⟨G,ds,m,o⟩,q⟩⟩
theorem CV(hN:X.N.Nodup)(hi:X.N[j]?=some x)(hij:j≠i)(hx:Loc X.env.scope x)(h:∀G ds,Pre G ds->∃d,EV X (Ed G i ds) e d/\noL d=true/\Post (G.set j (some d)) ds)(hs:swapsWith e (some (.Name x pos')) pos.line X.env=pure false:=by rfl)
  (hf:Zlo X x:=by first|exact .inl rfl|exact .inr rfl|assumption):HT1 X H0 p i Pre (.Assign [.Name x pos'] e pos) Post:=by
 intro pins s σ H D I ⟨⟨G,ds,a,o⟩,q⟩
 obtain⟨d,ev,nl,po⟩:=h G ds a
 refine Bn hN hi hx ev hs hf pins s σ H D I ⟨o.sd,λv H1 s1 d1=>?_⟩
 obtain⟨_,k⟩:=o.step s1
 obtain⟨Hb,vs,e1,e2,e3,e4,e5,e6,e7⟩:=k v d d1 nl
 exact q _ _ _ ds po ⟨Hb,vs,e1,e2,e3,e4.set e7,by rw[getElem?_set_ne hij];exact e5,e6⟩
theorem DU(h:∀G ds,Pre G ds->∃d,EV X (Ed G i ds) e d/\noL d=true/\ds.length<sizeLine/\Post G (ds++[d]))(hv:PE X (.Name x pos2) (tVar i))
  (hs0:starEach [e] X.env=(false,eval e X.env)::starEach [] X.env:=by rfl)
  (hb:attributeBase (.Name x pos2) "append" X.env (eval (.Name x pos2) X.env)=eval (.Name x pos2) X.env:=by rfl)
  (hfew:((backTo pos' (starEach [e] X.env)).all (λx=>!x.1)&&(backToKw pos' (keywordEach [] X.env)).all (λx=>x.1.isSome)
   &&decide ([e].length+([]:List Keyword).length+(if([]:List Keyword).isEmpty then 0 else 1)<30))=true:=by rfl)
  (hline:(apos.endLine==pos'.line)=true:=by rfl)(hpl:(backTo pos' (starEach [] X.env)).any (·.1)=false:=by rfl)
  (hsw:swapsWith (.Call (.Attribute (.Name x pos2) "append" apos) [e] [] pos') none pos.line X.env=pure false:=by rfl):
  HT1 X H0 p i Pre (.Expr (.Call (.Attribute (.Name x pos2) "append" apos) [e] [] pos') pos) Post:=by
 intro pins s σ H D I ⟨⟨G,ds,a,o⟩,q⟩
 obtain⟨d,ev,nl,hz,po⟩:=h G ds a
 refine Cu (Jg plainAttrs_list PySem.F.slot_list_append PySem.F.type_list_append Fg hv (Aa ev Ac hs0) hb hfew hline hs0 hpl) hsw pins s σ H D I ?_
 obtain⟨Hb,vs,rfl,hn,s0,hσ,hi,dv⟩:=id o
 refine⟨_,hi,.inl ⟨rfl,vs,SqL.of Ah⟩,o.sd,λws H1 s1 d1=>?_⟩
 obtain⟨v,rfl,d2⟩:=d1.one
 obtain⟨_,k⟩:=o.step s1
 obtain⟨Hb',vs',e1,e2,e3,e4,e5,e6,e7⟩:=k v d d2 nl
 subst e1
 have hup:upd (upd Hb' p (.lst vs')) p (.lst (vs'++[v]))=upd Hb' p (.lst (vs'++[v])):=Mb
 refine⟨p,vs',v,rfl,rfl,Ah,by rw[e6.length];exact hz,?_⟩
 rw[hup]
 exact q _ _ G _ po ⟨Hb',vs'++[v],rfl,e2,e3,e4,e5,e6.append (.cons e7 .nil)⟩
theorem U5{α:Type}{Pr:α->Gam->List PyData->Prop}{st:Stmt}(h:∀a,HT1 X H0 p i (Pr a) st Post):HT1 X H0 p i (λG ds=>∃a,Pr a G ds) st Post:=λpins s σ H D I ⟨⟨G,ds,⟨a,b⟩,o⟩,q⟩=>h a pins s σ H D I ⟨⟨G,ds,b,o⟩,q⟩
theorem Ly{a:Expr}{tg:Expr}{n:Int}(ha:EV X G a (.int n))(h1:-(2^62)<=n)(h2:n<2^62)(hg:Gl X "range")(hm:X.mg "range"=none)(hs:starEach [a] X.env=[(false,eval a X.env)]:=by rfl):
  PI X tg (.Call (.Name "range" pos') [a] [] pos) (λσ H R=>SD X.K H σ G/\∀H',Same H H'->R (Itr 0 n.toNat) H'):=
 (HW hg hm (Aa ha Ac hs) hs).imp λσ H R ⟨h,q⟩=>⟨h,λvs H1 s1 d1=>by
  obtain⟨v,rfl,dv⟩:=d1.one
  exact⟨n,by rw[dv.of_int],h1,h2,q H1 s1⟩⟩
theorem U1{a b:Expr}{tg:Expr}{m n:Int}(ha:EV X G a (.int m))(hb:EV X G b (.int n))(h0:-(2^62)<=m/\m<2^62/\-(2^62)<=n/\n<2^62)(hg:Gl X "range")(hm:X.mg "range"=none)
  (hs:starEach [a,b] X.env=[(false,eval a X.env),(false,eval b X.env)]:=by rfl)(hs2:starEach [b] X.env=[(false,eval b X.env)]:=by rfl):
  PI X tg (.Call (.Name "range" pos') [a,b] [] pos) (λσ H R=>SD X.K H σ G/\∀H',Same H H'->R (Itr m (n-m).toNat) H'):=
 (ND hg hm (Aa ha (Aa hb Ac hs2) (by unfold Zst;rw[hs,hs2])) hs hs2).imp λσ H R ⟨h,q⟩=>⟨h,λvs H1 s1 d1=>by
  obtain⟨v,w,rfl,dv,dw⟩:=d1.two
  exact⟨m,n,by rw[dv.of_int,dw.of_int],h0,q H1 s1⟩⟩
theorem OH{A B:List Stmt}(h:∀G ds,Pre G ds->(TV X (Ed G i ds) c true/\PreA G ds)\/(TV X (Ed G i ds) c false/\PreB G ds))(h1:HTs X H0 p i PreA A Post)(h2:HTs X H0 p i PreB B Post):HT1 X H0 p i Pre (.If c A B pos) Post:=by
 intro pins s σ H D I ⟨⟨G,ds,a,o⟩,q⟩
 rcases h G ds a with⟨tv,pa⟩|⟨tv,pb⟩
 .exact BG tv h1 h2 pins s σ H D I ⟨o.sd,λH1 s1=>iteT ⟨⟨G,ds,pa,(o.step s1).1⟩,q⟩⟩
 .exact BG tv h1 h2 pins s σ H D I ⟨o.sd,λH1 s1=>iteF ⟨⟨G,ds,pb,(o.step s1).1⟩,q⟩⟩
theorem EI{tg:Expr}{body:List Stmt}{lo:Int}{n:Nat}(W:Nat->Gam->List PyData->Prop)(hp:PassesOwn (model X.prog X.w) X.A X.env X.xe)(hcalm:X.calm=true)(hij:j≠i)(hg:PG X tg (BI j))
  (hpre:∀G ds,Pre G ds->W 0 G ds/\PI X tg iter (λσ H R=>SD X.K H σ (Ed G i ds)/\∀H',Same H H'->R (Itr lo n) H'))
  (hs:∀k,k<n->HTs X H0 p i (λG ds=>∃G',W k G' ds/\G=G'.set j (some (.int (lo+(k:Nat))))) body (W (k+1)))(hpost:∀G ds,W n G ds->Post G ds)
  (hfs:∀x,foldedSetIterable iter X.env x=pure x:=by intro _;rfl):HT1 X H0 p i Pre (.For tg iter body [] pos) Post:=by
 intro pins s σ H D I ⟨⟨G,ds,a,o⟩,q⟩
 obtain⟨w0,hi⟩:=hpre G ds a
 have hbody:PSs X body (λD σ H=>∃k:Nat,k<n/\tH X.K H0 p i (λG ds=>∃G',W k G' ds/\G=G'.set j (some (.int (lo+(k:Nat))))) (W (k+1)) D σ H):=λpins s σ H D I ⟨k,hk,q⟩=>hs k hk pins s σ H D I q
 refine Ep hp hcalm hi hg hbody hfs pins s σ H D I ⟨o.sd,λH1 s1=>?_⟩
 refine HN (lo:=lo) (n:=n) (g:=BI j) (tb:=λD σ H=>∃k:Nat,k<n/\tH X.K H0 p i (λG ds=>∃G',W k G' ds/\G=G'.set j (some (.int (lo+(k:Nat))))) (W (k+1)) D σ H) (λk σ H=>k<=n/\∃G ds,W k G ds/\OSt X.K H0 p i G ds σ H) ⟨zero_le _,G,ds,w0,(o.step s1).1⟩ (λk σ2 H2 hk ⟨_,G2,ds2,w2,o2⟩=>?_) (λσ2 H2 ⟨_,G2,ds2,w2,o2⟩=>q σ2 H2 G2 ds2 (hpost _ _ w2) o2)
 obtain⟨Hb,vs,rfl,hn,s0,hσ,hi2,dv⟩:=id o2
 refine⟨k,hk,⟨_,ds2,⟨G2,w2,rfl⟩,Hb,vs,rfl,hn,s0,hσ.set (.int _),by rw[getElem?_set_ne hij];exact hi2,dv⟩,λσ3 H3 G3 ds3 w3 o3=>⟨hk,G3,ds3,w3,o3⟩⟩
theorem QX{tg:Expr}{y:Str}{body:List Stmt}{m:Nat}{xs:List PyData}(W:Nat->Gam->List PyData->Prop)(hp:PassesOwn (model X.prog X.w) X.A X.env X.xe)(hcalm:X.calm=true)(hij:j≠i)(hg:PG X tg (BI j))(hv:PE X (.Name y pos') (tVar m))
  (hpre:∀G ds,Pre G ds->W 0 G ds/\G[m]?=some (some (.list xs)))
  (hs:∀(H1:Hp) (k:Nat) d,xs[k]?=some d->HTs X H1 p i (λG ds=>∃G',W k G' ds/\G=G'.set j (some d)) body (W (k+1)))(hpost:∀G ds,W xs.length G ds->Post G ds)
  (hfs:∀x,foldedSetIterable (.Name y pos') X.env x=pure x:=by intro _;rfl):HT1 X H0 p i Pre (.For tg (.Name y pos') body [] pos) Post:=by
 intro pins s σ H D I ⟨⟨G,ds,a,o⟩,q⟩
 obtain⟨w0,hm⟩:=hpre G ds a
 obtain⟨Hb,vs,rfl,hn,s0,hσ,hi,dv⟩:=id o
 obtain⟨v,e1,dl⟩:=hσ.2 m _ hm
 obtain⟨l,us,rfl,hl,dus⟩:=dl.of_lst
 have hbody:PSs X body (λD σ H=>∃kd:Nat×PyData,xs[kd.1]?=some kd.2/\tH X.K Hb p i (λG ds=>∃G',W kd.1 G' ds/\G=G'.set j (some kd.2)) (W (kd.1+1)) D σ H):=λpins s σ H D I ⟨k,hk,q⟩=>hs Hb k.1 k.2 hk pins s σ H D I q
 have keyN:∀{G2:Gam}{ds2:List PyData}{σ2:St}{H2:Hp},OSt X.K Hb p i G2 ds2 σ2 H2->SqL X.K H2 l us:=λ⟨Hc,ws,e,nc,sc,_⟩=>by
  subst e
  exact(Same.new nc).seq (sc.seq hl)
 refine Ep hp hcalm (Gg hv) hg hbody hfs pins s σ _ D I ⟨_,e1,l,rfl,⟨us,(Same.new hn).seq hl⟩,?_⟩
 refine J6 (K:=X.K) (a:=l) (xs:=us) (g:=BI j) (tb:=λD σ H=>∃kd:Nat×PyData,xs[kd.1]?=some kd.2/\tH X.K Hb p i (λG ds=>∃G',W kd.1 G' ds/\G=G'.set j (some kd.2)) (W (kd.1+1)) D σ H)
  (λk σ H=>∃G ds,W k G ds/\OSt X.K Hb p i G ds σ H) ⟨G,ds,w0,Hb,vs,rfl,hn,Same.refl _,hσ,hi,dv⟩ (λk σ2 H2 _ ⟨_,_,_,o2⟩=>keyN o2) (λk z σ2 H2 hk ⟨G2,ds2,w2,o2⟩=>?_)
  (λσ2 H2 ⟨G2,ds2,w2,Hc,ws,e,nc,sc,r⟩=>q σ2 H2 G2 ds2 (hpost _ _ (by rw[<-dus.length];exact w2)) ⟨Hc,ws,e,nc,s0.trans sc,r⟩)
 obtain⟨d,ed,dz⟩:=dus.get' hk
 obtain⟨Hc,ws,e,nc,sc,hσ2,hi2,dv2⟩:=o2
 exact⟨(k,d),ed,⟨_,ds2,⟨G2,w2,rfl⟩,Hc,ws,e,nc,sc,hσ2.set (dz.mono sc),by rw[getElem?_set_ne hij];exact hi2,dv2⟩,λσ3 H3 G3 ds3 w3 o3=>⟨G3,ds3,w3,o3⟩⟩
def tR(K:Frag)(G:Gam)(R:PyData->Prop):TS:=λD σ H=>SD K H σ G/\∀d v H',R d->Same H H'->DV K H' v d->D.rt v H'
abbrev RVs(X:Cx)(G:Gam)(sts:List Stmt)(R:PyData->Prop):Prop:=PSs X sts (tR X.K G R)
def tHR(K:Frag)(H0:Hp)(p:Addr)(i:Nat)(Pre:Gam->List PyData->Prop)(R:PyData->Prop):TS:=λD σ H=>(∃G ds,Pre G ds/\OSt K H0 p i G ds σ H)/\∀d v H',R d->Same H0 H'->DV K H' v d->D.rt v H'
abbrev HRs(X:Cx)(H0:Hp)(p:Addr)(i:Nat)(Pre:Gam->List PyData->Prop)(sts:List Stmt)(R:PyData->Prop):Prop:=PSs X sts (tHR X.K H0 p i Pre R)
variable{R:PyData->Prop}
theorem BU{st:Stmt}{sts:List Stmt}(h1:HT1 X H0 p i Pre st Mid)(h2:HRs X H0 p i Mid sts R):HRs X H0 p i Pre (st::sts) R:=
 (As h1 h2).imp λD σ H ⟨a,q⟩=>⟨a,λσ' H' G ds m o=>⟨⟨G,ds,m,o⟩,q⟩⟩
theorem QK{sts:List Stmt}(hv:PE X (.Name x pos2) (tVar i))(h:∀G ds,Pre G ds->R (.list ds)):HRs X H0 p i Pre (.Return (some (.Name x pos2)) pos::sts) R:=
 (As (Ek hv) (A2 (sts:=sts))).imp λD σ H ⟨⟨G,ds,a,Hb,vs,e,n,s0,hσ,hi,dv⟩,q⟩=>by
  subst e
  exact⟨_,hi,q _ _ _ (h G ds a) (s0.trans (Same.new n)) (.lst (SqL.of Ah) (dv.mono (Same.new n)))⟩
theorem IO{sts:List Stmt}(hN:X.N.Nodup)(hi:X.N[i]?=some x)(hx:Loc X.env.scope x)(hG:i<G.length)(h:∀H0 p,HRs X H0 p i (λG' ds=>G'=G.set i none/\ds=[]) sts R)
  (hs:swapsWith (.List [] pos2) (some (.Name x pos')) pos.line X.env=pure false:=by rfl)(hf:Zlo X x:=by first|exact .inl rfl|exact .inr rfl|assumption):
  RVs X G (.Assign [.Name x pos'] (.List [] pos2) pos::sts) R:=by
 intro pins s σ H D I ⟨hσ,q⟩
 have h2:PSs X sts (λD σ H=>∃hp:Hp×Addr,tHR X.K hp.1 hp.2 i (λG' ds=>G'=G.set i none/\ds=[]) R D σ H):=λpins s σ H D I ⟨hp,q⟩=>h hp.1 hp.2 pins s σ H D I q
 refine As (Bn hN hi hx (Ip pa_nil) hs hf) h2 pins s σ H D I ⟨zero_le _,λp hp=>⟨(H,p),⟨_,[],⟨rfl,rfl⟩,H,[],rfl,hp,Same.refl _,⟨by rw[length_set,length_set,hσ.1],λj d e=>?_⟩,getElem?_set_self (by rw[hσ.1];exact hG),.nil⟩,λd v H' r s' dv=>q d v H' r s' dv⟩⟩
 by_cases hj:i=j
 .subst hj
  rw[getElem?_set_self hG]at e
  cases e
 .rw[getElem?_set_ne hj]at e ⊢
  exact hσ.2 j d e
theorem CN{st:Stmt}{sts:List Stmt}{G1:Gam}(h1:SV X G st (.next G1))(h2:RVs X G1 sts R):RVs X G (st::sts) R:=
 (As h1 h2).imp λD σ H ⟨h,q⟩=>⟨h,λσ' H' s' h'=>⟨h',λd v H2 r s2 dv=>q d v H2 r (s'.trans s2) dv⟩⟩
def spR(K:Frag)(F:List PyData->PyData->Prop)(pre:List PyData->Prop):Sp:=λvs H Q _=>∃ds,DVs K H vs ds/\pre ds/\∀d v H',F ds d->Same H H'->DV K H' v d->Q v H'
def RFn(P:Program)(w:World)(K:Frag)(mg:Str->Option Value)(base:Heap)(k:Nat)(x:Str)(F:List PyData->PyData->Prop)(pre:List PyData->Prop):Prop:=
 ∃f fd ps,FnOk P w K mg base CX0 k f fd ps (spR K F pre)/\mg x=some (.ref f)/\keepIn K (.ref f)=true/\Binds K fd ps []
def tDR(K:Frag)(G:Gam)(R:PyData->Prop):TE:=λσ H Q=>SD K H σ G/\∀d v H',R d->Same H H'->DV K H' v d->Q v H'
abbrev EVR(X:Cx)(G:Gam)(e:Expr)(R:PyData->Prop):Prop:=PE X e (tDR X.K G R)
theorem Jz{k:Nat}{F:List PyData->PyData->Prop}{pre:List PyData->Prop}(D:RFn X.prog X.w X.K X.mg X.base k x F pre)(hr:Room k X.A)(hg:Gl X x)(ha:AV X G (e::es) ds)(hF:pre ds)(hdb:(x==("__debug__":Str))=false:=by decide)
  (he:Zst X e es:=by rfl)(hpl:(backTo pos (starEach es X.env)).any (·.1)=false:=by rfl):EVR X G (.Call (.Name x pos2) (e::es) [] pos) (F ds):=by
 obtain⟨f,fd,ps,ok,hm,hk,hb⟩:=D
 refine(Jb ok hr hg hm hk hb .nil Ci ha hdb he hpl).imp λσ H Q ⟨h,q⟩=>⟨h,λvs H1 s1 d1=>?_⟩
 show spR X.K F pre (vs++[]) H1 Q E0
 rw[append_nil]
 exact⟨ds,d1,hF,λd v H2 r s2 d2=>q d v H2 r (s1.trans s2) d2⟩
theorem KJ(h:EV X G e d)(hr:R d):EVR X G e R:=h.imp λσ H Q ⟨h,q⟩=>⟨h,λv H' s' dv=>q d v H' hr s' dv⟩
theorem GS{sts:List Stmt}{o:Out}(hN:X.N.Nodup)(hi:X.N[i]?=some x)(hx:Loc X.env.scope x)(h:EVR X G e R)(h2:∀d,R d->SVs X (G.set i (some d)) sts o)(hs:swapsWith e (some (.Name x pos')) pos.line X.env=pure false:=by rfl)
  (hf:Zlo X x:=by first|exact .inl rfl|exact .inr rfl|assumption):SVs X G (.Assign [.Name x pos'] e pos::sts) o:=by
 have hr:PSs X sts (λD σ H=>∃d,R d/\tDS X.K (G.set i (some d)) o D σ H):=λpins s σ H D I ⟨d,r,q⟩=>h2 d r pins s σ H D I q
 refine(As (Bn hN hi hx h hs hf) hr).imp λD σ H ⟨h,q⟩=>⟨h,λd v H1 r s1 d1=>⟨d,r,(h.mono s1).set d1,?_⟩⟩
 cases o with
 |next G2=>exact λσ2 H2 s2 h2=>q σ2 H2 (s1.trans s2) h2
 |ret d=>exact λv H2 s2 h2=>q v H2 (s1.trans s2) h2
theorem Pn{sts:List Stmt}{R2:PyData->Prop}(hN:X.N.Nodup)(hi:X.N[i]?=some x)(hx:Loc X.env.scope x)(h:EVR X G e R)(h2:∀d,R d->RVs X (G.set i (some d)) sts R2)(hs:swapsWith e (some (.Name x pos')) pos.line X.env=pure false:=by rfl)
  (hf:Zlo X x:=by first|exact .inl rfl|exact .inr rfl|assumption):RVs X G (.Assign [.Name x pos'] e pos::sts) R2:=by
 have hr:PSs X sts (λD σ H=>∃d,R d/\tR X.K (G.set i (some d)) R2 D σ H):=λpins s σ H D I ⟨d,r,q⟩=>h2 d r pins s σ H D I q
 exact(As (Bn hN hi hx h hs hf) hr).imp λD σ H ⟨h,q⟩=>⟨h,λd v H1 r s1 d1=>⟨d,r,(h.mono s1).set d1,λd2 v2 H2 r2 s2 dv2=>q d2 v2 H2 r2 (s1.trans s2) dv2⟩⟩
end
theorem Fun.dataR{qual:Str}{st:Stmt}{f:Addr}{fd:FuncData}{ps:List Str}{k:Nat}{F:List PyData->PyData->Prop}{pre:List PyData->Prop}(F0:Fun K x qual st f fd)(hm:mg x=some (.ref f))(hb:Binds K fd ps [])(S:FnScope N ps (Ad st))(len:∀ds,pre ds->ds.length=ps.length)
  (hbody:∀(cdv:Value) (A:Around) (outer:List Env) (s:Shared) (H:Hp) (E:XK) (ds:List PyData),Room k (A.deeper (envOfC qual (Ad st) s.heap.objs.size f cdv))->pre ds->
   RVs (cxOf CX0 P w K mg base N qual (Ad st) f cdv A outer s H E).nox (AT N ds) (AB st) (F ds)):RFn P w K mg base (k+1) x F pre:=by
 refine⟨f,fd,ps,F0.ok S (λvs H Q E ⟨ds,h1,h2,_⟩=>h1.length.trans (len ds h2)) (λcdv A outer s H vs Q E hr ⟨ds,h1,h2,q⟩=>⟨_,hbody cdv A outer s H E ds hr h2,SD.start h1,q⟩),hm,F0.kp,hb⟩
section
variable{a b:Expr}{rest:List Expr}{p p3:Pos}{d':PyData}
theorem A0(h:EV X G e d)(q:d=d'):EV X G e d':=q▸h
theorem Aj{k k':Bool}(h:TV X G e k)(q:k=k'):TV X G e k':=q▸h
end
mutual
theorem Ds:∀(d:PyData),d.canLay0=true->eqv d d=true
 | .none,_=>rfl
 | .bool b,_=>by simp[eqv]
 | .int i,_=>by simp[eqv]
 | .str x,_=>by simp[eqv]
 | .list xs,h=>by unfold eqv;exact Dq xs (by simpa[canLay0]using h)
 | .tuple xs,h=>by unfold eqv;exact Dq xs (by simpa[canLay0]using h)
 | .dict _,h=>by simp[canLay0]at h
theorem Dq:∀(ds:List PyData),canLayAll0 ds=true->eqvAll ds ds=true
 |[],_=>rfl
 |d::r,h=>by
  have h':d.canLay0=true/\canLayAll0 r=true:=by simpa[canLayAll0]using h
  unfold eqvAll
  rw[Ds d h'.1,Dq r h'.2]
  rfl
end
theorem Eb{α:Type}{f:α->PyData}:∀(l:List α),(∀a∈l,(f a).canLay0=true)->canLayAll0 (l.map f)=true
 |[],_=>rfl
 |a::r,h=>by
  rw[map_cons]
  unfold canLayAll0
  rw[h a mem_cons_self,Eb r λb hb=>h b (mem_cons_of_mem _ hb)]
  rfl
theorem EK{α:Type}{f:α->PyData}{n:Nat}:∀(l:List α),(∀a∈l,(f a).depth<=n)->depthAll (l.map f)<=n
 |[],_=>zero_le _
 |a::r,h=>by
  rw[map_cons]
  unfold depthAll
  exact Nat.max_le.mpr ⟨h a mem_cons_self,EK r λb hb=>h b (mem_cons_of_mem _ hb)⟩
theorem Bs{α:Type}(l:List α):l.filter (λ_=>true)=l:=List.filter_eq_self.mpr λ_ _=>rfl
theorem Bi{xs:List PyData}{i:Int}(h0:0<=i)(h:xs[i.toNat]?=some d):atI xs i=some d:=by
 have:=Rj h
 rwa[Int.toNat_of_nonneg h0]at this
section
variable{a b:Expr}{p:Pos}
theorem Au(id:String)(ha:AV X G (e::es) ds)(hc:CD X (.builtin id) ds d)(hg:Gl X x)(hm:X.mg x=none)(hv:bootBuiltins x=some (.builtin id))(hn:x≠"__name__":=by decide)(hdb:(x==("__debug__":Str))=false:=by decide)
  (he:Zst X e es:=by rfl)(hpl:(backTo pos (starEach es X.env)).any (·.1)=false:=by rfl):EV X G (.Call (.Name x p) (e::es) [] pos) d:=PH hc hg hm hv ha hn hdb he hpl
theorem Ex(T:String)(ha:AV X G (e::es) ds)(hc:CD X (.type T) ds d)(hg:Gl X x)(hm:X.mg x=none)(hv:bootBuiltins x=some (.type T))(hn:x≠"__name__":=by decide)(hdb:(x==("__debug__":Str))=false:=by decide)
  (he:Zst X e es:=by rfl)(hpl:(backTo pos (starEach es X.env)).any (·.1)=false:=by rfl):EV X G (.Call (.Name x p) (e::es) [] pos) d:=NJ hc hg hm hv ha hn hdb he hpl
theorem Nj{op op':CmpOp}{k k':Bool}(ha:EV X G a da)(hb:EV X G b db)(ho:OD X (compareOp op) da db (.bool k))(hc:EV X G c dc)(ho':OD X (compareOp op') db dc (.bool k'))
  (hm:lastMarks [op,op'] [b,c]=false:=by with_unfolding_all rfl):EV X G (.Compare a [op,op'] [b,c] pos) (.bool (k&&k')):=PX ho (λ_=>ho') ha hb (λ_=>hc) hm
end
theorem AX{zs:List Int}{i:Int}(h0:0<=i)(h:i<zs.length):atI (zs.map int) i=some (.int (zs.getD i.toNat 0)):=by
 have hi:i.toNat<zs.length:=by omega
 exact Bi h0 (by simp[hi])
structure FnIn(K:Frag)(x:Str)(st:Stmt)(f:Addr)(fd:FuncData):Prop where
 ns:nsIn K mainGlobals x=some (some (.ref f))
 fn:Fun K x x st f fd
theorem fnIn_mk{st:Stmt}{f:Addr}{oc:Value}{od an:Option Addr}{osl:Array (Option Value)}{kV doc pm cdv ct:Value}(a:nsIn K mainGlobals x=some (some (.ref f)))
  (l:K.lookup f=some ⟨oc,od,.func (fnOf x x (BT st) (AB st) (Ad st) .none kV doc pm an cdv ct),osl⟩)(c:codeIn K cdv x=true)(k:keepIn K (.ref f)=true):∃f fd,FnIn K x st f fd:=
 ⟨f,_,a,IB l c k⟩
section
open Builtin.SmallTypes (nextOf)
theorem NN{it t:Addr}{i:Nat}{its:Array Value}{x:Value}(hi:s.heap.IsTupleIter it t i)(ht:s.heap.IsTuple t its)(hx:its[i]?=some x)
  (q:∀g,g.IsTupleIter it t (i+1)->SameBut it s.heap g->Q x {s with heap:=g}):wpAny (model prog w) A (nextOf (.ref it)) Q E s:=by
 obtain⟨o,ho,hc,hd⟩:=id hi;obtain⟨ol,hol,_,nl,hdl⟩:=ht
 unfold nextOf
 refine wpAny_bind (wpAny_callSpecial?_slot (name:=Str.ofString "__next__") hi.typeIs PySem.F.slot_tuple_iterator_next (wpAny_call_entry PySem.F.slot_tuple_iterator_next hi.typeIs PySem.F.entry_tuple_iterator_next ?_ (PySem.F.args_tuple_iterator_next_1 _)))
 show wpAny _ A.in1 (field (.ref it) 0>>=_) _ _ s
 refine wpAny_bind (wpAny_field ho hd (x:=.ref t) rfl ?_)
 show wpAny _ A.in1 (if(Value.ref t==Value.none)=true then _ else _) _ _ s
 rw[if_neg (show ¬((Value.ref t==Value.none)=true) by exact Bool.false_ne_true)]
 show wpAny _ A.in1 (field (.ref it) 1>>=_) _ _ s
 refine wpAny_bind (wpAny_field ho hd (x:=.int i 0) rfl ?_)
 show wpAny _ A.in1 (seqItems? (.ref t)>>=_) _ _ s
 refine wpAny_bind (wpAny_seqItems hol hdl ?_)
 simp only[toNat_natCast,hx]
 refine wpAny_bind (wpAny_setField ho hd (by simp) (wpAny_pure ⟨x,rfl,wpAny_pure (q _ ⟨_,get?_update_self _ ho (Obj.isFreed_of_fields (Obj.data_mapFields hd _)),(Obj.cls_mapFields ..).trans hc,?_⟩ (Heap.SameBut.update ..))⟩))
 rw[Obj.data_mapFields hd];simp[rawInt]
structure ZAp(z a b i j t:Addr):Prop where
 az:a≠z
 bz:b≠z
 iz:i≠z
 jz:j≠z
 ab:a≠b
 ai:a≠i
 aj:a≠j
 bi:b≠i
 bj:b≠j
 ij:i≠j
 tz:t≠z
 tb:t≠b
 ti:t≠i
 tj:t≠j
abbrev Co:String:="str_ascii_iterator"
theorem Py{z i j t:Addr}{k c:Nat}{tk:Tok}{ys:Array Value}{y p q:Value}(D:ZAp z a b i j t)
  (hz:IsZip s.heap z a b .none)(ha:IsPair s.heap a (.ref i) (.ref j))(hb:IsPair s.heap b p q)(h1:s.heap.IsStrIter i Co x tk k)(h2:s.heap.IsTupleIter j t k)(ht:s.heap.IsTuple t ys)(hx:x.cps[k]?=some c)(hy:ys[k]?=some y)
  (fin:∀g n,IsZip g z a b (rawInt s.heap.objs.size)->IsPair g b (.str ⟨#[c]⟩ s.toks) y->g.IsStrIter i Co x tk (k+1)->g.IsTupleIter j t (k+1)->IsPair g s.heap.objs.size (.str ⟨#[c]⟩ s.toks) y->g.objs.size=s.heap.objs.size+1->
   (∀d o,d≠z->d≠b->d≠i->d≠j->s.heap.get? d=some o->g.get? d=some o)->Q (.ref s.heap.objs.size) {s with heap:=g,toks:=n}):
  wpAny (model prog w) A (Builtin.«zip.__next__» ⟨[.ref z],[]⟩) (λr s'=>∃v,r=.done (.ret v)/\Q v s') E s:=by
 show wpAny (model prog w) A (field (.ref z) 2>>=_) _ _ _
 refine wpAny_bind (wpAny_field hz rfl (x:=.bool false) rfl ?_)
 show wpAny (model prog w) A (field (.ref z) 3>>=_) _ _ _
 refine wpAny_bind (wpAny_field hz rfl (x:=.ref a) rfl (wpAny_bind (wpAny_seqItems ha rfl ?_)))
 show wpAny (model prog w) A (ownedTupleIsFree (.ref z)>>=_) _ _ _
 refine wpAny_bind ?_
 unfold ownedTupleIsFree
 refine wpAny_bind (wpAny_field hz rfl (x:=.none) rfl (wpAny_pure ?_))
 simp only[if_true]
 refine wpAny_bind (wpAny_rule (wpAny_bind (wpAny_field hz rfl (x:=.ref b) rfl (wpAny_bind (wpAny_setField_rec hz (by simp) λg1 z1 s1=>?_)))))
 replace z1:IsZip g1 z a b .ellipsis:=z1
 refine wpAny_bind ?_
 simp only[List.zipIdx_cons,List.zipIdx_nil,forIn_cons,List.forIn_nil]
 refine wpAny_bind (wpAny_bind (wpAny_onRaise ?_))
 show wpAny (model prog w) A (nextOf (.ref i)>>=_) _ _ _
 refine wpAny_bind (wpAny_nextOf_ascii_item (h1.extBut s1.extBut D.iz) hx λg2 i2 s2=>wpAny_pure ?_)
 have b2:IsPair g2 b p q:=s2.extBut _ _ D.bi (s1.extBut _ _ D.bz hb)
 refine wpAny_bind (wpAny_seqItems b2 rfl (wpAny_bind (wpAny_updateSeq_pair b2 λg3 b3 s3=>?_)))
 replace b3:IsPair g3 b (.str ⟨#[c]⟩ s.toks) q:=b3
 refine wpAny_bind (wpAny_letGo (wpAny_pure ?_))
 refine wpAny_bind (wpAny_bind (wpAny_onRaise ?_))
 show wpAny (model prog w) A (nextOf (.ref j)>>=_) _ _ _
 have j3:g3.IsTupleIter j t k:=by
  obtain⟨o,e,r⟩:=h2
  exact⟨o,s3.extBut _ _ D.bj.symm (s2.extBut _ _ D.ij.symm (s1.extBut _ _ D.jz e)),r⟩
 have t3:g3.IsTuple t ys:=by
  obtain⟨o,e,r⟩:=ht
  exact⟨o,s3.extBut _ _ D.tb (s2.extBut _ _ D.ti (s1.extBut _ _ D.tz e)),r⟩
 refine wpAny_bind (NN j3 t3 hy λg4 j4 s4=>wpAny_pure ?_)
 have b4:IsPair g4 b (.str ⟨#[c]⟩ s.toks) q:=s4.extBut _ _ D.bj b3
 refine wpAny_bind (wpAny_seqItems b4 rfl (wpAny_bind (wpAny_updateSeq_pair b4 λg5 b5 s5=>?_)))
 replace b5:IsPair g5 b (.str ⟨#[c]⟩ s.toks) y:=b5
 refine wpAny_bind (wpAny_letGo (wpAny_pure (wpAny_pure (wpAny_bind (wpAny_seqItems b5 rfl (wpAny_bind (wpAny_newTuple ?_)))))))
 have sz:g5.objs.size=s.heap.objs.size:=by rw[s5.1,s4.1,s3.1,s2.1,s1.1]
 have z5:IsZip g5 z a b .ellipsis:=s5.extBut _ _ D.bz.symm (s4.extBut _ _ D.jz.symm (s3.extBut _ _ D.bz.symm (s2.extBut _ _ D.iz.symm z1)))
 have k5:∀d o,d≠z->d≠b->d≠i->d≠j->s.heap.get? d=some o->g5.get? d=some o:=λd o d1 d2 d3 d4 e=>s5.extBut _ _ d2 (s4.extBut _ _ d4 (s3.extBut _ _ d2 (s2.extBut _ _ d3 (s1.extBut _ _ d1 e))))
 have i5:g5.IsStrIter i Co x tk (k+1):=((i2.extBut s3.extBut D.bi.symm).extBut s4.extBut D.ij).extBut s5.extBut D.bi.symm
 have j5:g5.IsTupleIter j t (k+1):=by
  obtain⟨o,e,r⟩:=j4
  exact⟨o,s5.extBut _ _ D.bj.symm e,r⟩
 have zlt:z<g5.objs.size:=lt_size z5
 show wpAny (model prog w) A (ownedTupleHandOut (.ref z) (.ref g5.objs.size)>>=_) _ _ _
 refine wpAny_bind ?_
 unfold ownedTupleHandOut
 have z6:IsZip (g5.push {cls:=.type "tuple",data:=.seq #[.str ⟨#[c]⟩ s.toks,y]}) z a b .ellipsis:=get?_push_of_some _ z5
 refine wpAny_bind (wpAny_setField_rec z6 (by simp) λg7 z7 s7=>?_)
 replace z7:IsZip g7 z a b (rawInt g5.objs.size):=z7
 refine wpAny_setField_rec z7 (by simp) λg8 z8 s8=>?_
 replace z8:IsZip g8 z a b (rawInt g5.objs.size):=z8
 have up:∀d o,d≠z->g5.get? d=some o->g8.get? d=some o:=λd o d1 e=>s8.extBut _ _ d1 (s7.extBut _ _ d1 (get?_push_of_some _ e))
 have p8:IsPair g8 g5.objs.size (.str ⟨#[c]⟩ s.toks) y:=s8.extBut _ _ (ne_of_gt zlt) (s7.extBut _ _ (ne_of_gt zlt) (get?_push_size _ rfl))
 have n8:g8.objs.size=g5.objs.size+1:=by rw[s8.1,s7.1,size_push]
 rw[sz]at z8 p8 n8
 refine wpAny_pure ⟨_,rfl,?_⟩
 show Q (.ref g5.objs.size) _
 rw[sz]
 refine fin g8 _ z8 (up _ _ D.bz b5) ?_ ?_ p8 n8 λd o d1 d2 d3 d4 e=>up d o d1 (k5 d o d1 d2 d3 d4 e)
 .obtain⟨o,e,r⟩:=i5
  exact⟨o,up _ _ D.iz e,r⟩
 .obtain⟨o,e,r⟩:=j5
  exact⟨o,up _ _ D.jz e,r⟩
theorem Q6{z i j:Addr}{k:Nat}{tk:Tok}{Q:Fin->Shared->Prop}(hh:A.handled=none)(iz:i≠z)
  (hz:IsZip s.heap z a b .none)(ha:IsPair s.heap a (.ref i) (.ref j))(h1:s.heap.IsStrIter i Co x tk k)(hx:x.cps[k]?=none)
  (fin:∀g e,(∀d o,d≠z->d≠b->d≠i->d≠j->s.heap.get? d=some o->g.get? d=some o)->(∃o,g.get? e=some o/\o.cls=.type "StopIteration")->E (.ref e) {s with heap:=g}):
  wpAny (model prog w) A (Builtin.«zip.__next__» ⟨[.ref z],[]⟩) Q E s:=by
 show wpAny (model prog w) A (field (.ref z) 2>>=_) _ _ _
 refine wpAny_bind (wpAny_field hz rfl (x:=.bool false) rfl ?_)
 show wpAny (model prog w) A (field (.ref z) 3>>=_) _ _ _
 refine wpAny_bind (wpAny_field hz rfl (x:=.ref a) rfl (wpAny_bind (wpAny_seqItems ha rfl ?_)))
 show wpAny (model prog w) A (ownedTupleIsFree (.ref z)>>=_) _ _ _
 refine wpAny_bind ?_
 unfold ownedTupleIsFree
 refine wpAny_bind (wpAny_field hz rfl (x:=.none) rfl (wpAny_pure ?_))
 simp only[if_true]
 refine wpAny_bind (wpAny_rule (wpAny_bind (wpAny_field hz rfl (x:=.ref b) rfl (wpAny_bind (wpAny_setField_rec hz (by simp) λg1 z1 s1=>?_)))))
 replace z1:IsZip g1 z a b .ellipsis:=z1
 refine wpAny_bind ?_
 simp only[List.zipIdx_cons,List.zipIdx_nil,forIn_cons,List.forIn_nil]
 refine wpAny_bind (wpAny_bind (wpAny_onRaise ?_))
 show wpAny (model prog w) A (nextOf (.ref i)>>=_) _ _ _
 refine wpAny_bind (wpAny_nextOf_ascii_end hh (h1.extBut s1.extBut iz) hx λg2 e s2 he=>?_)
 obtain⟨oe,hoe,hce⟩:=he
 have z2:IsZip g2 z a b .ellipsis:=s2 _ _ iz.symm z1
 have ez:e≠z:=λy=>by subst y;rw[z2]at hoe;cases hoe;simp at hce
 exact wpAny_setField_rec z2 (by simp) λg3 _ s3=>fin g3 e (λd o d1 _ d3 _ y=>s3.extBut _ _ d1 (s2 _ _ d3 (s1.extBut _ _ d1 y))) ⟨oe,s3.extBut _ _ ez hoe,hce⟩
end
def UF(K:Frag)(x:Str)(t:Addr):It:=
 ⟨λk H=>∃ys,SqT K H t ys/\k<ys.length/\k<x.cps.size,λk H v H'=>∃p c y,H p=none/\v=.ref p/\H'=upd H p (.tup [.str ⟨#[c]⟩,y])/\x.cps[k]?=some c/\∀ys,SqT K H t ys->ys[k]?=some y,λk _=>x.cps.size<=k⟩
def ZTn(z a b i j t:Addr)(x:Str)(tk:Tok)(k:Nat)(h:Heap):Prop:=IsZip h z a b .none/\IsPair h a (.ref i) (.ref j)/\(∃p q,IsPair h b p q)/\h.IsStrIter i Co x tk k/\h.IsTupleIter j t k
structure ZAp0(z a b i j:Addr):Prop where
 az:a≠z
 bz:b≠z
 iz:i≠z
 jz:j≠z
 ab:a≠b
 ai:a≠i
 aj:a≠j
 bi:b≠i
 bj:b≠j
 ij:i≠j
theorem Nv{t:Addr}{ys:List V}(I:Inv X pins σ H s)(h:SqT X.K H t ys)(f:FpOk X pins H b):t≠b:=by
 intro e
 subst e
 obtain⟨hn,_,_,hx,_⟩:=f
 rcases h with(h|⟨o,h⟩)|⟨o,its,n,hk,_⟩
 .rw[hn]at h;cases h
 .rw[hn]at h;cases h
 .have hb:=I.mod.kin t o hk
  rcases hx with hx|hx
  .exact I.ok.noex t o hb hx
  .exact absurd (lt_of_lt_of_le (lt_size (I.ok.bs t o hb).1) hx) (lt_irrefl _)
variable{h':Heap}{t':Nat}
theorem Inv.turnedNew{ch:List Addr}{vs:List V}{us:List Value}(I:Inv X pins σ H s)(hf:∀b∈ch,FpOk X pins H b)
  (k:∀b o,b∉ch->s.heap.get? b=some o->h'.get? b=some o)(hc:∀b∈ch,∃o,h'.get? b=some o)(hp:s.heap.objs.size<=p)(r:Vals vs us)(hz:vs.length<=sizeLine)(ht:IsTup h' p us.toArray/\∃o,h'.get? p=some o/\o.dict=none):Inv X pins σ (upd H p (.tup vs)) {s with heap:=h',toks:=t'}:=by
 have nc:∀b u,H b=some u->b∉ch:=λb u e z=>by rw[(hf b z).1]at e;cases e
 have hn:H p=none:=I.hok.fresh hp
 refine I.step (g':=s.gens) (d':=s.drawn) (ch:=ch) (λb hb=>?_) (λb o _ _ hc e _=>k b o hc e) (λb o _ _ hc e _=>⟨o.slots,k b o hc e⟩) (λb o _ e n=>?_) (λb o hc e=>⟨o,k b o hc e⟩)
  (λb xs e=>?_) (λb o u e=>?_) (λb ps e=>⟨#[],?_⟩) (λm hm=>?_) (λb u e=>?_) I.bare
 .obtain⟨_,h1,h2,h3,h4,h5⟩:=hf b hb
  exact⟨h3,h1,h4,h5⟩
 .rw[Ag (Nat.ne_of_lt (Nat.lt_of_lt_of_le (Heap.lt_size e) hp))];exact n
 .rw[Ag (Ao e hn)];exact e
 .rw[Ag (Ao e hn)];exact e
 .rw[Ag (Ao e hn),e];simp
 .obtain⟨o,es,ep,ho,rr⟩:=hm
  exact⟨o,es,ep,k _ o (λz=>(hf _ z).2.1 rfl) ho,rr⟩
 .by_cases hb:b=p
  .subst hb
   rw[Ah]at e
   cases e
   exact⟨hz,⟨us,r,ht.1⟩,ht.2⟩
  .rw[Ag hb]at e
   refine(I.hok b u e).stay (λc v hc q=>k c v ?_ q) (λc q=>?_) λc xs q=>?_
   .rcases hc with z|z
    .rw[z];exact nc b u e
    .exact nc c _ z
   .rw[Ag (Ao q hn)];exact q
   .rw[Ag (Ao q hn)];exact q
theorem Inv.turnedMany{ch:List Addr}(I:Inv X pins σ H s)(hf:∀b∈ch,FpOk X pins H b)
  (k:∀b o,b∉ch->s.heap.get? b=some o->h'.get? b=some o):Inv X pins σ H {s with heap:=h',toks:=t'}:=by
 have nc:∀b u,H b=some u->b∉ch:=λb u e z=>by rw[(hf b z).1]at e;cases e
 refine I.step (g':=s.gens) (d':=s.drawn) (ch:=ch) (λb hb=>?_) (λb o _ _ hc e _=>k b o hc e) (λb o _ _ hc e _=>⟨o.slots,k b o hc e⟩) (λb o _ e n=>n) (λb o hc e=>⟨o,k b o hc e⟩)
  (λb xs e=>e) (λb o u e=>e) (λb ps e=>⟨#[],by rw[e];simp⟩) (λm hm=>?_) (λb u e=>?_) I.bare
 .obtain⟨_,h1,h2,h3,h4,h5⟩:=hf b hb
  exact⟨h3,h1,h4,h5⟩
 .obtain⟨o,es,ep,ho,rr⟩:=hm
  exact⟨o,es,ep,k _ o (λz=>(hf _ z).2.1 rfl) ho,rr⟩
 .refine(I.hok b u e).stay (λc v hc q=>k c v ?_ q) (λc q=>q) λc xs q=>q
  rcases hc with z|z
  .rw[z];exact nc b u e
  .exact nc c _ z
variable{tk:Tok}
theorem P6{elts:List Expr}{x1}{z i j t:Addr}(D0:ZAp0 z a b i j):
  Turn P w K (.Tuple elts x1 tpos) (UF K x t) [z,a,b,i,j] z (ZTn z a b i j t x tk)where
 mem:=by simp
 obj:=λk h st c hc=>by
  obtain⟨hz,ha,⟨p,q,hb⟩,⟨o1,e1,_,d1⟩,⟨o2,e2,_,d2⟩⟩:=st
  simp only[mem_cons,not_mem_nil,or_false]at hc
  rcases hc with rfl|rfl|rfl|rfl|rfl
  .exact⟨_,hz,λv z=>(by cases z)⟩
  .exact⟨_,ha,λv z=>(by cases z)⟩
  .exact⟨_,hb,λv z=>(by cases z)⟩
  .exact⟨_,e1,λv z=>by rw[d1]at z;cases z⟩
  .exact⟨_,e2,λv z=>by rw[d2]at z;cases z⟩
 keep:=λk h h' st kk=>by
  obtain⟨hz,ha,⟨p,q,hb⟩,⟨o1,e1,r1⟩,⟨o2,e2,r2⟩⟩:=st
  exact⟨kk z (by simp) _ hz,kk a (by simp) _ ha,⟨p,q,kk b (by simp) _ hb⟩,⟨o1,kk i (by simp) _ e1,r1⟩,⟨o2,kk j (by simp) _ e2,r2⟩⟩
 item:=λX eP eW eK hcalm k pins s σ H E I hf st go=>by
  subst eP eW eK
  obtain⟨ys,hq,hk,hkx⟩:=go
  obtain⟨hz,ha,⟨p,q,hb⟩,h1,h2⟩:=st
  obtain⟨its,rv,ht,hzz⟩:=I.tuple hq
  have tap:=λc (hc:c∈[z,a,b,i,j])=>Nv I hq (hf c hc)
  have D:ZAp z a b i j t:=⟨D0.az,D0.bz,D0.iz,D0.jz,D0.ab,D0.ai,D0.aj,D0.bi,D0.bj,D0.ij,tap z (by simp),tap b (by simp),tap i (by simp),tap j (by simp)⟩
  have hy:ys[k]?=some ys[k]:=getElem?_eq_getElem hk
  obtain⟨u,eu,ru⟩:=rv.get hy
  have hc0:x.cps[k]?=some x.cps[k]:=Array.getElem?_eq_getElem hkx
  have hT:s.TypeIs (.ref z) "zip":=⟨_,hz,rfl⟩
  unfold pyNext
  refine wpAny_bind (wpAny_attempt (wpAny_callSpecial?_slot (name:=Str.ofString "__next__") hT slot_zip_next (wpAny_call_entry slot_zip_next hT entry_zip_next
   (Py D hz ha hb h1 h2 (show s.heap.IsTuple t its.toArray from ht) hc0 (by simpa using eu) λg n a1 a2 a3 a4 a5 a6 a7=>wpAny_pure ⟨_,rfl,?_⟩) (PySem.F.args_zip_next_1 _))))
  refine wpAny_letOwnedTupleGo_zip a1 λg' z' s'=>?_
  have hp:H s.heap.objs.size=none:=I.hok.fresh (le_refl _)
  have zlt:z<s.heap.objs.size:=lt_size hz
  have k':∀c o,c∉[z,b,i,j]->s.heap.get? c=some o->g'.get? c=some o:=λc o hc e=>by
   simp only[mem_cons,not_mem_nil,or_false,not_or]at hc
   exact s'.extBut _ _ hc.1 (a7 c o hc.1 hc.2.1 hc.2.2.1 hc.2.2.2 e)
  have pr:IsPair g' s.heap.objs.size (.str ⟨#[x.cps[k]]⟩ s.toks) u:=s'.extBut _ _ (ne_of_gt zlt) a5
  have ks:∀c∈[z,b,i,j],c∈[z,a,b,i,j]:=λc hc=>by
   simp only[mem_cons,not_mem_nil,or_false]at hc ⊢
   rcases hc with h|h|h|h<;>simp[h]
  have b':IsPair g' b (.str ⟨#[x.cps[k]]⟩ s.toks) u:=s'.extBut _ _ D.bz a2
  have i':g'.IsStrIter i Co x tk (k+1):=a3.extBut s'.extBut D.iz
  have j':g'.IsTupleIter j t (k+1):=by
   obtain⟨o,e,r⟩:=a4
   exact⟨o,s'.extBut _ _ D.jz e,r⟩
  have I1:Inv X pins σ (upd H s.heap.objs.size (.tup [.str ⟨#[x.cps[k]]⟩,ys[k]])) {s with heap:=g',toks:=n}:=I.turnedNew (ch:=[z,b,i,j]) (λc hc=>hf c (ks c hc)) k' (λc hc=>by
   simp only[mem_cons,not_mem_nil,or_false]at hc
   rcases hc with rfl|rfl|rfl|rfl
   .exact⟨_,z'⟩
   .exact⟨_,b'⟩
   .exact⟨_,i'.choose_spec.1⟩
   .exact⟨_,j'.choose_spec.1⟩) (le_refl _) (us:=[.str ⟨#[x.cps[k]]⟩ s.toks,u]) (.cons ⟨_,rfl⟩ (.cons ru .nil)) (by rw[sizeLine_eq];show 2<=16777216;decide) ⟨⟨_,pr,rfl,_,rfl⟩,_,pr,rfl⟩
  refine⟨.ref s.heap.objs.size,_,I1,rfl,⟨_,x.cps[k],ys[k],hp,rfl,rfl,hc0,λzs hzs=>?_⟩,⟨z',k' a _ (by simp[D0.az,D0.ab,D0.ai,D0.aj]) ha,⟨_,_,b'⟩,i',j'⟩,λc hc=>?_⟩
  .rw[I.tuple_inj hzs hq];exact hy
  .have hcn:=(hf c hc).1
   have:c≠s.heap.objs.size:=λe=>by
    obtain⟨o,eo⟩:∃o,s.heap.get? c=some o:=by
     simp only[mem_cons,not_mem_nil,or_false]at hc
     rcases hc with rfl|rfl|rfl|rfl|rfl
     .exact⟨_,hz⟩
     .exact⟨_,ha⟩
     .exact⟨_,hb⟩
     .exact⟨_,h1.choose_spec.1⟩
     .exact⟨_,h2.choose_spec.1⟩
    exact absurd (lt_size eo) (by rw[e];exact lt_irrefl _)
   rw[Ag this];exact hcn
 done:=λX eP eW eK hcalm k pins s σ H E I hf st stp=>by
  subst eP eW eK
  obtain⟨hz,ha,⟨p,q,hb⟩,h1,h2⟩:=st
  have stp:x.cps.size<=k:=stp
  have hT:s.TypeIs (.ref z) "zip":=⟨_,hz,rfl⟩
  unfold pyNext
  refine wpAny_bind (wpAny_attempt (wpAny_callSpecial?_slot (name:=Str.ofString "__next__") hT slot_zip_next (wpAny_call_entry slot_zip_next hT entry_zip_next
   (Q6 (I.ok.hd hcalm) D0.iz hz ha h1 (getElem?_eq_none stp) λg e kk he=>?_) (PySem.F.args_zip_next_1 _))))
  obtain⟨o,ho,hc⟩:=he
  refine wpAny_bind (wpAny_isInstance (T:="StopIteration") (b:=true) ⟨o,ho,hc⟩ isSubtype_stop (wpAny_pure ⟨rfl,?_⟩))
  refine I.turnedMany (t':=s.toks) (ch:=[z,b,i,j]) (λc hc=>hf c ?_) λc o hc e=>?_
  .simp only[mem_cons,not_mem_nil,or_false]at hc ⊢
   rcases hc with h|h|h|h<;>simp[h]
  .simp only[mem_cons,not_mem_nil,or_false,not_or]at hc
   exact kk c o hc.1 hc.2.1 hc.2.2.1 hc.2.2.2 e
 self:=λA k s Q E st hQ=>wpAny_pyIter_zip st.1 hQ
abbrev zs1(h:Heap)(x:Str)(tk:Tok):Heap:=h.push {cls:=.type (strIterType x),data:=.fields #[.str x tk,.int 0 0]}
abbrev zs2(h:Heap)(x:Str)(tk:Tok)(t:Addr):Heap:=(zs1 h x tk).push {cls:=.type "tuple_iterator",data:=.fields #[.ref t,.int 0 0]}
abbrev zs3(h:Heap)(x:Str)(tk:Tok)(t:Addr):Heap:=(zs2 h x tk t).push {cls:=.type "tuple",data:=.seq #[.ref h.objs.size,.ref (zs1 h x tk).objs.size]}
abbrev zs4(h:Heap)(x:Str)(tk:Tok)(t:Addr):Heap:=(zs3 h x tk t).push {cls:=.type "tuple",data:=.seq #[.none,.none]}
abbrev zs5(h:Heap)(x:Str)(tk:Tok)(t:Addr):Heap:=(zs4 h x tk t).push {cls:=.type "zip",data:=.fields #[.none,.bool false,.bool false,.ref (zs2 h x tk t).objs.size,.ref (zs3 h x tk t).objs.size]}
theorem P_(x:Str)(tk:Tok)(t:Addr)(ys:Array Value):Meets (Builtin.«zip.__new__» ⟨[.type "zip",.str x tk,.ref t],[]⟩) (λ_ R s=>s.heap.IsTuple t ys/\R (.ok (.ret (.ref (zs4 s.heap x tk t).objs.size))) {s with heap:=zs5 s.heap x tk t}):=
 .of_wp λprog w A R s h=>by
  obtain⟨hp,g,d,tk',os⟩:=s;obtain⟨hl,h⟩:=h
  have hsub:=sub_zip
  have hL:Heap.IsTuple (Shared.heap ⟨hp.push {cls:=.type (strIterType x),data:=.fields #[.str x tk,.int 0 0]},g,d,tk',os⟩) t ys:=by
   obtain⟨o,e,r⟩:=hl
   exact⟨o,get?_push_of_some _ e,r⟩
  wp_walk using wpAny_pyIter_strU,wpAny_pyIter_tuple hL
  exact⟨_,rfl,h⟩
theorem Le{t:Addr}{ys:Array Value}(hx:strIterType x=Co)(ht:s.heap.IsTuple t ys)
  (h:∀g,ZTn (s.heap.objs.size+4) (s.heap.objs.size+2) (s.heap.objs.size+3) s.heap.objs.size (s.heap.objs.size+1) t x tk 0 g->(∀c o,s.heap.get? c=some o->g.get? c=some o)->Q (.ref (s.heap.objs.size+4)) {s with heap:=g}):
  wpAny (model prog w) A (call (.type "zip") [.str x tk,.ref t]) Q E s:=by
 refine callType_new PySem.F.called_zip (by decide) (PySem.F.typeCall_zip_2 _ _) (PySem.F.newCall_zip_2 _ _) (λobj=>PySem.F.args_object_init_3 obj _ _) PySem.F.entry_zip_new (P_ x tk t ys) ⟨ht,?_⟩
 have z1:(zs1 s.heap x tk).objs.size=s.heap.objs.size+1:=size_push ..
 have z2:(zs2 s.heap x tk t).objs.size=s.heap.objs.size+2:=by rw[size_push,z1]
 have z3:(zs3 s.heap x tk t).objs.size=s.heap.objs.size+3:=by rw[size_push,z2]
 have z4:(zs4 s.heap x tk t).objs.size=s.heap.objs.size+4:=by rw[size_push,z3]
 have g5:(zs5 s.heap x tk t).get? (zs4 s.heap x tk t).objs.size=some _:=get?_push_size _ rfl
 have g4:(zs5 s.heap x tk t).get? (zs3 s.heap x tk t).objs.size=some _:=get?_push_of_some _ (get?_push_size _ rfl)
 have g3:(zs5 s.heap x tk t).get? (zs2 s.heap x tk t).objs.size=some _:=get?_push_of_some _ (get?_push_of_some _ (get?_push_size _ rfl))
 have g2:(zs5 s.heap x tk t).get? (zs1 s.heap x tk).objs.size=some _:=get?_push_of_some _ (get?_push_of_some _ (get?_push_of_some _ (get?_push_size _ rfl)))
 have g1:(zs5 s.heap x tk t).get? s.heap.objs.size=some _:=get?_push_of_some _ (get?_push_of_some _ (get?_push_of_some _ (get?_push_of_some _ (get?_push_size _ rfl))))
 show _/\_
 rw[z2,z3,z4]at g5
 rw[z1,z2]at g3
 rw[z3]at g4
 rw[z1]at g2
 rw[z4]
 rw[hx]at g1
 exact⟨⟨_,g5,rfl⟩,h _ ⟨g5,g3,⟨_,_,g4⟩,⟨_,g1,rfl,rfl⟩,⟨_,g2,rfl,rfl⟩⟩ λc o y=>get?_push_of_some _ (get?_push_of_some _ (get?_push_of_some _ (get?_push_of_some _ (get?_push_of_some _ y))))⟩
section
variable{a b:Expr}{p:Pos}
def zipD(q:Nat×PyData):PyData:=.tuple [.str ⟨#[q.1]⟩,q.2]
theorem P4{elts:List Expr}{x1}(ha:EV X G a (.str x))(hb:EV X G b (.tuple ds))(hx:strIterType x=Co)(hl:x.cps.size=ds.length)(hg:Gl X "zip")(hm:X.mg "zip"=none)
  (hs:starEach [a,b] X.env=[(false,eval a X.env),(false,eval b X.env)]:=by rfl)(hs2:starEach [b] X.env=[(false,eval b X.env)]:=by rfl):
  IV X G (.Tuple elts x1 tpos) (.Call (.Name "zip" p) [a,b] [] pos) ((x.cps.toList.zip ds).map zipD):=by
 intro pins s σ H R I ⟨h,q⟩
 refine Call_ (Dw I hg hm boot_zip (PyProof.Rows.callWith_type1 (thn (Aa ha (Aa hb Ac hs2) (by unfold Zst;rw[hs,hs2]) pos pins s σ H _ I ⟨h,λvs H' s' dv=>(⟨s',dv⟩:Same H H'/\DVs X.K H' vs [.str x,.tuple ds])⟩) λus s1 ⟨vs,H1,I1,r1,s1',dv⟩=>?_) (by rw[hs,hs2]) (by rw[hs2];rfl)))
 obtain⟨v1,v2,rfl,d1,d2⟩:=dv.two
 cases d1.of_str
 obtain⟨t,ys,rfl,hq,dys⟩:=d2.of_tup
 obtain⟨u1,u2,rfl,⟨tk,rfl⟩,ru2⟩:=vals2 r1
 cases ru2
 obtain⟨its,rv,ht,_⟩:=I1.tuple hq
 refine Le hx (show s1.heap.IsTuple t its.toArray from ht) λg zt kk=>?_
 refine wpAny_pyIter_zip zt.1 ?_
 have I2:Inv X pins σ H1 {s1 with heap:=g}:=I1.kept (t':=s1.toks) kk
 have sz:∀n,s1.heap.objs.size<=s1.heap.objs.size+n:=λn=>Nat.le_add_right _ _
 refine⟨_,_,_,_,H1,rfl,I2,P6 (K:=X.K) (x:=x) (t:=t) (tk:=tk) (z:=s1.heap.objs.size+4) (a:=s1.heap.objs.size+2) (b:=s1.heap.objs.size+3) (i:=s1.heap.objs.size) (j:=s1.heap.objs.size+1) ⟨?_,?_,?_,?_,?_,?_,?_,?_,?_,?_⟩,zt,λc hc=>?_,q _ H1 s1' ⟨λk H2 s2 hk=>?_,λk H2 v H3 s2 hk ⟨r,c,y,hr,ev,eH,ec,ey⟩=>?_,λk H2 s2 hk=>?_⟩⟩
 all_goals first
  |exact ne_of_lt (Nat.add_lt_add_left (by decide) _)
  |exact ne_of_gt (Nat.add_lt_add_left (by decide) _)
  |exact ne_of_lt (Nat.lt_add_of_pos_right (by decide))
  |exact ne_of_gt (Nat.lt_add_of_pos_right (by decide))
  |skip
 .simp only[mem_cons,not_mem_nil,or_false]at hc
  rcases hc with rfl|rfl|rfl|rfl|rfl
  .exact I1.fpOk (sz 4) (I1.hok.fresh (sz 4))
  .exact I1.fpOk (sz 2) (I1.hok.fresh (sz 2))
  .exact I1.fpOk (sz 3) (I1.hok.fresh (sz 3))
  .exact I1.fpOk (le_refl _) (I1.hok.fresh (le_refl _))
  .exact I1.fpOk (sz 1) (I1.hok.fresh (sz 1))
 .have hk':k<ds.length:=by
   rw[length_map,length_zip,length_toList,hl]at hk
   omega
  exact⟨ys,s2.seqT hq,by rw[dys.length];exact hk',by rw[hl];exact hk'⟩
 .have hk':k<ds.length:=by
   rw[length_map,length_zip,length_toList,hl]at hk
   omega
  subst ev eH
  have e1:=ey ys (s2.seqT hq)
  obtain⟨d,e2,e3⟩:=dys.get' e1
  refine⟨Same.new hr,zipD (c,d),?_,.tup (SqT.of Ah) (.cons (.str _) (.cons ((e3.mono s2).mono (Same.new hr)) .nil))⟩
  rw[getElem?_map,show(x.cps.toList.zip ds)[k]?=some (c,d)from by
   rw[List.getElem?_zip_eq_some]
   exact⟨by simpa using ec,e2⟩]
  rfl
 .show x.cps.size<=k
  rw[length_map,length_zip,length_toList,hl]at hk
  omega
end
end L2
namespace PySem.SeqAt
open AutoSeq1 (wpAny_loadPart')
open MeetsSeq MeetsSeq2 MeetsSeq3 SeqRoads2
theorem tuple_index1(l:Addr)(items:Array Value)(n:Nat)(dd:Option Addr)(sl:Array (Option Value))(x:Value)(e:Nat->Bool)(j:Nat)(hj:j<items.size)(hit:e j=true)(hno:∀m,m<j->e m=false):
  Meets (Builtin.«tuple.index» ⟨[.ref l,x],[]⟩)
   (λA R s=>s.heap.get? l=some {cls:=.type "tuple",dict:=dd,data:=.seq items n,slots:=sl}/\(∀k (h:k<items.size),EqAt A.in1 s items[k] x (e k))/\R (.ok (.ret (.int j s.toks))) {s with toks:=s.toks+1}):=
 .of_wp λprog w A R s h=>by
  obtain⟨hp,g,d,tk,os⟩:=s;obtain⟨hl,he,h⟩:=h
  wp_walk using wpAny_loadPart' hl
  change wpAny (model prog w) A.in1 (forIn (m:=Sem) [:min items.size items.size] ((none,()):Option Fin×Unit) (λ(i:Nat) _=>match items[i]? with
   |some y=>do
    let r <-eqBool y x
    if r=true then do
     let v <-retInt (i:Int)
     pure (ForInStep.done (some v,()))
    else pure (yield (none,()))
   |_=>pure (yield (none,())))) _ _ _
  rw[Std.Legacy.Range.forIn_eq_forIn_range']
  have hr:List.range' [:min items.size items.size].start [:min items.size items.size].size [:min items.size items.size].step=range items.size:=by
   simp[Std.Legacy.Range.size,List.range_eq_range']
  rw[hr]
  refine wpAny_forIn_list _ (λrest b s'=>b.1=none/\s'=⟨hp,g,d,tk,os⟩/\∃i,i<=j/\rest=(range items.size).drop i) _ ?_ ?_ _ _ ⟨rfl,rfl,0,zero_le _,by simp⟩
  .rintro k rest b s' ⟨hb,rfl,i,hij,hz⟩
   have hlt:i<items.size:=by omega
   have hd:(range items.size).drop i=i::(range items.size).drop (i+1):=by simp[List.drop_eq_getElem_cons,hlt]
   rw[hd]at hz
   injection hz with h1 h2
   subst h1
   have hi:items[k]?=some items[k]:=Array.getElem?_eq_getElem hlt
   rw[hi]
   refine wpAny_bind (he k hlt prog w _ _ ?_)
   by_cases hk:k=j
   .subst hk
    rw[hit]
    wp_walk
    exact⟨_,rfl,h⟩
   .rw[hno k (by omega)]
    wp_walk
    exact⟨rfl,rfl,k+1,by omega,h2⟩
  .rintro⟨b1,b2⟩ s' ⟨hb,rfl,i,hij,hz⟩
   have hlt:i<items.size:=by omega
   have hd:(range items.size).drop i=i::(range items.size).drop (i+1):=by simp[List.drop_eq_getElem_cons,hlt]
   rw[hd]at hz
   cases hz
end PySem.SeqAt
namespace L2
open PySem PySem.Spec PyProof.Rows
def GTup(K:Frag)(mg:Str->Option Value)(x:Str)(ss:List Str):Prop:=
 ∃(a:Addr) (o:Obj) (its:Array Value) (n:Nat),mg x=some (.ref a)/\K.lookup a=some o/\o.cls=.type "tuple"/\o.dict=none/\o.data=.seq its n/\its.size<=sizeLine/\Vals (ss.map V.str) its.toList
def FE(K:Frag)(mg:Str->Option Value)(P:Params)(x:Str)(tab:List (Str×PyData)):Prop:=
 ∃(a:Addr) (es:Array DictEntry) (n:Nat),mg x=some (.ref a)/\K.lookup a=some ⟨.type "dict",none,.dict es n,#[]⟩/\KeysLit P es.toList/\∀q∈tab,∃u v,nsIn K a q.1=some (some u)/\RelV v u/\∀H,DV K H v q.2
variable{K:Frag}{H:Hp}
theorem DVs.strs:∀(ss:List Str),DVs K H (ss.map V.str) (ss.map PyData.str)
 |[]=>.nil
 |x::r=>.cons (.str x) (DVs.strs r)
variable{X:Cx}{G:Gam}{a b e:Expr}{pos p2:Pos}{d:PyData}{x:Str}
section
variable{p:Pos}
theorem IS{ss:List Str}(T:GTup X.K X.mg x ss)(hg:Gl X x)(hd:(x==("__debug__":Str))=false:=by decide):EV X G (.Name x pos) (.tuple (ss.map str)):=by
 obtain⟨ad,o,its,n,hm,hk,hc,hd0,hs,hz,r⟩:=T
 exact(FY (v:=.ref ad) hg hm rfl hd).imp λσ H Q ⟨h,q⟩=>q _ H (Same.refl H) (.tup (.inr ⟨o,its,n,hk,hc,hs,hd0,hz,r⟩) (DVs.strs ss))
theorem Bw{tab:List (Str×PyData)}{s:Str}(T:FE X.K X.mg X.w.params x tab)(hg:Gl X x)(he:EV X G e (.str s))(hs:(s,d)∈tab)(hp:Gh e:=by intro _ _;rfl)(hd:(x==("__debug__":Str))=false:=by decide):EV X G (.Subscript (.Name x p) e pos) d:=by
 obtain⟨ad,es,n,hm,hk,hl,ht⟩:=T
 obtain⟨u,v,h1,h2,h3⟩:=ht _ hs
 have ir:IxR X (λy z H Q=>y=.ref ad/\z=.str s/\Q v H):=by
  intro value slice pins s1 σ H y z vy vz Q I ry rz ⟨e1,e2,q⟩ hsub
  subst e1 e2
  cases ry
  obtain⟨t,rfl⟩:=rz
  have mo:=PySem.W.mapOf_K (prog:=X.prog) (w:=X.w) I.kIn hk hl
  exact tail_any mo.typeIs slot_dict_getitem.lookup (wpAny_getItem_of (strKind_is X.prog X.w s t) mo (find_K hk h1) ⟨v,H,I.tok _,h2,q⟩) hsub
 exact(Q7 ir (FY (v:=.ref ad) hg hm rfl hd) he hp).imp λσ H Q ⟨h,q⟩=>⟨h,λy H1 s1 d1=>⟨rfl,d1.of_str,q v H1 s1 (h3 H1)⟩⟩
theorem NU{i j:Str}{k:Bool}(hk:(!(Builtin.Str.occurrences j i 0 j.length 1).isEmpty)=k):OD X (compareOp .In) (.str i) (.str j) (.bool k):=
 op_in_str.imp λy z H Q ⟨h1,h2,q⟩=>⟨i,j,h1.of_str,h2.of_str,q _ H (Same.refl H) (by rw[hk];exact .bl k)⟩
theorem Qz{ss:List Str}{s:Str}{j:Nat}{apos:Pos}(T:GTup X.K X.mg x ss)(hg:Gl X x)(he:EV X G e (.str s))(hj:ss[j]?=some s)(hno:∀m,m<j->ss[m]?≠some s)(hd:(x==("__debug__":Str))=false:=by decide)
  (hb:attributeBase (.Name x p2) "index" X.env (eval (.Name x p2) X.env)=eval (.Name x p2) X.env:=by rfl)
  (hfew:((backTo pos (starEach [e] X.env)).all (λx=>!x.1)&&(backToKw pos (keywordEach [] X.env)).all (λx=>x.1.isSome)
   &&decide ([e].length+([]:List Keyword).length+(if([]:List Keyword).isEmpty then 0 else 1)<30))=true:=by rfl)
  (hline:(apos.endLine==pos.line)=true:=by rfl)(hs:starEach [e] X.env=(false,eval e X.env)::starEach [] X.env:=by rfl)(hpl:(backTo pos (starEach [] X.env)).any (·.1)=false:=by rfl):
  EV X G (.Call (.Attribute (.Name x p2) "index" apos) [e] [] pos) (.int j):=by
 obtain⟨ad,o,its,n,hm,hk,hc,hdn,hsq,hz,r⟩:=T
 have mr:MtR X "tuple.index" (λy ys H Q=>y=.ref ad/\ys=[.str s]/\Q (.int j) H):=by
  intro pins s1 σ H y ys v us Q I ry rys ⟨e1,e2,q⟩
  subst e1 e2
  cases ry
  obtain⟨u,rfl,ru⟩:=vals1 rys
  have hjl:j<ss.length:=(List.getElem?_eq_some_iff.mp hj).1
  have hsz:its.size=ss.length:=by
   have:=r.length
   rw[length_map,length_toList]at this
   exact this.symm
  have ho:=I.kIn ad o hk
  obtain⟨oc,od,odt,osl⟩:=o
  simp only at hc hdn hsq
  subst hc hdn hsq
  refine call_meets PySem.F.slot_tuple_index ⟨_,ho,rfl⟩ PySem.F.entry_tuple_index (PySem.F.args_tuple_index_2 _ _) (PySem.SeqAt.tuple_index1 ad its n none osl u (λk=>decide (ss[k]?=some s)) j (by rw[hsz];exact hjl) (decide_eq_true hj) (λm hm=>decide_eq_false (hno m hm)))
   ⟨ho,λk hk2=>?_,⟨.int j,H,I.tok _,⟨_,rfl⟩,q⟩⟩
  have hk3:k<ss.length:=by rw[<-hsz];exact hk2
  obtain⟨u2,eu,ru2⟩:=r.get (i:=k) (x:=V.str ss[k]) (by simp[hk3])
  have e3:its[k]=u2:=by
   have:its.toList[k]?=some its[k]:=by simp[hk2]
   rw[this]at eu
   exact Option.some.inj eu
  rw[e3]
  have:=Kt (A:=X.A.in1) (s:=s1) ru2 ru rfl rfl
  have e4:eqV (.str ss[k]) (.str s)=decide (ss[k]?=some s):=by
   show(ss[k]==s)=_
   rw[Bool.eq_iff_iff]
   simp[hk3]
  rw[<-e4]
  exact this
 refine(Jg PySem.F.plainAttrs_tuple PySem.F.slot_tuple_index PySem.F.type_tuple_index mr (FY (v:=.ref ad) hg hm rfl hd) (Aa he Ac hs) hb hfew hline hs hpl).imp λσ H Q ⟨h,q⟩=>⟨.inr (.inl ⟨rfl,o,hk,hc,hdn⟩),h,λvs H1 s1 d1=>?_⟩
 obtain⟨v,rfl,dv⟩:=d1.one
 exact⟨rfl,by rw[dv.of_str],q _ H1 s1 (.int j)⟩
def UG(x:Str):It:=⟨λk _=>k<x.cps.size,λk H v H'=>H'=H/\∃c,x.cps[k]?=some c/\v=.str ⟨#[c]⟩,λk _=>x.cps.size<=k⟩
theorem P5{P:Program}{w:World}{tg:Expr}(it:Addr)(x:Str)(tk:Tok):Turn P w K tg (UG x) [it] it (λk h=>h.IsStrIter it Co x tk k)where
 mem:=by simp
 obj:=λk h st c hc=>by
  obtain⟨o,e,_,d⟩:=st
  have:c=it:=by simpa using hc
  subst this
  exact⟨o,e,λv z=>by rw[d]at z;cases z⟩
 keep:=λk h h' st kk=>by
  obtain⟨o,e,r⟩:=st
  exact⟨o,kk it (by simp) _ e,r⟩
 item:=λX eP eW eK hcalm k pins s σ H E I hf st go=>by
  subst eP eW eK
  have go:k<x.cps.size:=go
  have hc0:x.cps[k]?=some x.cps[k]:=Array.getElem?_eq_getElem go
  refine wpAny_pyNext_ascii_item st hc0 λh' st' sb=>⟨_,rfl,?_⟩
  obtain⟨o,ho,hcl,hd⟩:=st'
  obtain⟨f0,f1,f2,f3,f4,f5⟩:=hf it (by simp)
  refine Qq ho hcl hd (by decide+kernel) ⟨.str ⟨#[x.cps[k]]⟩,H,I.turned (t':=s.toks+1) (it:=it) (λb o hb e=>sb.extBut b o hb e) f0 f1 f3 f4 f5,⟨_,rfl⟩,⟨rfl,_,hc0,rfl⟩,⟨o,ho,hcl,hd⟩,λb hb=>(hf b hb).1⟩
 done:=λX eP eW eK hcalm k pins s σ H E I hf st stp=>by
  subst eP eW eK
  have stp:x.cps.size<=k:=stp
  obtain⟨f0,f1,f2,f3,f4,f5⟩:=hf it (by simp)
  exact wpAny_pyNext_ascii_end (I.ok.hd hcalm) st (getElem?_eq_none stp) λh' ex=>⟨rfl,I.turned (t':=s.toks) (it:=it) (λb o hb e=>ex b o hb e) f0 f1 f3 f4 f5⟩
 self:=λA k s Q E st hQ=>wpAny_pyIter_striter_ascii st hQ
def Of(c:Nat):PyData:=.str ⟨#[c]⟩
theorem Tc{tg:Expr}(ha:EV X G a (.str x))(hx:strIterType x=Co):IV X G tg a (x.cps.toList.map Of):=by
 intro pins s σ H R I ⟨h,q⟩
 refine thn (ha pins s σ H (λv H'=>Same H H'/\DV X.K H' v (.str x)) I ⟨h,λv H' s' dv=>⟨s',dv⟩⟩) λv s1 ⟨y,H1,I1,r1,s1',dv⟩=>?_
 cases dv.of_str
 obtain⟨tk,rfl⟩:=r1
 refine wpAny_pyIter_strU ?_
 rw[hx]
 refine⟨s1.heap.objs.size,[s1.heap.objs.size],_,_,H1,rfl,I1.kept (t':=s1.toks) λb o e=>get?_push_of_some _ e,P5 s1.heap.objs.size x tk,⟨_,get?_push_size _ rfl,rfl,rfl⟩,λb hb=>?_,q _ H1 s1' ⟨λk H2 s2 hk=>?_,λk H2 v H3 s2 hk ⟨e,c,ec,ev⟩=>?_,λk H2 s2 hk=>?_⟩⟩
 .have e:b=s1.heap.objs.size:=by simpa using hb
  subst e
  exact I1.fpOk (le_refl _) (I1.hok.fresh (le_refl _))
 .rw[length_map,length_toList]at hk
  exact hk
 .subst e ev
  refine⟨Same.refl _,Of c,?_,.str _⟩
  rw[getElem?_map,show x.cps.toList[k]?=some c from by simpa using ec]
  rfl
 .rw[length_map,length_toList]at hk
  exact hk
end
def tFR(K:Frag)(G:Gam)(ws:List PyData):TS:=λD σ H=>SD K H σ G/\∀p us H',H p=none->Same H H'->H' p=some (.lst us)->DVs K H' us ws->D.rt (.ref p) H'
abbrev FRs(X:Cx)(G:Gam)(sts:List Stmt)(ws:List PyData):Prop:=PSs X sts (tFR X.K G ws)
def spFL(K:Frag)(F:List PyData->List PyData->Prop):Sp:=λvs H Q _=>∃ds ws,DVs K H vs ds/\F ds ws/\∀p us H',H p=none->Same H H'->H' p=some (.lst us)->DVs K H' us ws->Q (.ref p) H'
def FFn(P:Program)(w:World)(K:Frag)(mg:Str->Option Value)(base:Heap)(k:Nat)(x:Str)(F:List PyData->List PyData->Prop):Prop:=
 ∃f fd ps,FnOk P w K mg base CX0 k f fd ps (spFL K F)/\mg x=some (.ref f)/\keepIn K (.ref f)=true/\Binds K fd ps []
variable{P:Program}{w:World}{mg:Str->Option Value}{base:Heap}
theorem FFn.data{k:Nat}{F:List PyData->List PyData->Prop}(h:FFn P w K mg base k x F):DFn P w K mg base k x (λds d=>∃ws,F ds ws/\d=.list ws):=by
 obtain⟨f,fd,ps,ok,r⟩:=h
 exact⟨f,fd,ps,ok.imp λvs H Q E ⟨ds,d,h1,⟨ws,h2,e⟩,q⟩=>⟨ds,ws,h1,h2,λp us H' hp s' hl dv=>q _ H' s' (by rw[e];exact .lst (SqL.of hl) dv)⟩,r⟩
variable{c:Expr}{es:List Expr}{pos' pos2:Pos}{ws:List PyData}{sts:List Stmt}
section
variable{A B:List Stmt}
theorem Oy(h:AV X G es ws)(hz:ws.length<=sizeLine):FRs X G (.Return (some (.List es pos2)) pos::sts) ws:=
 (As (Ek (Ip h)) (A2 (sts:=sts))).imp λD σ H ⟨h,q⟩=>⟨h,λvs H1 s1 d1=>⟨by rw[d1.length];exact hz,λp hp=>q p vs _ (s1.free hp) (s1.trans (Same.new hp)) Ah (d1.mono (Same.new hp))⟩⟩
theorem Mp{st:Stmt}{G1:Gam}(h1:SV X G st (.next G1))(h2:FRs X G1 sts ws):FRs X G (st::sts) ws:=
 (As h1 h2).imp λD σ H ⟨h,q⟩=>⟨h,λσ' H' s' h'=>⟨h',λp us H2 hp s2 hl dv=>q p us H2 (s'.free hp) (s'.trans s2) hl dv⟩⟩
theorem T7(hc:TV X G c true)(h1:FRs X G A ws):FRs X G (.If c A B pos::sts) ws:=
 (As (BG hc h1 (A2 (sts:=B))) (A2 (sts:=sts))).imp λD σ H ⟨h,q⟩=>⟨h,λH1 s1=>iteT ⟨h.mono s1,λp us H2 hp s2 hl dv=>q p us H2 (s1.free hp) (s1.trans s2) hl dv⟩⟩
end
theorem Fun.dataF{qual:Str}{st:Stmt}{f:Addr}{fd:FuncData}{N ps:List Str}{k:Nat}{F:List PyData->List PyData->Prop}(F0:Fun K x qual st f fd)(hm:mg x=some (.ref f))(hb:Binds K fd ps [])(S:FnScope N ps (Ad st))(len:∀ds d,F ds d->ds.length=ps.length)
  (hbody:∀(cdv:Value) (A:Around) (outer:List Env) (s:Shared) (H:Hp) (E:XK) (ds ws:List PyData),Room k (A.deeper (envOfC qual (Ad st) s.heap.objs.size f cdv))->F ds ws->
   FRs (cxOf CX0 P w K mg base N qual (Ad st) f cdv A outer s H E).nox (AT N ds) (AB st) ws):FFn P w K mg base (k+1) x F:=
 ⟨f,fd,ps,F0.ok S (λvs H Q E ⟨ds,d,h1,h2,_⟩=>h1.length.trans (len ds d h2)) (λcdv A outer s H vs Q E hr ⟨ds,ws,h1,h2,q⟩=>⟨_,hbody cdv A outer s H E ds ws hr h2,SD.start h1,q⟩),hm,F0.kp,hb⟩
variable{G2:Gam}{ds:List PyData}{i:Nat}{y:Str}
def tDF(K:Frag)(G:Gam)(ws:List PyData):TE:=λσ H Q=>SD K H σ G/\∀p us H',H p=none->Same H H'->H' p=some (.lst us)->DVs K H' us ws->Q (.ref p) H'
abbrev EVF(X:Cx)(G:Gam)(e:Expr)(ws:List PyData):Prop:=PE X e (tDF X.K G ws)
variable{da:PyData}
theorem CU{j pos'}{k:Bool}(ha:EV X G a da)(hk:nonD da=k):TV X G (.Compare a [.Is] [.Constant .none j pos'] pos) k:=
 (T5 (TN ha)).imp λσ H Q ⟨h,q⟩=>⟨h,λv H' s' dv=>⟨k,by rw[dv.isNon,hk],q H' s'⟩⟩
def Mn:List Str->List Value->Bool
 |[],[]=>true
 |s::r,v::q=>v.isStr s&&Mn r q
 |_,_=>false
def valB:Value->PyData->Bool
 | .str x _,.str y=>x==y
 | .int i _,.int j=>i==j
 |_,_=>false
def tabB:List (Str×PyData)->List DictEntry->Bool
 |[],[]=>true
 |q::r,e::es=>e.key.isStr q.1&&valB e.val q.2&&tabB r es
 |_,_=>false
theorem EY{v:Value}{s:Str}(h:v.isStr s=true):∃t,v=.str s t:=by
 cases v with
 |str x t=>exact⟨t,by rw[eq_of_beq (show(x==s)=true from h)]⟩
 |_=>cases h
theorem Hf:∀{ss:List Str}{us:List Value},Mn ss us=true->Vals (ss.map V.str) us
 |[],[],_=>.nil
 |s::r,v::q,h=>by
  have h:=Bool.and_eq_true_iff.mp (show(v.isStr s&&Mn r q)=true from h)
  exact .cons (EY h.1) (Hf h.2)
 |[],_::_,h=>by cases h
 |_::_,[],h=>by cases h
variable{h:Heap}{ss:List Str}{n:Nat}
theorem gtup_mk(X:K.In h)(G:h.Ns mainGlobals mg){a:Addr}{its:Array Value}{sl:Array (Option Value)}
  (z:nsIn K mainGlobals x=some (some (.ref a)))(l:K.lookup a=some ⟨.type "tuple",none,.seq its n,sl⟩)(hs:decide (its.size<=1000)=true)(hv:Mn ss its.toList=true):GTup K mg x ss:=
 ⟨a,_,its,n,mg_of X G z,l,rfl,rfl,rfl,by rw[sizeLine_eq];have:=of_decide_eq_true hs;omega,Hf hv⟩
theorem O8{u:Value}(h:valB u d=true):∃v,RelV v u/\∀(K:Frag) H,DV K H v d:=by
 cases u with
 |str x t=>cases d with
  |str y=>exact⟨.str y,⟨t,by rw[eq_of_beq (show(x==y)=true from h)]⟩,λ_ _=>.str y⟩
  |_=>cases h
 |int x t=>cases d with
  |int y=>exact⟨.int y,⟨t,by rw[eq_of_beq (show(x==y)=true from h)]⟩,λ_ _=>.int y⟩
  |_=>cases h
 |_=>cases h
theorem HZ:∀{tab:List (Str×PyData)}{es:List DictEntry},tabB tab es=true->(tab.map (·.1)).Nodup->∀q∈tab,∃e,es.find? (·.key.isStr q.1)=some e/\valB e.val q.2=true
 |[],[],_,_,q,hq=>by cases hq
 |[],_::_,h,_,_,_=>by cases h
 |_::_,[],h,_,_,_=>by cases h
 |p::r,e::es,h,hn,q,hq=>by
  have h:=Bool.and_eq_true_iff.mp (show(e.key.isStr p.1&&valB e.val p.2&&tabB r es)=true from h)
  have h1:=Bool.and_eq_true_iff.mp h.1
  rw[map_cons,nodup_cons]at hn
  rcases mem_cons.mp hq with rfl|hq
  .exact⟨e,by rw[find?_cons,h1.1],h1.2⟩
  .obtain⟨e',f1,f2⟩:=HZ h.2 hn.2 q hq
   refine⟨e',?_,f2⟩
   have:e.key.isStr q.1=false:=by
    obtain⟨t,e1⟩:=EY h1.1
    rw[e1]
    refine beq_eq_false_iff_ne.mpr λc=>hn.1 ?_
    rw[c]
    exact mem_map.mpr ⟨q,hq,rfl⟩
   rw[find?_cons,this]
   exact f1
theorem gdict_mk{P:Params}(X:K.In h)(G:h.Ns mainGlobals mg){tab:List (Str×PyData)}{a:Addr}{es:Array DictEntry}
  (z:nsIn K mainGlobals x=some (some (.ref a)))(l:K.lookup a=some ⟨.type "dict",none,.dict es n,#[]⟩)(hk:KeysLit P es.toList)(ht:tabB tab es.toList=true)(hn:(tab.map (·.1)).Nodup):FE K mg P x tab:=
 ⟨a,es,n,mg_of X G z,l,hk,λq hq=>by
   obtain⟨e,h1,h2⟩:=HZ ht hn q hq
   obtain⟨v,r,d⟩:=O8 h2
   exact⟨e.val,v,by unfold nsIn;rw[l];simp only;rw[h1],r,λH=>d K H⟩⟩
def TabV(K:Frag)(H:Hp):List (Key×V)->List (Str×PyData)->Prop
 |[],[]=>True
 |kv::r,q::t=>kv.1=.inr q.1/\DV K H kv.2 q.2/\TabV K H r t
 |_,_=>False
mutual
def noK:PyData->Bool
 | .none=>true
 | .bool _=>true
 | .int _=>true
 | .str _=>true
 | .tuple xs=>noKs xs
 | .list xs=>noKs xs
 | .dict _=>false
def noKs:List PyData->Bool
 |[]=>true
 |x::r=>noK x&&noKs r
end
variable{p:Addr}
theorem Gi{a:Addr}{kvs:List (Key×V)}{o:HO}(hp:H p=some (.dK kvs))(e:H a=some o)(n:∀k,o≠.dK k):a≠p:=λc=>by subst c;rw[hp]at e;cases e;exact n _ rfl
mutual
theorem DV.noDict{K:PySem.W.Frag}{H H':Hp}{p:Addr}{kvs:List (Key×V)}(hp:H p=some (.dK kvs))(hH:∀a,a≠p->H' a=H a):∀{v:V}{d:PyData},DV K H v d->noK d=true->DV K H' v d
 |_,_,.non,_=>.non
 |_,_,.bl b,_=>.bl b
 |_,_,.int i,_=>.int i
 |_,_,.str x,_=>.str x
 |_,_,.tup (a:=a) h t,f=>by
  refine .tup ?_ (DVs.noDict hp hH t (by unfold noK at f;exact f))
  rcases h with(h|⟨o,h⟩)|h
  .exact .inl (.inl (by rw[hH a (Gi hp h λ_ c=>by cases c)];exact h))
  .exact .inl (.inr ⟨o,by rw[hH a (Gi hp h λ_ c=>by cases c)];exact h⟩)
  .exact .inr h
 |_,_,.lst (a:=a) h t,f=>by
  refine .lst ?_ (DVs.noDict hp hH t (by unfold noK at f;exact f))
  rcases h with(h|⟨o,h⟩)|h
  .exact .inl (.inl (by rw[hH a (Gi hp h λ_ c=>by cases c)];exact h))
  .exact .inl (.inr ⟨o,by rw[hH a (Gi hp h λ_ c=>by cases c)];exact h⟩)
  .exact .inr h
 |_,_,.dct h t,f=>by unfold noK at f;cases f
 |_,_,.exc h,f=>by unfold noK at f;cases f
 |_,_,.exr h h',f=>by unfold noK at f;cases f
 |_,_,.obj h n t,f=>by unfold noK at f;cases f
 |_,_,.dtt h,f=>by unfold noK at f;cases f
theorem DVs.noDict{K:PySem.W.Frag}{H H':Hp}{p:Addr}{kvs:List (Key×V)}(hp:H p=some (.dK kvs))(hH:∀a,a≠p->H' a=H a):∀{v:List V}{d:List PyData},DVs K H v d->noKs d=true->DVs K H' v d
 |_,_,.nil,_=>.nil
 |_,_,.cons h t,f=>by
  unfold noKs at f
  rw[Bool.and_eq_true]at f
  exact .cons (DV.noDict hp hH h f.1) (DVs.noDict hp hH t f.2)
end
def UO(t:List (Str×PyData))(s:Str):Option PyData:=(t.find? λq=>q.1==s).map (·.2)
variable{apos:Pos}{keys:List (Option Expr)}{tab:List (Str×PyData)}
section
variable{f:Expr}{p:Pos}{d0:PyData}{values:List Expr}
end
section
variable{o:Expr}{p:Pos}
theorem DVs.of_strs:∀{ss:List Str}{vs:List V},DVs K H vs (ss.map PyData.str)->vs=ss.map V.str
 |[],_,.nil=>rfl
 |a::r,_,.cons h t=>by rw[h.of_str,DVs.of_strs t];rfl
theorem MD{s:Str}{j:Nat}(ho:EV X G o (.list (ss.map str)))(he:EV X G e (.str s))(hj:ss[j]?=some s)(hno:∀m,m<j->ss[m]?≠some s)
  (hb:attributeBase o "index" X.env (eval o X.env)=eval o X.env:=by rfl)
  (hfew:((backTo pos (starEach [e] X.env)).all (λx=>!x.1)&&(backToKw pos (keywordEach [] X.env)).all (λx=>x.1.isSome)
   &&decide ([e].length+([]:List Keyword).length+(if([]:List Keyword).isEmpty then 0 else 1)<30))=true:=by rfl)
  (hline:(apos.endLine==pos.line)=true:=by rfl)(hs:starEach [e] X.env=(false,eval e X.env)::starEach [] X.env:=by rfl)(hpl:(backTo pos (starEach [] X.env)).any (·.1)=false:=by rfl):
  EV X G (.Call (.Attribute o "index" apos) [e] [] pos) (.int j):=by
 have hjl:j<ss.length:=(List.getElem?_eq_some_iff.mp hj).1
 have mr:MtR X "list.index" (λy ys H Q=>∃l,y=.ref l/\SqL X.K H l (ss.map V.str)/\ys=[.str s]/\Q (.int j) H):=by
  intro pins s1 σ H y ys v us Q I ry rys ⟨l,e1,hl,e2,q⟩
  subst e1 e2
  cases ry
  obtain⟨u,rfl,ru⟩:=vals1 rys
  obtain⟨its,r,⟨ob,n,h1,h2,h3,h4⟩,hz⟩:=I.list hl
  obtain⟨oc,od,odt,osl⟩:=ob
  simp only at h2 h3 h4
  subst h2 h3 h4
  have hlen:its.length=ss.length:=by rw[<-r.length,length_map]
  rw[length_map,sizeLine_eq]at hz
  have get:∀m (hm:m<its.toArray.size),∃t,its.toArray[m]=Value.str (ss[m]'(by simpa[hlen]using hm)) t:=by
   intro m hm
   have hm2:m<ss.length:=by simpa[hlen]using hm
   obtain⟨u2,eu,t,ru2⟩:=r.get (i:=m) (x:=V.str ss[m]) (by simp[hm2])
   refine⟨t,?_⟩
   rw[<-ru2]
   have hm3:m<its.length:=by rw[hlen];exact hm2
   rw[getElem?_eq_getElem hm3]at eu
   simpa using Option.some.inj eu
  have hjs:j<its.toArray.size:=by simpa[hlen]using hjl
  refine call_meets PySem.F.slot_list_index ⟨_,h1,rfl⟩ PySem.F.entry_list_index (PySem.F.args_list_index_2 _ _) (PySem.SeqAt.list_indexAt l its.toArray n none osl u (λy=>y.isStr s) j hjs (by omega) ?_ ?_)
   ⟨h1,λy hy=>?_,⟨.int j,H,I.tok _,⟨_,rfl⟩,q⟩⟩
  .obtain⟨t,et⟩:=get j hjs
   simp only[et]
   show(_==s)=true
   have:=(List.getElem?_eq_some_iff.mp hj).2
   simpa using this
  .intro m hm hlt
   obtain⟨t,et⟩:=get m hm
   simp only[et]
   show(_==s)=false
   have hm2:m<ss.length:=by simpa[hlen]using hm
   refine beq_eq_false_iff_ne.mpr λc=>hno m hlt ?_
   rw[getElem?_eq_getElem hm2,c]
  .obtain⟨m,hm,em⟩:=Array.getElem_of_mem hy
   obtain⟨t,et⟩:=get m hm
   rw[<-em,et]
   have rr:RelV (.str (ss[m]'(by simpa[hlen]using hm))) (Value.str (ss[m]'(by simpa[hlen]using hm)) t):=⟨t,rfl⟩
   exact Kt (A:=X.A.in1) (s:=s1) rr ru rfl rfl
 refine(Jg plainAttrs_list PySem.F.slot_list_index PySem.F.type_list_index mr ho (Aa he Ac hs) hb hfew hline hs hpl).imp λσ H Q ⟨h,q⟩=>⟨h,λv H1 s1 d1=>?_⟩
 obtain⟨l,us,rfl,hl,d2⟩:=d1.of_lst
 refine⟨.inl ⟨rfl,us,hl⟩,h.mono s1,λvs H2 s2 d3=>?_⟩
 obtain⟨v,rfl,dv⟩:=d3.one
 exact⟨l,rfl,by rw[<-d2.of_strs];exact s2.seq hl,by rw[dv.of_str],q _ H2 (s1.trans s2) (.int j)⟩
end
variable{H0:Hp}{j:Nat}{Pre Post:Gam->List PyData->Prop}{xs ys:List PyData}
section
variable{Mid:Gam->List PyData->Prop}
theorem ES(h:AV X G es ws)(hz:ws.length<=sizeLine):EVF X G (.List es pos) ws:=
 (Ip h).imp λσ H Q ⟨h,q⟩=>⟨h,λvs H1 s1 d1=>⟨by rw[d1.length];exact hz,λp hp=>q p vs _ (s1.free hp) (s1.trans (Same.new hp)) Ah (d1.mono (Same.new hp))⟩⟩
theorem QN(h:∀G ds,Pre G ds->SVs X (Ed G i ds) sts (.ret d)):HRs X H0 p i Pre sts (λz=>z=d):=by
 intro pins s σ H D I ⟨⟨G,ds,a,o⟩,q⟩
 refine h G ds a pins s σ H D I ⟨o.sd,λv H' s' dv=>q d v H' rfl ?_ dv⟩
 obtain⟨Hb,vs,rfl,hn,s0,_⟩:=o
 exact(s0.trans (Same.new hn)).trans s'
theorem Q_(hN:X.N.Nodup)(hi:X.N[i]?=some x)(hx:Loc X.env.scope x)(hG:i<G.length)(h:∀H0 p,HRs X H0 p i (λG' ds=>G'=G.set i none/\ds=[]) sts (λz=>z=d))
  (hs:swapsWith (.List [] pos2) (some (.Name x pos')) pos.line X.env=pure false:=by rfl)(hf:Zlo X x:=by first|exact .inl rfl|exact .inr rfl|assumption):
  SVs X G (.Assign [.Name x pos'] (.List [] pos2) pos::sts) (.ret d):=
 (IO hN hi hx hG h hs hf).imp λD σ H ⟨h,q⟩=>⟨h,λd' v H' e s dv=>by subst e;exact q v H' s dv⟩
end
section
def hasK(es:List (PyData×PyData))(k:Key):Bool:=es.any λq=>eqv q.1 (keyD k)
def putD(es:List (PyData×PyData))(k:Key)(d:PyData):List (PyData×PyData):=if hasK es k=true then es.map (λq=>if eqv q.1 (keyD k)=true then(q.1,d)else q)else es++[(keyD k,d)]
section
variable{es:List (PyData×PyData)}
end
mutual
theorem DVk.noDict{K:PySem.W.Frag}{H H':Hp}{p:Addr}{kvs:List (Key×V)}(hp:H p=some (.dK kvs))(hH:∀a,a≠p->H' a=H a):∀{v:List (Key×V)}{d:List (PyData×PyData)},DVk K H v d->(d.all λq=>noK q.2)=true->DVk K H' v d
 |_,_,.nil,_=>.nil
 |_,_,.cons h t,f=>by
  rw[List.all_cons,Bool.and_eq_true]at f
  exact .cons (DV.noDict hp hH h f.1) (DVk.noDict hp hH t f.2)
end
abbrev US(G:Gam)(i:Nat)(es:List (PyData×PyData)):Gam:=G.set i (some (.dict es))
def ODt(K:Frag)(H0:Hp)(p:Addr)(i:Nat)(G:Gam)(es:List (PyData×PyData))(σ:St)(H:Hp):Prop:=
 ∃Hb kvs,H=upd Hb p (.dK kvs)/\Hb p=none/\Same H0 Hb/\SD K Hb σ G/\σ[i]?=some (some (.ref p))/\DVk K Hb kvs es
variable{PreA PreB:Gam->List (PyData×PyData)->Prop}
section
variable{Pre Mid Post:Gam->List (PyData×PyData)->Prop}
end
end
variable{tg:Expr}
section
variable{Mid:Gam->List PyData->Prop}{R:PyData->Prop}
def Gr:List Nat->List PyData->Gam->Gam
 |i::is,d::ds,G=>Gr is ds (G.set i (some d))
 |_,_,G=>G
def OY(is:List Nat)(d:PyData)(G:Gam):Gam:=match d with
 | .tuple ds=>Gr is ds G
 |_=>G
def C4:List Nat->TGs
 |[]=>gNil
 |i::is=>JK (BI i) (C4 is)
theorem Jq{K:Frag}{H:Hp}:∀(is:List Nat) (ds:List PyData) (vs:List V) (σ:St) (G:Gam) (Q:St->Hp->Prop),is.length=ds.length->SD K H σ G->DVs K H vs ds->(∀σ2,SD K H σ2 (Gr is ds G)->Q σ2 H)->C4 is vs σ H Q
 |[],[],_,σ,G,Q,_,h,.nil,q=>⟨rfl,q σ h⟩
 |i::is,d::ds,_,σ,G,Q,hl,h,.cons (x:=v) (xs:=vs) dv t,q=>⟨v,vs,rfl,Jq is ds vs _ _ Q (Nat.succ.inj hl) (h.set dv) t q⟩
theorem K_{k:Nat}(is:List Nat)(ds:List PyData)(hl:is.length=ds.length):BindD K k (gTup K is.length (C4 is)) (OY is) (.tuple ds):=⟨λv σ H G Q h dv q=>by
 obtain⟨l,us,rfl,hs,d1⟩:=dv.of_tup
 exact⟨l,us,rfl,hs,by rw[d1.length,hl],Jq is ds us σ G Q hl h d1 q⟩⟩
theorem Tt{k:Nat}{g:TG}{B:PyData->Gam->Gam}{G1:Gam}(he:EV X G e d)(hg:PG X tg g)(hb:BindD X.K k g B d)(hG:B d G=G1)(hs:swapsWithSole [tg] e pos.line X.env=pure false:=by rfl)(hw:swappedStores [tg] e X.env=pure none:=by rfl)
  (h1:(assignEach [tg] X.env).map (·.2)=[assign tg X.env]:=by rfl):SV X G (.Assign [tg] e pos) (.next G1):=hG▸
 (Ez he hg hs hw h1).imp λD σ H ⟨h,q⟩=>⟨h,λv H1 s1 d1=>hb.to v σ H1 G _ (h.mono s1) d1 λσ2 h2=>q σ2 H1 s1 h2⟩
theorem S5{i j:Int}(hc:X.calm=true):CD X (.builtin "min") [.int i,.int j] (.int (if j<i then j else i)):=(Na hc).imp λxs H Q ⟨h,q⟩=>by
 obtain⟨v,w,rfl,dv,dw⟩:=h.two
 exact⟨i,j,by rw[dv.of_int,dw.of_int],q _ H (Same.refl H) (.int _)⟩
theorem Qb(h:∀G ds,Pre G ds->∃d,R d/\SVs X (Ed G i ds) sts (.ret d)):HRs X H0 p i Pre sts R:=by
 intro pins s σ H D I ⟨⟨G,ds,a,o⟩,q⟩
 obtain⟨d,r,hh⟩:=h G ds a
 refine hh pins s σ H D I ⟨o.sd,λv H' s' dv=>q d v H' r ?_ dv⟩
 obtain⟨Hb,vs,rfl,hn,s0,_⟩:=o
 exact(s0.trans (Same.new hn)).trans s'
end
def UE{α:Type}(N:Nat)(R:α->Prop):KasT α->Prop
 | .ret a=>R a
 | .ask i j k=>i<N/\j<N/\∀b,UE N R (k b)
def PmN(N:Nat)(p:Array Nat):Prop:=p.Perm (toArray (range N))
section
variable{N:Nat}(hN:0<N)
end
variable{prog:Program}{A:Around}{E:Value->Shared->Prop}{s:Shared}
variable{cpos:Pos}
section
variable{o:Expr}{p:Pos}{es:List (PyData×PyData)}
end
variable{p1:Pos}
section
variable{Pre Mid Post:Gam->List (PyData×PyData)->Prop}{R:PyData->Prop}{Rs:List PyData->Prop}
end
section
variable{p:Pos}
end
section
variable{p:Pos}
end
theorem Fun.dataN{qual:Str}{st:Stmt}{f:Addr}{fd:FuncData}{N ps:List Str}{k:Nat}{F:List PyData->Prop}(F0:Fun K x qual st f fd)(hm:mg x=some (.ref f))(hb:Binds K fd ps [])(S:FnScope N ps (Ad st))(len:∀ds,F ds->ds.length=ps.length)
  (hbody:∀(cdv:Value) (A:Around) (outer:List Env) (s:Shared) (H:Hp) (E:XK) (ds:List PyData),Room k (A.deeper (envOfC qual (Ad st) s.heap.objs.size f cdv))->F ds->
   ∃G',SVs (cxOf CX0 P w K mg base N qual (Ad st) f cdv A outer s H E).nox (AT N ds) (AB st) (.next G')):DFn P w K mg base (k+1) x (λds d=>F ds/\d=.none):=by
 refine⟨f,fd,ps,F0.ok S (λvs H Q E ⟨ds,d,h1,h2,_⟩=>h1.length.trans (len ds h2.1)) (λcdv A outer s H vs Q E hr ⟨ds,d,h1,⟨h2,e⟩,q⟩=>?_),hm,F0.kp,hb⟩
 obtain⟨G',h⟩:=hbody cdv A outer s H E ds hr h2
 subst e
 exact⟨_,h,SD.start h1,λσ' H' s' h'=>q .non H' s' .non⟩
variable{f:Str}
theorem QS(h:EV X G e d)(hs:swapsWith e none pos.line X.env=pure false:=by rfl):SV X G (.Expr e pos) (.next G):=
 (Cu h hs).imp λD σ H ⟨h,q⟩=>⟨h,λv H' s' _=>q σ H' s' (h.mono s')⟩
def Flds(K:Frag)(H:Hp)(fs:List (Str×V))(fd:List (Str×PyData)):Prop:=∀q∈fd,∃v,fs.lookup q.1=some v/\DV K H v q.2
structure OI(K:Frag)(a C dx:Addr)(H0:Hp)(n:Nat)(fd:List (Str×PyData))(σ:St)(G:Gam)(fs:List (Str×V))(H:Hp):Prop where
 slot:σ[0]?=some (some (.ref a))
 obj:H a=some (.ins C dx fs)
 sd:SD K H σ G
 keep:∀b,b≠a->∀o,H0 b=some o->H b=some o
 flds:Flds K H fs fd
 few:fs.length<=n
theorem mulW(l:Addr)(items:Array Value)(n:Nat)(dd:Option Addr)(sl:Array (Option Value))(x:Int)(u:Tok)(hc0:¬(!Builtin.List.listFitsIndex x)=true)(hc1:¬items.size*x.toNat>(2^63-1)/8)(hc2:¬Builtin.List.listTooLong (items.size*x.toNat)=true):
  Meets (Builtin.«list.__mul__» ⟨[.ref l,.int x u],[]⟩) (λ_ R s=>s.heap.get? l=some {cls:=.type "list",dict:=dd,data:=.seq items n,slots:=sl}/\R (.ok (.ret (Value.ref s.heap.objs.size))) {s with heap:=s.heap.push {cls:=Value.type "list",data:=Data.seq (foldl (λx1 x2=>x1++x2) #[] (replicate (if items.isEmpty=true then 0 else x.toNat) items))},toks:=s.toks}):=
 .of_wp λprog w A R s h=>by
  obtain⟨hp,g,d,tk,os⟩:=s;obtain⟨hl,h⟩:=h
  have hsz:=PySem.AutoListH.joined_fits hc2
  wp_walk using wpAny_loadPart' hl;refine wpAny_ite_false (decide_eq_false (Nat.not_lt.mpr hsz)) ?_;wp_walk;exact⟨_,rfl,h⟩
theorem Uk(a:Int)(t:Tok)(l:Addr)(items:Array Value)(n:Nat)(dd:Option Addr)(sl:Array (Option Value)):
  Meets (Builtin.«int.__rmul__» ⟨[.int a t,.ref l],[]⟩) (λ_ R s=>s.heap.get? l=some {cls:=.type "list",dict:=dd,data:=.seq items n,slots:=sl}/\R (.ok (.ret Value.notImplemented)) s):=
 .of_wp λprog w A R s h=>by obtain⟨hp,g,d,tk,os⟩:=s;obtain⟨hl,h⟩:=h;wp_walk using wpAny_loadPart' hl;exact⟨_,rfl,h⟩
theorem DVs.rep{vs:List V}(h:DVs K H vs ds):∀k:Nat,DVs K H (List.replicate k vs).flatten (List.replicate k ds).flatten
 |0=>.nil
 |k+1=>by
  rw[List.replicate_succ,List.replicate_succ,List.flatten_cons,List.flatten_cons]
  exact h.append (DVs.rep h k)
theorem Hs{c j pos}{env:Env}:starEach (.Constant c j pos::es) env=(false,eval (.Constant c j pos) env)::starEach es env:=rfl
section
variable{o:Out}
end
variable{iter:Expr}{pos3:Pos}
section
variable{Mid:Gam->List PyData->Prop}{A B:List Stmt}
theorem Nk{db dc:PyData}{op op':CmpOp}{k k':Bool}(ho:OD X (compareOp op) da db (.bool k))(ho':OD X (compareOp op') db dc (.bool k'))(ha:EV X G a da)(hb:EV X G b db)(hc:EV X G c dc)
  (hm:lastMarks [op,op'] [b,c]=false:=by with_unfolding_all rfl):TV X G (.Compare a [op,op'] [b,c] pos) (k&&k'):=by
 refine(Oc ho ho' ha hb hc hm).imp λσ H Q ⟨h,q⟩=>⟨h,λx H1 s1 d1=>⟨h.mono s1,λy H2 s2 d2=>⟨d1.mono s2,d2,λv H3 s3 d3=>⟨k,d3.of_bl,?_⟩⟩⟩⟩
 cases k with
 |true=>
  simp only[if_true]
  exact⟨((h.mono s1).mono s2).mono s3,λz H4 s4 d4=>⟨(d2.mono s3).mono s4,d4,λv H5 s5 d5=>⟨k',d5.of_bl,q H5 ((((s1.trans s2).trans s3).trans s4).trans s5)⟩⟩⟩
 |false=>
  simp only[false_eq_true,if_false]
  exact⟨false,rfl,q H3 ((s1.trans s2).trans s3)⟩
theorem DVs.setAt{v:V}(h:DV K H v d):∀{vs:List V}{ds:List PyData}(n:Nat),DVs K H vs ds->DVs K H (vs.set n v) (ds.set n d)
 |_,_,_,.nil=>.nil
 |_,_,0,.cons _ t=>.cons h t
 |_,_,n+1,.cons q t=>.cons q (DVs.setAt h n t)
theorem S6{k:Int}(hv:PE X (.Name x pos2) (tVar i))(h:∀G ds,Pre G ds->∃d m,EV X (Ed G i ds) e d/\noL d=true/\EV X (Ed G i ds) b (.int m)/\0<=m/\m<ds.length/\Post G (ds.set m.toNat d))
  (ha:∀v,assign (.Subscript (.Name x pos2) b pos3) X.env v=(do
   let ov <-holding [v] (eval (.Name x pos2) X.env)
   let iv <-holding [v,ov] (eval b X.env)
   standAt pos3
   holding [v,ov,iv] (setItem ov iv v)
   release [v,ov,iv] []):=by intro _;rfl)
  (hs:swapsWithSole [.Subscript (.Name x pos2) b pos3] e pos.line X.env=pure false:=by rfl)(hw:swappedStores [.Subscript (.Name x pos2) b pos3] e X.env=pure none:=by rfl)
  (h1:(assignEach [.Subscript (.Name x pos2) b pos3] X.env).map (·.2)=[assign (.Subscript (.Name x pos2) b pos3) X.env]:=by rfl):HT1 X H0 p i Pre (.Assign [.Subscript (.Name x pos2) b pos3] e pos) Post:=by
 intro pins s σ H D I ⟨⟨G,ds,a,o⟩,q⟩
 obtain⟨d,m,ev,nl,eb,m0,m1,po⟩:=h G ds a
 refine Ez ev (Pu hv eb set_list ha) hs hw h1 pins s σ H D I ⟨o.sd,λv H1 s1 d1=>?_⟩
 obtain⟨o1,k⟩:=o.step s1
 obtain⟨Hb,vs,e1,e2,e3,e4,e5,e6,e7⟩:=k v d d1 nl
 refine⟨.ref p,e5,o1.sd,λw H2 s2 d2=>?_⟩
 obtain⟨o2,k2⟩:=o1.step s2
 obtain⟨Hc,us,f1,f2,f3,f4,f5,f6,f7⟩:=k2 v d (d1.mono s2) nl
 subst f1
 have hl:us.length=ds.length:=f6.length
 refine⟨p,us,m,m.toNat,rfl,d2.of_int,Ah,?_,?_⟩
 .unfold ixN
  rw[if_pos m0,if_pos (by rw[hl];exact m1)]
 rw[Mb]
 exact q _ _ G _ po ⟨Hc,us.set m.toNat v,rfl,f2,f3,f4,f5,f6.setAt f7 _⟩
end
variable{elt target:Expr}{ifs:List Expr}{scope:Scope}{N:List Str}{ix:List Nat}
theorem Ih{K:Frag}{Hb H:Hp}:∀(is:List Nat) (ds:List PyData) (vs:List V) (σ:St) (G:Gam) (Q:St->Hp->Prop),is.length=ds.length->SD K Hb σ G->DVs K Hb vs ds->(∀σ2,SD K Hb σ2 (Gr is ds G)->(∀m,m∉is->σ2[m]?=σ[m]?)->Q σ2 H)->C4 is vs σ H Q
 |[],[],_,σ,G,Q,_,h,.nil,q=>⟨rfl,q σ h λ_ _=>rfl⟩
 |i::is,d::ds,_,σ,G,Q,hl,h,.cons (x:=v) (xs:=vs) dv t,q=>⟨v,vs,rfl,Ih is ds vs _ _ Q (Nat.succ.inj hl) (h.set dv) t λσ2 h2 hm=>q σ2 h2 λm hm2=>by
   rw[hm m λz=>hm2 (mem_cons_of_mem _ z),getElem?_set_ne λz=>hm2 (by rw[z];exact mem_cons_self ..)]⟩
section
variable{p:Pos}
end
section
variable{t:Addr}{ys:List V}
theorem Qj(hq:SqL K H t ys)(dys:DVs K H ys ds):ItD K (Itl K t) ds H where
 go:=λi H2 s2 hi=>by
  obtain⟨v,e,_⟩:=dys.get (i:=i) (d:=ds[i]) (by simp[hi])
  exact⟨ys,v,s2.seq hq,e⟩
 yld:=λi H2 v H3 s2 _ ⟨e,y⟩=>by
  subst e
  obtain⟨d,e1,e2⟩:=dys.get' (y ys (s2.seq hq))
  exact⟨Same.refl _,d,e1,e2.mono s2⟩
 stop:=λi H2 s2 hi=>⟨ys,s2.seq hq,by rw[dys.length];exact hi⟩
end
abbrev base2(H:Hp)(p q:Addr):Hp:=dele (dele H p) q
variable{q:Addr}
theorem Cj{b:Addr}(h1:b≠p)(h2:b≠q):base2 H p q b=H b:=by show dele (dele H p) q b=_;rw[Bj h2,Bj h1]
theorem Gw{b:Addr}{o:HO}(h:base2 H p q b=some o):b≠p/\b≠q/\H b=some o:=by
 have hq:b≠q:=λc=>by subst c;rw[show base2 H p b b=none from AN]at h;cases h
 have hp:b≠p:=λc=>by
  subst c
  rw[show base2 H b q b=dele H b b from Bj hq,AN]at h
  cases h
 exact⟨hp,hq,by rw[Cj hp hq]at h;exact h⟩
theorem base2_sub:Same (base2 H p q) H:=λb o e=>(Gw e).2.2
variable{H':Hp}
theorem BZ(s:Same H H'):Same (base2 H p q) (base2 H' p q):=λb o e=>by
 obtain⟨h1,h2,h3⟩:=Gw e
 rw[Cj h1 h2]
 exact s b o h3
theorem KH:base2 H p q=base2 H q p:=by
 funext b
 by_cases h1:b=p
 .by_cases h2:b=q
  .subst h1 h2;rfl
  .subst h1
   show dele (dele H b) q b=dele (dele H q) b b
   rw[Bj h2,AN,AN]
 .by_cases h2:b=q
  .subst h2
   show dele (dele H p) b b=dele (dele H b) p b
   rw[AN,Bj h1,AN]
  .rw[Cj h1 h2,Cj h2 h1]
theorem D_{o:HO}:base2 (upd H p o) p q=base2 H p q:=by
 funext b
 by_cases h2:b=q
 .subst h2;show dele _ b b=dele _ b b;rw[AN,AN]
 .by_cases h1:b=p
  .subst h1
   show dele (dele _ b) q b=dele (dele _ b) q b
   rw[Bj h2,Bj h2,AN,AN]
  .rw[Cj h1 h2,Cj h1 h2,Ag h1]
variable{us:List V}
section
variable{ws:List V}
theorem DV.base2{v:V}(hp:H p=some (.lst ws))(hq:H q=some (.lst us))(ne:p≠q)(h:DV K H v d)(n:noL d=true):DV K (L2.base2 H p q) v d:=DV.dele (ws:=us) (by rw[Bj (Ne.symm ne)];exact hq) (DV.dele hp h n) n
theorem DVs.base2{v:List V}{d:List PyData}(hp:H p=some (.lst ws))(hq:H q=some (.lst us))(ne:p≠q)(h:DVs K H v d)(n:noLs d=true):DVs K (L2.base2 H p q) v d:=DVs.dele (ws:=us) (by rw[Bj (Ne.symm ne)];exact hq) (DVs.dele hp h n) n
end
structure OS2(K:Frag)(H0:Hp)(p:Addr)(i:Nat)(q:Addr)(j:Nat)(G:Gam)(ds es:List PyData)(σ:St)(H:Hp):Prop where
 ne:p≠q
 ex:∃vs us,H p=some (.lst vs)/\H q=some (.lst us)/\DVs K (base2 H p q) vs ds/\DVs K (base2 H p q) us es
 old:Same H0 (base2 H p q)
 sdb:SD K (base2 H p q) σ G
 hi:σ[i]?=some (some (.ref p))
 hj:σ[j]?=some (some (.ref q))
abbrev Ij(G:Gam)(i:Nat)(ds:List PyData)(j:Nat)(es:List PyData):Gam:=(G.set i (some (.list ds))).set j (some (.list es))
variable{α:Type}
theorem Kd{l:List α}{a:α}(h:l[i]?=some a):l.set i a=l:=by
 refine ext_getElem? λj=>?_
 by_cases hj:i=j
 .subst hj
  rw[getElem?_set_self (List.getElem?_eq_some_iff.mp h).1,h]
 .rw[getElem?_set_ne hj]
variable{σ:St}
section
variable{es:List PyData}
theorem OS2.swap(o:OS2 K H0 p i q j G ds es σ H):OS2 K H0 q j p i G es ds σ H:=by
 obtain⟨ne,⟨vs,us,h1,h2,d1,d2⟩,old,sd,hi,hj⟩:=o
 rw[KH]at d1 d2 old sd
 exact⟨Ne.symm ne,⟨us,vs,h2,h1,d2,d1⟩,old,sd,hj,hi⟩
theorem OS2.sd(o:OS2 K H0 p i q j G ds es σ H):SD K H σ (Ij G i ds j es):=by
 obtain⟨ne,⟨vs,us,h1,h2,d1,d2⟩,old,sd,hi,hj⟩:=o
 have a:=((sd.mono base2_sub).set (i:=i) (v:=.ref p) (d:=.list ds) (.lst (SqL.of h1) (d1.mono base2_sub))).set (i:=j) (v:=.ref q) (d:=.list es) (.lst (SqL.of h2) (d2.mono base2_sub))
 rw[Kd hi,Kd hj]at a
 exact a
theorem OS2.step(o:OS2 K H0 p i q j G ds es σ H)(s:Same H H'):OS2 K H0 p i q j G ds es σ H':=by
 obtain⟨ne,⟨vs,us,h1,h2,d1,d2⟩,old,sd,hi,hj⟩:=o
 exact⟨ne,⟨vs,us,s _ _ h1,s _ _ h2,d1.mono (BZ s),d2.mono (BZ s)⟩,old.trans (BZ s),sd.mono (BZ s),hi,hj⟩
theorem OS2.new{v:V}(o:OS2 K H0 p i q j G ds es σ H)(h:DV K H v d)(n:noL d=true):DV K (base2 H p q) v d:=by
 obtain⟨ne,⟨vs,us,h1,h2,_⟩,_⟩:=o
 exact DV.base2 h1 h2 ne h n
end
abbrev P2:=Gam->List PyData->List PyData->Prop
def sw(Q:P2):P2:=λG a b=>Q G b a
def tH2(K:Frag)(H0:Hp)(p:Addr)(i:Nat)(q:Addr)(j:Nat)(Pre Post:P2):TS:=λD σ H=>(∃G ds es,Pre G ds es/\OS2 K H0 p i q j G ds es σ H)/\∀σ' H' G ds es,Post G ds es->OS2 K H0 p i q j G ds es σ' H'->D.nx σ' H'
def tHR2(K:Frag)(H0:Hp)(p:Addr)(i:Nat)(q:Addr)(j:Nat)(Pre:P2)(R:PyData->Prop):TS:=λD σ H=>(∃G ds es,Pre G ds es/\OS2 K H0 p i q j G ds es σ H)/\∀d v H',R d->Same H0 H'->DV K H' v d->D.rt v H'
abbrev HT2(X:Cx)(H0:Hp)(p:Addr)(i:Nat)(q:Addr)(j:Nat)(Pre:P2)(st:Stmt)(Post:P2):Prop:=PS X st (tH2 X.K H0 p i q j Pre Post)
abbrev HT2s(X:Cx)(H0:Hp)(p:Addr)(i:Nat)(q:Addr)(j:Nat)(Pre:P2)(sts:List Stmt)(Post:P2):Prop:=PSs X sts (tH2 X.K H0 p i q j Pre Post)
abbrev HR2s(X:Cx)(H0:Hp)(p:Addr)(i:Nat)(q:Addr)(j:Nat)(Pre:P2)(sts:List Stmt)(R:PyData->Prop):Prop:=PSs X sts (tHR2 X.K H0 p i q j Pre R)
section
variable{m:Nat}{Pre Mid Post PreA PreB:P2}{R:PyData->Prop}
theorem QV{st:Stmt}(h:HT2 X H0 q j p i (sw Pre) st (sw Post)):HT2 X H0 p i q j Pre st Post:=h.imp λD σ H ⟨⟨G,ds,es,a,o⟩,k⟩=>⟨⟨G,es,ds,a,o.swap⟩,λσ' H' G' ds' es' r o'=>k σ' H' G' es' ds' r o'.swap⟩
theorem EG(h:∀G ds es,Pre G ds es->Post G ds es):HT2s X H0 p i q j Pre [] Post:=pss_nil.imp λD σ H ⟨⟨G,ds,es,a,o⟩,k⟩=>k σ H G ds es (h G ds es a) o
theorem CH{st:Stmt}(h1:HT2 X H0 p i q j Pre st Mid)(h2:HT2s X H0 p i q j Mid sts Post):HT2s X H0 p i q j Pre (st::sts) Post:=
 (As h1 h2).imp λD σ H ⟨a,k⟩=>⟨a,λσ' H' G ds es r o=>⟨⟨G,ds,es,r,o⟩,k⟩⟩
theorem J3{st:Stmt}(h1:HT2 X H0 p i q j Pre st Mid)(h2:HR2s X H0 p i q j Mid sts R):HR2s X H0 p i q j Pre (st::sts) R:=
 (As h1 h2).imp λD σ H ⟨a,k⟩=>⟨a,λσ' H' G ds es r o=>⟨⟨G,ds,es,r,o⟩,k⟩⟩
theorem RI(h:∀G ds es,Pre G ds es->SVs X (Ij G i ds j es) sts (.ret d)):HR2s X H0 p i q j Pre sts (λz=>z=d):=by
 intro pins s σ H D I ⟨⟨G,ds,es,a,o⟩,k⟩
 exact h G ds es a pins s σ H D I ⟨o.sd,λv H' s' dv=>k d v H' rfl ((o.old.trans base2_sub).trans s') dv⟩
theorem KO(hN:X.N.Nodup)(hm:X.N[m]?=some x)(hmi:m≠i)(hmj:m≠j)(hx:Loc X.env.scope x)(h:∀G ds es,Pre G ds es->∃d,EV X (Ij G i ds j es) e d/\noL d=true/\Post (G.set m (some d)) ds es)(hs:swapsWith e (some (.Name x pos')) pos.line X.env=pure false:=by rfl)
  (hf:Zlo X x:=by first|exact .inl rfl|exact .inr rfl|assumption):HT2 X H0 p i q j Pre (.Assign [.Name x pos'] e pos) Post:=by
 intro pins s σ H D I ⟨⟨G,ds,es,a,o⟩,k⟩
 obtain⟨d,ev,nl,po⟩:=h G ds es a
 refine Bn hN hm hx ev hs hf pins s σ H D I ⟨o.sd,λv H1 s1 d1=>?_⟩
 have o1:=o.step s1
 have dn:=o1.new d1 nl
 obtain⟨ne,ex,old,sd,hi,hj⟩:=o1
 exact k _ _ _ ds es po ⟨ne,ex,old,sd.set dn,by rw[getElem?_set_ne hmi];exact hi,by rw[getElem?_set_ne hmj];exact hj⟩
theorem HD(h:∀G ds es,Pre G ds es->∃d,EV X (Ij G i ds j es) e d/\noL d=true/\ds.length<sizeLine/\Post G (ds++[d]) es)(hv:PE X (.Name x pos2) (tVar i))
  (hs0:starEach [e] X.env=(false,eval e X.env)::starEach [] X.env:=by rfl)
  (hb:attributeBase (.Name x pos2) "append" X.env (eval (.Name x pos2) X.env)=eval (.Name x pos2) X.env:=by rfl)
  (hfew:((backTo pos' (starEach [e] X.env)).all (λx=>!x.1)&&(backToKw pos' (keywordEach [] X.env)).all (λx=>x.1.isSome)
   &&decide ([e].length+([]:List Keyword).length+(if([]:List Keyword).isEmpty then 0 else 1)<30))=true:=by rfl)
  (hline:(apos.endLine==pos'.line)=true:=by rfl)(hpl:(backTo pos' (starEach [] X.env)).any (·.1)=false:=by rfl)
  (hsw:swapsWith (.Call (.Attribute (.Name x pos2) "append" apos) [e] [] pos') none pos.line X.env=pure false:=by rfl):
  HT2 X H0 p i q j Pre (.Expr (.Call (.Attribute (.Name x pos2) "append" apos) [e] [] pos') pos) Post:=by
 intro pins s σ H D I ⟨⟨G,ds,es,a,o⟩,k⟩
 obtain⟨d,ev,nl,hz,po⟩:=h G ds es a
 refine Cu (Jg plainAttrs_list PySem.F.slot_list_append PySem.F.type_list_append Fg hv (Aa ev Ac hs0) hb hfew hline hs0 hpl) hsw pins s σ H D I ?_
 obtain⟨vs0,us0,g1,g2,_⟩:=id o.ex
 refine⟨_,o.hi,.inl ⟨rfl,vs0,SqL.of g1⟩,o.sd,λws H1 s1 d1=>?_⟩
 obtain⟨v,rfl,d2⟩:=d1.one
 have o1:=o.step s1
 have dn:=o1.new d2 nl
 obtain⟨ne,⟨vs,us,h1,h2,d3,d4⟩,old,sd,hi,hj⟩:=o1
 refine⟨p,vs,v,rfl,rfl,h1,by rw[d3.length];exact hz,?_⟩
 refine k _ _ G _ es po ⟨ne,⟨vs++[v],us,Ah,by rw[Ag (symm ne)];exact h2,?_,?_⟩,?_,?_,hi,hj⟩
 .rw[D_];exact d3.append (.cons dn .nil)
 .rw[D_];exact d4
 .rw[D_];exact old
 .rw[D_];exact sd
theorem Ss{A B:List Stmt}(h:∀G ds es,Pre G ds es->(TV X (Ij G i ds j es) c true/\PreA G ds es)\/(TV X (Ij G i ds j es) c false/\PreB G ds es))(h1:HT2s X H0 p i q j PreA A Post)(h2:HT2s X H0 p i q j PreB B Post):HT2 X H0 p i q j Pre (.If c A B pos) Post:=by
 intro pins s σ H D I ⟨⟨G,ds,es,a,o⟩,k⟩
 rcases h G ds es a with⟨tv,pa⟩|⟨tv,pb⟩
 .exact BG tv h1 h2 pins s σ H D I ⟨o.sd,λH1 s1=>iteT ⟨⟨G,ds,es,pa,o.step s1⟩,k⟩⟩
 .exact BG tv h1 h2 pins s σ H D I ⟨o.sd,λH1 s1=>iteF ⟨⟨G,ds,es,pb,o.step s1⟩,k⟩⟩
abbrev IV2(X:Cx)(H0:Hp)(p:Addr)(i:Nat)(q:Addr)(j:Nat)(G:Gam)(ds es:List PyData)(tg iter:Expr)(xs:List PyData):Prop:=PI X tg iter (λσ H R=>OS2 X.K H0 p i q j G ds es σ H/\∀J H',Same H H'->ItD X.K J xs (base2 H' p q)->R J H')
structure BindB(K:Frag)(is:List Nat)(g:TG)(B:PyData->Gam->Gam)(d:PyData):Prop where
 to:∀(v:V) (σ:St) (Hb H:Hp) (G:Gam) (Q:St->Hp->Prop),Same Hb H->SD K Hb σ G->DV K Hb v d->(∀σ2,SD K Hb σ2 (B d G)->(∀m,m∉is->σ2[m]?=σ[m]?)->Q σ2 H)->g v σ H Q
theorem K1(n:Nat)(d:PyData):BindB K [n] (BI n) (PU n) d:=⟨λv σ Hb H G Q s h dv k=>k _ (h.set dv) λm hm=>getElem?_set_ne λc=>hm (by rw[c];simp)⟩
theorem SR{body:List Stmt}{is:List Nat}{g:TG}{B:PyData->Gam->Gam}(W:Nat->P2)(hp:PassesOwn (model X.prog X.w) X.A X.env X.xe)(hcalm:X.calm=true)(hii:i∉is)(hjj:j∉is)(hg:PG X tg g)
  (hbd:∀d∈xs,BindB X.K is g B d)(hnl:∀d∈xs,noL d=true)(hpre:∀G ds es,Pre G ds es->W 0 G ds es/\IV2 X H0 p i q j G ds es tg iter xs)
  (hs:∀(H1:Hp) (k:Nat) d,xs[k]?=some d->HT2s X H1 p i q j (λG ds es=>∃G',W k G' ds es/\G=B d G') body (W (k+1)))(hpost:∀G ds es,W xs.length G ds es->Post G ds es)
  (hfs:∀x,foldedSetIterable iter X.env x=pure x:=by intro _;rfl):HT2 X H0 p i q j Pre (.For tg iter body [] pos) Post:=by
 intro pins s σ H D I ⟨⟨G,ds,es,a,o⟩,k⟩
 obtain⟨w0,hi⟩:=hpre G ds es a
 have hbody:PSs X body (λD σ H=>∃kd:Hp×Nat×PyData,xs[kd.2.1]?=some kd.2.2/\tH2 X.K kd.1 p i q j (λG ds es=>∃G',W kd.2.1 G' ds es/\G=B kd.2.2 G') (W (kd.2.1+1)) D σ H):=λpins s σ H D I ⟨k,hk,q⟩=>hs k.1 k.2.1 k.2.2 hk pins s σ H D I q
 refine Ep hp hcalm hi hg hbody hfs pins s σ H D I ⟨o,λJ H1 s1 hJ=>?_⟩
 have ostart:OS2 X.K (base2 H1 p q) p i q j G ds es σ H1:=by
  obtain⟨ne,ex,old,sd,hi,hj⟩:=o.step s1
  exact⟨ne,ex,Same.refl _,sd,hi,hj⟩
 have oback:Same H0 (base2 H1 p q):=o.old.trans (BZ s1)
 refine⟨λk m σ H=>k<=xs.length/\m=xs.length-k/\∃G ds es,W k G ds es/\OS2 X.K (base2 H1 p q) p i q j G ds es σ H,⟨_,zero_le _,rfl,G,ds,es,w0,ostart⟩,?_⟩
 rintro n m σ2 H2 ⟨hn,rfl,G2,ds2,es2,w2,o2⟩
 have sm:Same (base2 H1 p q) H2:=o2.old.trans base2_sub
 by_cases hlt:n<xs.length
 .refine .inr ⟨hJ.go n H2 sm hlt,λσ' H'=>∃G ds es,W (n+1) G ds es/\OS2 X.K (base2 H1 p q) p i q j G ds es σ' H',λσ' H' z=>⟨xs.length- (n+1),by omega,hlt,rfl,z⟩,λv H' y=>?_⟩
  obtain⟨s2,d,ed,dv⟩:=hJ.yld n H2 v H' sm hlt y
  have hmem:=mem_of_getElem? ed
  have o3:=o2.step s2
  refine(hbd d hmem).to v _ (base2 H' p q) H' _ _ base2_sub o3.sdb (o3.new dv (hnl d hmem)) λσ3 h3 hm=>?_
  refine⟨(base2 H1 p q,n,d),ed,⟨_,ds2,es2,⟨G2,w2,rfl⟩,⟨o3.ne,o3.ex,o3.old,h3,by rw[hm i hii];exact o3.hi,by rw[hm j hjj];exact o3.hj⟩⟩,λσ4 H4 G4 ds4 es4 w4 o4=>⟨G4,ds4,es4,w4,o4⟩⟩
 .have e:n=xs.length:=by omega
  subst e
  refine .inl ⟨hJ.stop _ H2 sm (le_refl _),k σ2 H2 G2 ds2 es2 (hpost _ _ _ w2) ?_⟩
  obtain⟨ne,ex,old,sd,hi,hj⟩:=o2
  exact⟨ne,ex,oback.trans old,sd,hi,hj⟩
theorem PJ{e1 e2:Expr}{ws1 ws2:List PyData}{pa pa' pb pb':Pos}(hN:X.N.Nodup)(hi:X.N[i]?=some x)(hj:X.N[j]?=some y)(hij:i≠j)(hx:Loc X.env.scope x)(hy:Loc X.env.scope y)(hGi:i<G.length)(hGj:j<G.length)(h1:EVF X G e1 ws1)(h2:EVF X (G.set i (some (.list ws1))) e2 ws2)(n1:noLs ws1=true)(n2:noLs ws2=true)
  (h:∀H0 p q,HR2s X H0 p i q j (λG' ds es=>G'=(G.set i none).set j none/\ds=ws1/\es=ws2) sts (λz=>z=d))
  (hs:swapsWith e1 (some (.Name x pa')) pa.line X.env=pure false:=by rfl)(hf:Zlo X x:=by first|exact .inl rfl|exact .inr rfl|assumption)
  (hs':swapsWith e2 (some (.Name y pb')) pb.line X.env=pure false:=by rfl)(hf':Zlo X y:=by first|exact .inl rfl|exact .inr rfl|assumption):
  SVs X G (.Assign [.Name x pa'] e1 pa::.Assign [.Name y pb'] e2 pb::sts) (.ret d):=by
 have hr:PSs X sts (λD σ H=>∃z:Hp×Addr×Addr,tHR2 X.K z.1 z.2.1 i z.2.2 j (λG' ds es=>G'=(G.set i none).set j none/\ds=ws1/\es=ws2) (λz=>z=d) D σ H):=λpins s σ H D I ⟨z,q⟩=>h z.1 z.2.1 z.2.2 pins s σ H D I q
 refine(As (Bn hN hi hx h1 hs hf) (As (Bn hN hj hy h2 hs' hf') hr)).imp λD σ H ⟨hσ,k⟩=>⟨hσ,λp us H1 hp s1 hl dv=>⟨(hσ.mono s1).set (.lst (SqL.of hl) dv),λq us2 H2 hq s2 hl2 dv2=>?_⟩⟩
 have hpq:p≠q:=λc=>by rw[<-c,hl]at hq;cases hq
 have hp2:H2 p=some (.lst us):=s2 _ _ hl
 have sb:Same H (base2 H2 p q):=λb o e=>by
  have b1:b≠p:=Ao e hp
  have b2:b≠q:=λc=>by rw[c]at e;rw[s1 _ _ e]at hq;cases hq
  rw[Cj b1 b2]
  exact s2 _ _ (s1 _ _ e)
 refine⟨(H,p,q),⟨_,ws1,ws2,⟨rfl,rfl,rfl⟩,⟨hpq,⟨us,us2,hp2,hl2,DVs.base2 hp2 hl2 hpq (dv.mono s2) n1,DVs.base2 hp2 hl2 hpq dv2 n2⟩,sb,⟨by simp[hσ.1],λm d e=>?_⟩,?_,?_⟩⟩,λd' v H' r s' dv'=>by subst r;exact k v H' s' dv'⟩
 .by_cases hmj:j=m
  .subst hmj
   rw[getElem?_set_self (by rw[length_set];exact hGj)]at e
   cases e
  .by_cases hmi:i=m
   .subst hmi
    rw[getElem?_set_ne hmj,getElem?_set_self hGi]at e
    cases e
   .rw[getElem?_set_ne hmj,getElem?_set_ne hmi]at e
    obtain⟨v,a1,a2⟩:=hσ.2 m d e
    exact⟨v,by rw[getElem?_set_ne hmj,getElem?_set_ne hmi];exact a1,a2.mono sb⟩
 .rw[getElem?_set_ne (symm hij),getElem?_set_self (by rw[hσ.1];exact hGi)]
 .rw[getElem?_set_self (by rw[length_set,hσ.1];exact hGj)]
end
variable{k1:Expr}{ws1 ws2:List PyData}
section
variable{Mid:Gam->List PyData->Prop}{f k2 v1 v2:Expr}{ws0:List PyData}
def Ua(K:Frag)(xs:List PyData)(k:Int):R2:=λx y H Q=>DV K H x (.list xs)/\DV K H y (.int k)/\∀p us H',H p=none->Same H H'->H' p=some (.lst us)->DVs K H' us (replicate k.toNat xs).flatten->Q (.ref p) H'
theorem Q8{k:Int}(h1:-(2^63)<=k)(h2:k<2^63)(hz:xs.length*k.toNat<=sizeLine):OpR X (binaryOp .Mult) (Ua X.K xs k):=by
 intro pins s σ H x y v u Q I rx ry ⟨d1,d2,q⟩
 obtain⟨l,us,rfl,hl,du⟩:=d1.of_lst
 cases d2.of_int
 cases rx
 obtain⟨t,rfl⟩:=ry
 obtain⟨its,r,pl,_⟩:=I.list hl
 obtain⟨⟨cls,dd,data,sl⟩,e,hc,n,hd⟩:=pl.isList
 simp only at hc hd
 subst hc hd
 have hus:us.length=xs.length:=du.length
 have hil:its.length=xs.length:=by rw[<-hus];exact r.length.symm
 have hlen:its.toArray.size*k.toNat<=sizeLine:=by rw[size_toArray,hil];exact hz
 have hcap:¬its.toArray.size*k.toNat>(2^63-1)/8:=by
  have:(sizeLine:Nat)<=(2^63-1)/8:=by decide
  omega
 have hfit:¬(!Builtin.List.listFitsIndex k)=true:=by
  rw[fitsIndex_both h1 h2]
  exact Bool.false_ne_true
 have hlong:¬Builtin.List.listTooLong (its.toArray.size*k.toNat)=true:=by
  rw[Qh hlen]
  exact Bool.false_ne_true
 have hnew:foldl (λx1 x2=>x1++x2) #[] (replicate (if its.toArray.isEmpty=true then 0 else k.toNat) its.toArray)=(replicate k.toNat its).flatten.toArray:=by
  have f0:∀m:Nat,foldl (λx1 x2=>x1++x2) #[] (replicate m its.toArray)=(replicate m its).flatten.toArray:=λm=>by
   have:=foldl_rep its m []
   rw[List.nil_append]at this
   exact this
  rw[f0]
  cases its with
  |nil=>simp
  |cons a r'=>rw[if_neg (by simp)]
 refine wpAny_binaryOp_repeat_ref (T:="list") (U:="int") (by decide) ⟨_,e,rfl⟩ (λs'=>typeIs_int s' k t) noFill_list_mul F.fills_int_mul F.slot_int_rmul repeat_list F.slot_int_index.lookup
  (call_meets F.slot_int_rmul (typeIs_int s k t) F.entry_int_rmul (F.args_int_rmul_2 _ _) (Uk k t l its.toArray n dd sl)
   ⟨e,rfl,⟨_,e,rfl⟩,call_meets F.slot_list_mul ⟨_,e,rfl⟩ F.entry_list_mul (F.args_list_mul_2 _ _) (mulW l its.toArray n dd sl k t hfit hcap hlong) ⟨e,?_⟩⟩)
 rw[hnew]
 have hf:=I.hok.fresh (le_refl _)
 exact⟨.ref _,_,I.lnew (t':=s.toks) (r.rep k.toNat) (by rw[len_rep,Nat.mul_comm,hus];exact hz),rfl,q _ _ _ hf (Same.new hf) Ah ((du.rep k.toNat).mono (Same.new hf))⟩
theorem Mr{k:Int}(ha:EV X G a (.list xs))(hb:EV X G b (.int k))(h1:-(2^63)<=k)(h2:k<2^63)(hz:xs.length*k.toNat<=sizeLine):EVF X G (.BinOp a .Mult b pos) (replicate k.toNat xs).flatten:=
 (L5 (Q8 h1 h2 hz) ha hb).imp λσ H Q ⟨h,k⟩=>HS h λx y H' s' d1 d2=>⟨d1,d2,λp us H2 hp s2 hl dv=>k p us H2 (s'.free hp) (s'.trans s2) hl dv⟩
end
section
open PySem
def Rise(xs:Array Nat):Prop:=xs.toList.Pairwise (· < ·)
def Ux(b:Bool)(t:SetTable):Prop:=t.led=b/\Rise t.place
end
section
open PySem
structure SetG(prog:Program)(w:World)(h:Heap)(a:Addr)(S:Int->Bool)(n:Nat)(o:Obj)(es:Array (Int×Value))(ep:Nat)(t:SetTable):Prop where
 at_:h.get? a=some o
 ex:o.ExactSet
 dat:o.data=.set es ep t
 els:ElemsOf (intKind prog w) es.toList
 mem:∀k,S k=true↔∃e∈es.toList,(intKind prog w).is k e.2=true
 few:es.size<scanBound
 fit:t.fits es.size=true
 len:es.size=n
 tbl:Ux (!w.params.followText "set-order") t
section
variable{a:Addr}{S:Int->Bool}
end
end
abbrev metL(ns:List Int)(i:Nat):List Int:=firstMet (λi=>ns.getD i 0) i
def UP(h:Heap)(I a:Addr)(fst:Value)(i n ep:Nat):Prop:=∃o,h.get? I=some o/\o.cls=.type "set_iterator"/\o.data=.fields #[fst,.int i 0,.ref a,.int n 0,.int ep 0]
variable{ep:Nat}
section
variable{I a:Addr}{o:Obj}{es:Array (Int×Value)}{t:SetTable}{S:Int->Bool}{fst:Value}
end
section
variable{I a:Addr}{o:Obj}{es:Array (Int×Value)}{t:SetTable}{S:Int->Bool}
end
section
variable{a:Addr}{o:Obj}{es:Array (Int×Value)}{t:SetTable}{S:Int->Bool}
end
def insI(x:Int):List Int->List Int
 |[]=>[x]
 |a::r=>if x<a then x::a::r else if x=a then a::r else a::insI x r
def srtI(l:List Int):List Int:=l.foldr insI []
theorem GE(x y:Int):∀l:List Int,y∈insI x l↔y=x\/y∈l
 |[]=>by simp[insI]
 |a::r=>by
  unfold insI
  split
  .simp
  .split
   .rename_i h
    subst h
    simp
   .rw[mem_cons,GE x y r,mem_cons]
    constructor
    .rintro(h|h|h)<;>simp[h]
    .rintro(h|h|h)<;>simp[h]
theorem HK(x:Int):∀l:List Int,l.Pairwise (· < ·)->(insI x l).Pairwise (· < ·)
 |[],_=>by simp[insI]
 |a::r,h=>by
  obtain⟨h1,h2⟩:=pairwise_cons.mp h
  unfold insI
  split
  .rename_i hx
   exact pairwise_cons.mpr ⟨λb hb=>by
    rcases mem_cons.mp hb with rfl|hb
    .exact hx
    .exact Int.lt_trans hx (h1 b hb),h⟩
  .split
   .exact h
   .rename_i h3 h4
    refine pairwise_cons.mpr ⟨λb hb=>?_,HK x r h2⟩
    rcases(GE x b r).mp hb with rfl|hb
    .omega
    .exact h1 b hb
theorem EH(y:Int):∀l:List Int,y∈srtI l↔y∈l
 |[]=>by simp[srtI]
 |a::r=>by
  show y∈insI a (srtI r)↔_
  rw[GE,EH y r,mem_cons]
theorem Fw:∀l:List Int,(srtI l).Pairwise (· < ·)
 |[]=>by simp[srtI]
 |a::r=>HK a _ (Fw r)
theorem FH:∀{l m:List Int},l.Pairwise (· < ·)->m.Pairwise (· < ·)->(∀x,x∈l↔x∈m)->l=m
 |[],[],_,_,_=>rfl
 |[],b::m,_,_,h=>absurd ((h b).mpr (mem_cons_self ..)) (by simp)
 |a::l,[],_,_,h=>absurd ((h a).mp (mem_cons_self ..)) (by simp)
 |a::l,b::m,h1,h2,h=>by
  obtain⟨p1,p2⟩:=pairwise_cons.mp h1
  obtain⟨q1,q2⟩:=pairwise_cons.mp h2
  have e:a=b:=by
   rcases mem_cons.mp ((h a).mp (mem_cons_self ..))with e|ha
   .exact e
   .rcases mem_cons.mp ((h b).mpr (mem_cons_self ..))with e|hb
    .exact e.symm
    .have:=q1 a ha
     have:=p1 b hb
     omega
  subst e
  congr 1
  refine FH p2 q2 λx=>⟨λhx=>?_,λhx=>?_⟩
  .rcases mem_cons.mp ((h x).mp (mem_cons_of_mem _ hx))with e|z
   .have:=p1 x hx;omega
   .exact z
  .rcases mem_cons.mp ((h x).mpr (mem_cons_of_mem _ hx))with e|z
   .have:=q1 x hx;omega
   .exact z
theorem G8:∀{l m:List Int},l.Nodup->(∀x∈l,x∈m)->m.length<=l.length->l.Perm m
 |[],m,_,_,h=>by
  have:m=[]:=List.eq_nil_of_length_eq_zero (by simpa using h)
  rw[this]
 |a::l,m,hn,hs,hl=>by
  obtain⟨h1,h2⟩:=nodup_cons.mp hn
  have ha:=hs a (mem_cons_self ..)
  have pe:=List.perm_cons_erase ha
  refine(List.Perm.cons a (G8 h2 (λx hx=>?_) ?_)).trans pe.symm
  .have:=pe.mem_iff.mp (hs x (mem_cons_of_mem _ hx))
   rcases mem_cons.mp this with e|z
   .subst e;exact absurd hx h1
   .exact z
  .have:=pe.length_eq
   simp only[length_cons]at this hl
   omega
theorem Fm(ns:List Int):∀i,(metL ns i).Nodup
 |0=>nodup_nil
 |i+1=>by
  rw[show metL ns (i+1)=step_dedup (metL ns i) (ns.getD i 0)from firstMet_succ _ i]
  unfold step_dedup
  split
  .exact Fm ns i
  .rename_i h
   refine nodup_append.mpr ⟨Fm ns i,by simp,λa ha b hb=>?_⟩
   rw[mem_singleton.mp hb]
   intro e
   subst e
   exact h (any_eq_true.mpr ⟨_,ha,by simp⟩)
variable{ns:List Int}
theorem BE{a:Addr}{o:Obj}{es:Array (Int×Value)}{t:SetTable}(g:SetG prog w h a (λx=>(metL ns ns.length).any (·==x)) (metL ns ns.length).length o es ep t){L:List (Int×Value)}(pm:L.Perm es.toList):
  ∃ks,IntsAre (L.map (·.2)) ks/\ks.Perm (metL ns ns.length):=by
 have els:∀e∈L,∃k tk,e.2=Value.int k tk:=λe he=>by
  obtain⟨⟨k,hk,_⟩,_⟩:=g.els e (pm.mem_iff.mp he)
  obtain⟨tk,r⟩:=Value.isInt_shape (k:=k) (v:=e.2) hk
  exact⟨k,tk,r⟩
 have mk:∀(M:List (Int×Value)),(∀e∈M,∃k tk,e.2=Value.int k tk)->∃ks,IntsAre (M.map (·.2)) ks/\∀k,(∃e∈M,(intKind prog w).is k e.2=true)->k∈ks:=by
  intro M
  induction M with
  |nil=>exact λ_=>⟨[],.nil,λk ⟨e,he,_⟩=>by cases he⟩
  |cons e M ih=>
   intro hM
   obtain⟨ks,h1,h2⟩:=ih λe he=>hM e (mem_cons_of_mem _ he)
   obtain⟨k,tk,r⟩:=hM e (mem_cons_self ..)
   refine⟨k::ks,by rw[map_cons,r];exact .cons k tk h1,λk' ⟨e',he',q⟩=>?_⟩
   rcases mem_cons.mp he' with rfl|he'
   .rw[r]at q
    have:=(intKind prog w).inj (.int k tk) k' k q (intKind_is _ _ _ _)
    rw[this]
    exact mem_cons_self ..
   .exact mem_cons_of_mem _ (h2 k' ⟨e',he',q⟩)
 obtain⟨ks,h1,h2⟩:=mk L els
 refine⟨ks,h1,(G8 (Fm ns _) (λx hx=>h2 x ?_) ?_).symm⟩
 .obtain⟨e,he,q⟩:=(g.mem x).mp (any_eq_true.mpr ⟨x,hx,by simp⟩)
  exact⟨e,pm.mem_iff.mpr he,q⟩
 .rw[<-IntsAre.length h1,length_map,pm.length_eq,length_toList,g.len]
  exact le_refl _
theorem ME{a:Addr}{vs:List Value}{out:Array Value}(e:h.get? a=some (seqObj "list" vs.toArray 0)):(∃c,(sortedHeap h a vs out).get? a=some (seqObj "list" out.toList.toArray c))/\∀b,b≠a->∀o,h.get? b=some o->(sortedHeap h a vs out).get? b=some o:=by
 obtain⟨c1,e1⟩:∃c,(h.update a (Obj.mapSeq λ_=>#[])).get? a=some (seqObj "list" #[] c):=⟨_,get?_update_seq e λ_=>#[]⟩
 have e2:=get?_push_of_some (seqObj "list" #[] 0) (get?_push_of_some (seqObj "tuple" vs.toArray 0) e1)
 refine⟨⟨_,by rw[Array.toArray_toList];exact get?_update_seq e2 λ_=>out⟩,λb hb o q=>?_⟩
 unfold sortedHeap
 rw[get?_update_other _ _ (symm hb)]
 exact get?_push_of_some _ (get?_push_of_some _ (by rw[get?_update_other _ _ (symm hb)];exact q))
theorem Gj{K:Frag}{H:Hp}:∀{vs:List V}{us:List Value}{l:List Int},DVs K H vs (l.map int)->Vals vs us->IntsAre us l
 |_,_,[],.nil,.nil=>.nil
 |_,_,a::l,.cons d t,.cons r rs=>by
  have e:=d.of_int
  subst e
  obtain⟨tk,rfl⟩:=r
  exact .cons a tk (Gj t rs)
theorem Ig{K:Frag}{H:Hp}:∀{us:List Value}{l:List Int},IntsAre us l->Vals (l.map V.int) us/\DVs K H (l.map V.int) (l.map int)
 |_,_,.nil=>⟨.nil,.nil⟩
 |_,_,.cons n t hr=>by
  obtain⟨h1,h2⟩:=Ig (K:=K) (H:=H) hr
  exact⟨.cons ⟨t,rfl⟩ h1,.cons (.int n) h2⟩
theorem MH{l:List Int}(h:l.Pairwise (·<=·))(n:l.Nodup):l.Pairwise (· < ·):=by
 induction l with
 |nil=>exact .nil
 |cons a r ih=>
  obtain⟨h1,h2⟩:=pairwise_cons.mp h
  obtain⟨n1,n2⟩:=nodup_cons.mp n
  exact pairwise_cons.mpr ⟨λb hb=>by
   have:=h1 b hb
   have:a≠b:=λz=>n1 (z▸hb)
   omega,ih h2 n2⟩
variable{l:List Int}
section
variable{p:Pos}
end
theorem Em(h:EVF X G e ws):EV X G e (.list ws):=h.imp λσ H Q ⟨h,q⟩=>⟨h,λp us H' _ s' hl dv=>q _ _ s' (.lst (SqL.of hl) dv)⟩
theorem AS(ha:EV X G a (.list ds))(hg:Gl X "list")(hm:X.mg "list"=none)(he:starEach [a] X.env=(false,eval a X.env)::starEach [] X.env:=by rfl)(hpl:(backTo pos (starEach [] X.env)).any (·.1)=false:=by rfl):EVF X G (.Call (.Name "list" pos2) [a] [] pos) ds:=
 (HP call_list_of hg hm (by decide+kernel) (Aa ha Ac he) (by decide) (by decide) he hpl).imp λσ H Q ⟨h,q⟩=>⟨h,λvs H1 s1 d1=>by
  obtain⟨v,rfl,dv⟩:=d1.one
  obtain⟨l,us,rfl,hl,d1⟩:=dv.of_lst
  exact⟨l,us,rfl,.inl hl,λp hp=>q p us _ (s1.free hp) (s1.trans (Same.new hp)) Ah (d1.mono (Same.new hp))⟩⟩
structure OSh(K:Frag)(H0:Hp)(p t:Addr)(i:Nat)(G:Gam)(ds es:List PyData)(σ:St)(H:Hp):Prop where
 ne:p≠t
 ex:∃vs u,H p=some (.lst vs)/\H t=some (.lst [.ref p,u])/\DVs K (base2 H p t) vs ds/\DV K (base2 H p t) u (.list es)
 old:Same H0 (base2 H p t)
 sdb:SD K (base2 H p t) σ G
 hi:σ[i]?=some (some (.ref t))
abbrev UT(G:Gam)(i:Nat)(ds es:List PyData):Gam:=G.set i (some (.list [.list ds,.list es]))
section
variable{t:Addr}{es:List PyData}
end
section
variable{t:Addr}{m:Nat}{Pre Mid Post:P2}
end
variable{sl:Array (Option Value)}
section
variable{a:Addr}{its:Array Value}
end
variable{fp wr:List Addr}
section
variable{K:Type}[DecidableEq K]{knd:KeyKind prog w K}{I D:Addr}{P:Nat->Value->Prop}{St:Nat->Shared->Prop}{R:Result->Shared->Prop}
end
section
variable{K:Type}[DecidableEq K]{knd:KeyKind prog w K}{l:Addr}{its:Array Value}
end
variable{pins:List (Addr×Obj)}
theorem ML{s2:Shared}{us:List Value}{ks:List Int}{Q:VK}(I2:Inv X pins σ H s2)(iz:IntsAre us ks)(nd:ks.Nodup)(h64:us.length<64)
  (q:∀p ws H',H p=none->Same H H'->H' p=some (.lst ws)->DVs X.K H' ws ((srtI ks).map int)->Q (.ref p) H'):
  wpAny (model X.prog X.w) A (do
   let l <-newList us
   let _ <-holding [l] (call (.builtin "list.sort") [l] [])
   ret l) (λfin s'=>∃r,fin=.done (.ret r)/\EP X pins σ Q r s') E s2:=by
 refine wpAny_bind (wpAny_newList ?_ (by rw[sizeLine_eq];omega))
 have hoL:(s2.heap.push {cls:=.type "list",data:=.seq us.toArray}).get? s2.heap.objs.size=some (seqObj "list" us.toArray 0):=get?_push_size _ rfl
 refine wpAny_bind (wpAny_holding (wpAny_call_entry slot_list_sort ⟨_,hoL,rfl⟩ entry_list_sort (list_sort_tree hoL iz h64 λout ns' a1 a2 a3=>⟨_,rfl,?_⟩) (args_list_sort _)))
 refine wpAny_pure ⟨_,rfl,?_⟩
 have en:ns'=srtI ks:=FH (MH a3 (a2.nodup_iff.mpr nd)) (Fw ks) λx=>by rw[a2.mem_iff,EH]
 subst en
 obtain⟨vb,db⟩:=Ig (K:=X.K) (H:=upd H s2.heap.objs.size (.lst ((srtI ks).map V.int))) a1
 obtain⟨⟨c1,f1⟩,f2⟩:=ME (out:=out) hoL
 have hB:H s2.heap.objs.size=none:=I2.hok.fresh (le_refl _)
 have hl:(srtI ks).length<64:=by rw[a2.length_eq,<-IntsAre.length iz];exact h64
 have I3:=I2.laid (a:=s2.heap.objs.size) (o:=.lst ((srtI ks).map V.int)) (t':=s2.toks) (λb u e=>f2 b (ne_of_lt (lt_size e)) u (get?_push_of_some _ e)) (le_refl _) ⟨by rw[length_map,sizeLine_eq];omega,out.toList,c1,vb,f1⟩
 exact⟨.ref s2.heap.objs.size,_,I3,rfl,q _ _ _ hB (Same.new hB) Ah db⟩
def intOf:PyData->Int
 | .int i=>i
 |_=>0
theorem M6{K:Frag}{H:Hp}:∀{kvs:List (Key×V)}{es:List (PyData×PyData)}{vs:List (Key×Value)},DVk K H kvs es->(∀q∈es,∃i,q.1=.int i)->KV kvs vs->vs.map (·.1)=es.map λq=>.inl (intOf q.1)
 |_,_,_,.nil,_,.nil=>rfl
 |_,_,_,.cons (k:=k) h t,he,.cons r rs=>by
  obtain⟨i,e⟩:=he _ (mem_cons_self ..)
  rw[map_cons,map_cons,M6 t (λq hq=>he q (mem_cons_of_mem _ hq)) rs]
  congr 1
  have e':keyD k=.int i:=e
  cases k with
  |inl z=>exact r.1.symm
  |inr z=>cases e'
theorem Ii:∀{l:List Int},(l.map λi=>(Sum.inl i:Key)).Nodup->l.Nodup
 |[],_=>nodup_nil
 |a::l,h=>by
  obtain⟨h1,h2⟩:=nodup_cons.mp h
  exact nodup_cons.mpr ⟨λz=>h1 (mem_map_of_mem z),Ii h2⟩
theorem Lw{P:Program}{w:World}:∀{us:List Value}{ks:List Int},us.length=ks.length->(∀(j:Nat) (v:Value),us[j]?=some v->∃k,ks[j]?=some k/\(AC P w).is (.inl k) v=true)->IntsAre us ks
 |[],[],_,_=>.nil
 |[],_::_,h,_=>by cases h
 |_::_,[],h,_=>by cases h
 |u::us,k::ks,h,hk=>by
  obtain⟨k',e,hi⟩:=hk 0 u rfl
  have e:k=k':=Option.some.inj e
  subst e
  obtain⟨t,rfl⟩:=Value.isInt_shape (k:=k) (v:=u) hi
  exact .cons k t (Lw (by simpa using h) λj v hv=>hk (j+1) v (by simpa using hv))
section
variable{p:Pos}{es:List (PyData×PyData)}
theorem Jk(hcalm:X.calm=true)(ha:EV X G e (.dict es))(hes:∀q∈es,∃i,q.1=.int i)(hx:excC es=none)(h64:es.length<64)(hg:Gl X "sorted")(hm:X.mg "sorted"=none)
  (he:starEach [e] X.env=(false,eval e X.env)::starEach [] X.env:=by rfl)(hpl:(backTo pos (starEach [] X.env)).any (·.1)=false:=by rfl):
  EVF X G (.Call (.Name "sorted" p) [e] [] pos) ((srtI (es.map λq=>intOf q.1)).map int):=by
 intro pins s σ H Q I ⟨hσ,q⟩
 refine wpAny_Call_Name_kw (Dw I hg hm PyProof.Rows.boot_sorted (PyProof.Rows.callWith_builtin1 (thn (Aa ha Ac he pos pins s σ H _ I ⟨hσ,λvs H' s' dv=>(⟨s',dv⟩:Same H H'/\DVs X.K H' vs [.dict es])⟩) λus s1 ⟨vs,H1,I1,r1,sm,dv⟩=>?_) he hpl))
 obtain⟨v1,rfl,d1⟩:=dv.one
 obtain⟨d,kvs,rfl,hd,dk⟩:=d1.of_dct hx
 obtain⟨u1,rfl,ru⟩:=vals1 r1
 cases ru
 obtain⟨hn,hsys,vs,kv,hD⟩:=Pe I1.hok hd
 have ek:=M6 dk hes kv
 have hlv:vs.length=es.length:=by
  have:=congrArg List.length ek
  simpa using this
 obtain⟨od,eds,ep,ho1,ho2,ho3,ho4,ho5,ho6⟩:=id hD
 refine Calls.call_function_entry kind_sorted plain_sorted entry_sorted (args_sorted1 _) ?_
 unfold Builtin.«sorted»
 refine wpAny_bind (m:=checkCount "sorted" 1 1 _) (wpAny_pure ?_)
 refine wpAny_bind (PySem.W.kdu_collect (A:=X.A.in1) (PySem.W.kdl_dict (knd:=AC X.prog X.w) (kvs:=vs) (ep:=ep) (d:=d) hsys) (I1.ok.hd hcalm) ⟨od,eds,ho1,ho2,ho3,ho4,ho5,ho6⟩ (by rw[hlv,sizeLine_eq];omega) λh' tk acc kp it=>?_)
 have iz:IntsAre acc.toList (es.map λq=>intOf q.1):=by
  refine Lw (P:=X.prog) (w:=X.w) (by rw[length_toList,it.1,length_map,hlv]) λj v hv=>?_
  obtain⟨k,x,e1,e2⟩:=it.2 j v (by simpa using hv)
  have e3:(vs.map (·.1))[j]?=some k:=by rw[getElem?_map,e1];rfl
  rw[ek,getElem?_map]at e3
  obtain⟨q0,f1,f2⟩:=Option.map_eq_some_iff.mp e3
  exact⟨intOf q0.1,by rw[getElem?_map,f1];rfl,by rw[f2];exact e2⟩
 have nd:(es.map λq=>intOf q.1).Nodup:=by
  have:=ho6
  rw[ek]at this
  have h2:(es.map λq=>(Sum.inl (intOf q.1):Key))=(es.map λq=>intOf q.1).map Sum.inl:=by rw[map_map];rfl
  rw[h2]at this
  exact Ii this
 exact ML (I1.kept (t':=tk) kp) iz nd (by rw[IntsAre.length iz,length_map];exact h64) λp ws H' hp s' hl dv'=>q p ws H' (sm.free hp) (sm.trans s') hl dv'
end
def pairD(q:Int×Int):PyData:=.tuple [.int q.1,.int q.2]
def dI(m:List (Int×Int)):List (PyData×PyData):=m.map λq=>(.int q.1,.int q.2)
def getI(m:List (Int×Int))(a:Int):Int:=(m.lookup a).getD 0
def hasI(m:List (Int×Int))(a:Int):Bool:=m.any λq=>decide (q.1=a)
def putI(m:List (Int×Int))(a n:Int):List (Int×Int):=if hasI m a=true then m.map (λq=>if q.1=a then(q.1,n)else q)else m++[(a,n)]
theorem Op(m:List (Int×Int)):excC (dI m)=none:=by
 cases m with
 |nil=>rfl
 |cons a r=>cases r with
  |nil=>rfl
  |cons b r=>rfl
theorem DVk.valI(a:Int):∀{kvs:List (Key×V)}{m:List (Int×Int)},DVk K H kvs (dI m)->valV kvs (.inl a)=(m.lookup a).map V.int
 |kvs,[],h=>by
  cases h
  rfl
 |kvs,(k,n)::m,h=>by
  unfold dI at h
  rw[List.map_cons]at h
  generalize hk:(PyData.int (k,n).1,PyData.int (k,n).2)=kk at h
  cases h with
  |cons hd t=>
   rename_i k' x d xs
   injection hk with hk hn
   subst hn
   have hx:=hd.of_int
   subst hx
   cases k' with
   |inr z=>cases hk
   |inl z=>
    injection hk with hk
    have hk:k=z:=hk
    subst hk
    have ih:=DVk.valI a (m:=m) t
    unfold valV at ih ⊢
    rw[List.find?_cons,List.lookup_cons]
    by_cases e:k=a
    .subst e
     rw[decide_eq_true rfl,beq_self_eq_true]
     rfl
    .rw[decide_eq_false (λz=>e (Sum.inl.inj z)),beq_eq_false_iff_ne.mpr (Ne.symm e)]
     exact ih
section
variable{a:Addr}{xs:List V}
end
theorem DVk.intsK:∀(m:List (Int×Int)),DVk K H (m.map λq=>((.inl q.1:Key),V.int q.2)) (dI m)
 |[]=>.nil
 |(k,n)::m=>.cons (k:=.inl k) (.int n) (DVk.intsK m)
section
variable{p:Pos}{m:List (Int×Int)}
end
mutual
def kT:PyData->Bool
 | .int _=>true
 | .str x=>canLay0 (.str x)
 | .tuple xs=>kTs xs
 |_=>false
def kTs:List PyData->Bool
 |[]=>true
 |x::r=>kT x&&kTs r
end
mutual
def Mw(w:World):PyData->Int
 | .int i=>hashInt i
 | .str x=>hashStr w x
 | .tuple xs=>reduceHash (tupleHashOf (Bz w xs))
 |_=>0
def Bz(w:World):List PyData->List Int
 |[]=>[]
 |x::r=>Mw w x::Bz w r
end
mutual
def Mt:PyData->Nat
 | .tuple xs=>CG xs+1
 |_=>1
def CG:List PyData->Nat
 |[]=>0
 |x::r=>Mt x+CG r
end
theorem Eo(w:World):∀(xs ys:List PyData),Bz w (xs++ys)=Bz w xs++Bz w ys
 |[],_=>by simp[Bz]
 |x::xs,ys=>by simp[Bz,Eo w xs ys]
theorem En:∀(xs ys:List PyData),CG (xs++ys)=CG xs+CG ys
 |[],_=>by simp[CG]
 |x::xs,ys=>by simp[CG,En xs ys,add_assoc]
mutual
theorem IL:∀{d:PyData},kT d=true->d.canLay0=true
 | .int _,_=>rfl
 | .str _,h=>by unfold kT at h;exact h
 | .tuple xs,h=>by unfold canLay0;exact LU (by unfold kT at h;exact h)
 | .none,h=>by simp[kT]at h
 | .bool _,h=>by simp[kT]at h
 | .list _,h=>by simp[kT]at h
 | .dict _,h=>by simp[kT]at h
theorem LU:∀{ds:List PyData},kTs ds=true->canLayAll0 ds=true
 |[],_=>rfl
 |x::r,h=>by
  unfold kTs at h
  rw[and_eq_true]at h
  unfold canLayAll0
  rw[IL h.1,LU h.2]
  rfl
end
mutual
theorem Qm:∀(a b:PyData),kT a=true->kT b=true->(eqv a b=true↔a=b)
 | .int i,.int j,_,_=>by simp[eqv]
 | .str i,.str j,_,_=>by simp[eqv]
 | .int i,.str j,_,_=>by simp[eqv]
 | .str i,.int j,_,_=>by simp[eqv]
 | .int i,.tuple j,_,_=>by simp[eqv]
 | .str i,.tuple j,_,_=>by simp[eqv]
 | .tuple i,.int j,_,_=>by simp[eqv]
 | .tuple i,.str j,_,_=>by simp[eqv]
 | .tuple xs,.tuple ys,ha,hb=>by
   have:=Mc xs ys (by unfold kT at ha;exact ha) (by unfold kT at hb;exact hb)
   simp only[eqv,tuple.injEq]
   exact this
 | .none,_,h,_=>by simp[kT]at h
 | .bool _,_,h,_=>by simp[kT]at h
 | .list _,_,h,_=>by simp[kT]at h
 | .dict _,_,h,_=>by simp[kT]at h
 |_,.none,_,h=>by simp[kT]at h
 |_,.bool _,_,h=>by simp[kT]at h
 |_,.list _,_,h=>by simp[kT]at h
 |_,.dict _,_,h=>by simp[kT]at h
theorem Mc:∀(a b:List PyData),kTs a=true->kTs b=true->(eqvAll a b=true↔a=b)
 |[],[],_,_=>by simp[eqvAll]
 |[],_::_,_,_=>by simp[eqvAll]
 |_::_,[],_,_=>by simp[eqvAll]
 |x::xs,y::ys,ha,hb=>by
  unfold kTs at ha hb
  rw[and_eq_true]at ha hb
  have h1:=Qm x y ha.1 hb.1
  have h2:=Mc xs ys ha.2 hb.2
  simp only[eqvAll,and_eq_true,List.cons.injEq]
  rw[h1,h2]
end
theorem JV:∀x∈xs,x.depth<=depthAll xs:=by
 induction xs with
 |nil=>intro x hx;cases hx
 |cons y r ih=>
  intro x hx
  unfold depthAll
  rcases mem_cons.mp hx with rfl|hx
  .exact Nat.le_max_left _ _
  .exact le_trans (ih x hx) (Nat.le_max_right _ _)
def Ir(prog:Program)(w:World)(d:PyData):Prop:=∀(A:Around) (E:Value->Shared->Prop) (s:Shared) (v:Value) (as:List Addr) (Q:Int->Shared->Prop),A.units+d.depth<cLine->Reads s.heap v d as->Q (Mw w d) {s with toks:=s.toks+Mt d}->wpAny (model prog w) A (pyHash v) Q E s
theorem ON(hP:∀x∈xs,Ir prog w x):Ir prog w (.tuple xs):=by
 intro A E s v as Q hu hr h
 cases hr with
 | @tuple a o items n _ _ ho hc hd hi=>
 have hT:s.TypeIs (.ref a) "tuple":=⟨o,ho,hc⟩
 have hd1:depth (.tuple xs)=depthAll xs+1:=by first|rfl|simp[depth,add_comm]
 have hu0:A.units<cLine:=by omega
 unfold pyHash
 first|unfold pyHashByItsType|skip
 first|refine wpAny_bind (wpAny_cRoomFor_or (.inr hu0) ?_)|skip
 refine wpAny_bind (wpAny_specialOf hT F.slot_tuple_hash.lookup ?_)
 show wpAny _ _ (if(some (Value.builtin "tuple.__hash__")==some Value.none)=true then _ else _) Q E s
 rw[if_neg (by rw[beq_builtin_none];exact Bool.false_ne_true)]
 refine wpAny_bind (wpAny_specialOf hT F.slot_tuple_hash.lookup ?_)
 show wpAny _ _ (callSpecialIfBoundUnlessNone? (.ref a) "__hash__" _>>=_) Q E s
 refine wpAny_bind (wpAny_callSpecialIfBoundUnlessNone?_slot hT F.slot_tuple_hash (wpAny_call_entry F.slot_tuple_hash hT F.entry_tuple_hash ?_ (F.args_tuple_hash_1 _)))
 show wpAny _ _ (tupleItemsOf (.ref a)>>=_) _ _ s
 refine wpAny_bind (wpAny_tupleItemsOf ho hd ?_)
 refine wpAny_bind ?_
 rw[<-Array.forIn_toList]
 refine wpAny_forIn_list _
  (λrest (b:Array Int) s'=>∃done left bs,xs=done++left/\ReadsAll s.heap rest left bs/\b.toList=Bz w done/\s'={s with toks:=s.toks+CG done})
  _ ?_ ?_ _ _ ⟨[],xs,_,rfl,hi,rfl,rfl⟩
 .rintro x rest b s' ⟨done,left,bs,rfl,hl,hb,rfl⟩
  cases hl with
  | @cons _ _ k ks' as1 bs1 h1 hl'=>
    have hdk:k.depth<=depthAll (done++k::ks'):=JV k (by simp)
    refine wpAny_bind (hP k (by simp) _ _ _ _ as1 _ ?_ h1 ?_)
    .first
      |(show A.units+1+k.depth<cLine;omega)
      |(simp only[Around.units_in1];omega)
      |omega
    first
     |exact wpAny_pure ⟨done++[k],ks',bs1,by simp,hl',by simp[hb,Eo,Bz],by simp[En,CG,add_assoc]⟩
     |exact wpAny_bind (wpAny_pure (wpAny_pure ⟨done++[k],ks',bs1,by simp,hl',by simp[hb,Eo,Bz],by simp[En,CG,add_assoc]⟩))
 .rintro b s' ⟨done,left,bs,rfl,hl,hb,rfl⟩
  cases hl
  rw[append_nil]at h
  show wpAny _ _ (retInt (tupleHashOf b.toList)) _ _ _
  rw[hb]
  refine wpAny_ret_mkInt ?_
  show wpAny _ _ (if(decide (-(2:Int)^63<=tupleHashOf (Bz w done))&&decide (tupleHashOf (Bz w done)<2^63))=true then _ else _) Q E _
  unfold Mw reduceHash Mt at h
  by_cases hr:(decide (-(2:Int)^63<=tupleHashOf (Bz w done))&&decide (tupleHashOf (Bz w done)<2^63))=true
  .rw[if_pos hr]
   rw[if_pos hr]at h
   exact wpAny_pure (by simpa[add_assoc]using h)
  .rw[if_neg hr]
   rw[if_neg hr]at h
   exact wpAny_bind (wpAny_rule (wpAny_pure (by simpa[add_assoc]using h)))
mutual
theorem L9:∀(d:PyData),kT d=true->Ir prog w d
 | .int i,_=>λA E s v as Q _ hr h=>by
   cases hr
   exact wpAny_pyHash_int h
 | .str x,_=>λA E s v as Q _ hr h=>by
   cases hr
   exact wpAny_pyHash_str h
 | .tuple xs,h=>ON (JM xs (by unfold kT at h;exact h))
 | .none,h=>by simp[kT]at h
 | .bool _,h=>by simp[kT]at h
 | .list _,h=>by simp[kT]at h
 | .dict _,h=>by simp[kT]at h
theorem JM:∀(xs:List PyData),kTs xs=true->∀x∈xs,Ir prog w x
 |[],_,x,hx=>by cases hx
 |y::r,h,x,hx=>by
  have h':kT y=true/\kTs r=true:=by unfold kTs at h;rwa[and_eq_true]at h
  have h1:=L9 y h'.1
  have h2:=JM r h'.2
  rcases mem_cons.mp hx with e|hx
  .rw[e];exact h1
  .exact h2 x hx
end
def FX(prog:Program)(w:World)(d:PyData):Prop:=∀(n:Nat) (A:Around) (E:Value->Shared->Prop) (s:Shared) (v:Value) (as:List Addr) (Q:Bool->Shared->Prop),d.depth<=n->Reads s.heap v d as->Q true s->wpAny (model prog w) A (eqIsQuiet n v) Q E s
theorem MN(hP:∀x∈xs,FX prog w x):FX prog w (.tuple xs):=by
 intro n A E s v as Q hn hr h
 cases hr with
 | @tuple a o items n0 _ _ ho hc hd hi=>
 have hT:s.TypeIs (.ref a) "tuple":=⟨o,ho,hc⟩
 have hd1:depth (.tuple xs)=depthAll xs+1:=by first|rfl|simp[depth,add_comm]
 cases n with
 |zero=>omega
 |succ n=>
 unfold eqIsQuiet
 refine wpAny_bind (wpAny_specialOf hT F.slot_tuple_eq.lookup ?_)
 show wpAny _ _ (isInstance (.ref a) (.type "tuple")>>=_) _ _ s
 refine wpAny_bind (wpAny_isInstance hT isSubtype_tuple_tuple ?_)
 simp only[Bool.not_true,false_eq_true,if_false]
 refine wpAny_bind (wpAny_seqItems ho hd ?_)
 refine wpAny_bind ?_
 show wpAny _ _ (forIn items _ _) _ _ s
 rw[<-Array.forIn_toList]
 refine wpAny_forIn_list _ (λrest r s'=>r.1=none/\s'=s/\∃left bs,ReadsAll s.heap rest left bs/\∀x∈left,x∈xs) _ ?_ ?_ _ _ ⟨rfl,rfl,xs,_,hi,λx hx=>hx⟩
 .rintro v rest r s' ⟨hr,rfl,left,bs,hl,hm⟩
  cases hl with
  | @cons _ _ k ks' as1 bs1 h1 hl'=>
    have hk:k∈xs:=hm k mem_cons_self
    have hdk:k.depth<=depthAll xs:=JV k hk
    refine wpAny_bind (hP k hk n _ _ _ _ as1 _ (by omega) h1 ?_)
    simp only[Bool.not_true,false_eq_true,if_false]
    exact wpAny_pure ⟨rfl,rfl,ks',bs1,hl',λx hx=>hm x (mem_cons_of_mem _ hx)⟩
 .rintro⟨r1,r2⟩ s' ⟨hr,rfl,_⟩
  simp only at hr
  subst hr
  exact wpAny_pure h
mutual
theorem Kc:∀(d:PyData),kT d=true->FX prog w d
 | .int i,_=>λn A E s v as Q _ hr h=>by
   cases hr
   rw[eqIsQuiet_byValue _ rfl]
   exact wpAny_pure h
 | .str x,_=>λn A E s v as Q _ hr h=>by
   cases hr
   rw[eqIsQuiet_byValue _ rfl]
   exact wpAny_pure h
 | .tuple xs,h=>MN (HB xs (by unfold kT at h;exact h))
 | .none,h=>by simp[kT]at h
 | .bool _,h=>by simp[kT]at h
 | .list _,h=>by simp[kT]at h
 | .dict _,h=>by simp[kT]at h
theorem HB:∀(xs:List PyData),kTs xs=true->∀x∈xs,FX prog w x
 |[],_,x,hx=>by cases hx
 |y::r,h,x,hx=>by
  have h':kT y=true/\kTs r=true:=by unfold kTs at h;rwa[and_eq_true]at h
  have h1:=Kc y h'.1
  have h2:=HB r h'.2
  rcases mem_cons.mp hx with e|hx
  .rw[e];exact h1
  .exact h2 x hx
end
mutual
theorem HF{h h':Heap}{d:Addr}{o:Obj}{es ep}(ho:h.get? d=some o)(hd:o.data=.dict es ep)(hs:SameBut d h h'):∀(k:PyData) (v:Value) (as:List Addr),kT k=true->Reads h v k as->Reads h' v k as
 | .int i,v,as,_,r=>by cases r;exact .int i _
 | .str i,v,as,_,r=>by cases r;exact .str i _
 | .tuple xs,v,as,hk,r=>by
   cases r with
   | @tuple a ob items n _ _ h1 h2 h3 h4=>
     have hne:a≠d:=λe=>by
      subst e
      rw[ho]at h1
      cases h1
      rw[hd]at h3
      cases h3
     exact .tuple ((hs.2 a hne).trans h1) h2 h3 (EU ho hd hs xs _ _ (by unfold kT at hk;exact hk) h4)
 | .none,_,_,h,_=>by simp[kT]at h
 | .bool _,_,_,h,_=>by simp[kT]at h
 | .list _,_,_,h,_=>by simp[kT]at h
 | .dict _,_,_,h,_=>by simp[kT]at h
theorem EU{h h':Heap}{d:Addr}{o:Obj}{es ep}(ho:h.get? d=some o)(hd:o.data=.dict es ep)(hs:SameBut d h h'):∀(k:List PyData) (v:List Value) (as:List Addr),kTs k=true->ReadsAll h v k as->ReadsAll h' v k as
 |[],v,as,_,r=>by cases r;exact .nil
 |x::xs,v,as,hk,r=>by
  have hk':kT x=true/\kTs xs=true:=by unfold kTs at hk;rwa[and_eq_true]at hk
  cases r with
  |cons h1 h2=>exact .cons (HF ho hd hs x _ _ hk'.1 h1) (EU ho hd hs xs _ _ hk'.2 h2)
end
noncomputable instance decD:DecidableEq PyData:=λa b=>Classical.propDecidable (a=b)
def keyT(d:PyData):Prop:=kT d=true/\d.depth<=8
noncomputable def Pq (prog:Program) (w:World):HeapKind prog w PyData where
 is:=λh d a=>keyT d/\∃as,Reads h (.ref a) d as
 hash:=Mw w
 draws:=Mt
 room:=λA=>A.units+16<cLine
 inj:=λ{h a x y} ⟨hx,as,rx⟩ ⟨_,bs,ry⟩=>PySem.SeqAt.Reads.unique x y (.ref a) as bs (IL hx.1) rx ry
 keeps:=λ{h h' k a d o es ep} ⟨hk,as,r⟩ ho hd hs=>⟨hk,as,HF ho hd hs k _ as hk.1 r⟩
 pyHash:=λ{A E s k a Q} hu ⟨hk,as,r⟩ h=>L9 k hk.1 A E s _ as Q (by have:=hk.2;have hu:A.units+16<cLine:=hu;omega) r h
 eqBool:=λ{A E s x y a b Q} hu ⟨hx,as,rx⟩ ⟨hy,bs,ry⟩ h=>PySem.SeqAt.eqBoolOverData prog w A E s _ _ x y as bs Q rx ry (IL hx.1) (IL hy.1) (by have:=hx.2;have hu:A.units+16<cLine:=hu;omega) (by
  have e:eqv x y=decide (x=y):=by
   rw[Bool.eq_iff_iff,Qm x y hx.1 hy.1,decide_eq_true_iff]
  rw[e]
  exact h)
 quiet:=λ{A E s k a Q} ⟨hk,as,r⟩ h=>Kc k hk.1 8 A E s _ as Q hk.2 r h
def lef(L:List Addr)(H:Hp):Hp:=λb=>if b∈L then none else H b
theorem A5{L:List Addr}{b:Addr}(h:b∈L):lef L H b=none:=by unfold lef;rw[if_pos h]
theorem An{L:List Addr}{b:Addr}(h:b∉L):lef L H b=H b:=by unfold lef;rw[if_neg h]
theorem lef_same{L:List Addr}:Same (lef L H) H:=λb o e=>by
 by_cases h:b∈L
 .rw[A5 h]at e;cases e
 .rw[An h]at e;exact e
theorem Same.lef{L:List Addr}(s:Same H H'):Same (L2.lef L H) (L2.lef L H'):=λb o e=>by
 by_cases h:b∈L
 .rw[A5 h]at e;cases e
 .rw[An h]at e ⊢;exact s b o e
theorem QY{L M:List Addr}(h:∀b∈L,b∈M):Same (lef M H) (lef L H):=λb o e=>by
 by_cases hb:b∈M
 .rw[A5 hb]at e;cases e
 .rw[An hb]at e
  rw[An λz=>hb (h b z)]
  exact e
mutual
theorem DV.lef{K:PySem.W.Frag}{H:Hp}{L:List Addr}(hp:∀b∈L,∀xs,¬Rd H b (.tup xs)):∀{v:V}{d:PyData},DV K H v d->noL d=true->DV K (L2.lef L H) v d
 |_,_,.non,_=>.non
 |_,_,.bl b,_=>.bl b
 |_,_,.int i,_=>.int i
 |_,_,.str x,_=>.str x
 |_,_,.tup (a:=a) h t,f=>by
  refine .tup ?_ (DVs.lef hp t (by unfold noL at f;exact f))
  rcases h with h|h
  .have hn:a∉L:=λz=>hp a z _ h
   refine .inl ?_
   rcases h with h|⟨o,h⟩
   .exact .inl (by rw[An hn];exact h)
   .exact .inr ⟨o,by rw[An hn];exact h⟩
  .exact .inr h
 |_,_,.lst h t,f=>by unfold noL at f;cases f
 |_,_,.dct h t,f=>by unfold noL at f;cases f
 |_,_,.exc h,f=>by unfold noL at f;cases f
 |_,_,.exr h h',f=>by unfold noL at f;cases f
 |_,_,.obj h n t,f=>by unfold noL at f;cases f
 |_,_,.dtt h,f=>by unfold noL at f;cases f
theorem DVs.lef{K:PySem.W.Frag}{H:Hp}{L:List Addr}(hp:∀b∈L,∀xs,¬Rd H b (.tup xs)):∀{vs:List V}{ds:List PyData},DVs K H vs ds->noLs ds=true->DVs K (L2.lef L H) vs ds
 |_,_,.nil,_=>.nil
 |_,_,.cons h t,f=>by
  unfold noLs at f
  rw[Bool.and_eq_true]at f
  exact .cons (DV.lef hp h f.1) (DVs.lef hp t f.2)
end
mutual
theorem SA:∀{d:PyData},kT d=true->noL d=true
 | .int _,_=>rfl
 | .str _,_=>rfl
 | .tuple xs,h=>by unfold noL;exact Me (by unfold kT at h;exact h)
 | .none,h=>by simp[kT]at h
 | .bool _,h=>by simp[kT]at h
 | .list _,h=>by simp[kT]at h
 | .dict _,h=>by simp[kT]at h
theorem Me:∀{ds:List PyData},kTs ds=true->noLs ds=true
 |[],_=>rfl
 |x::r,h=>by
  unfold kTs at h
  rw[and_eq_true]at h
  unfold noLs
  rw[SA h.1,Me h.2]
  rfl
end
def Sb(P:Program)(w:World)(da:Addr)(xs:List (PyData×Addr×Value))(h:Heap):Prop:=
 (da==sysModules)=false/\xs.length<=sizeLine/\∃o es ep,h.get? da=some o/\o.ExactDict/\o.data=.dict es ep/\es.toList=xs.map (entryOfKey (Pq P w))/\(xs.map (·.1)).Nodup
section
variable{da b:Addr}{xs:List (PyData×Addr×Value)}
end
structure Reg where
 C:Addr
 a:Addr
 dx:Addr
 la:Addr
 da:Addr
abbrev Reg.L(R:Reg):List Addr:=[R.a,R.la,R.da]
def S9(K:Frag)(H:Hp)(T:List PyData)(xs:List (PyData×Addr×Value)):Prop:=
 xs.map (·.1)=T/\(∀x∈xs,DV K H (.ref x.2.1) x.1)/\∀(j:Nat) x,xs[j]?=some x->∃t,x.2.2=.int (j:Int) t
structure TabS(P:Program)(w:World)(K:Frag)(R:Reg)(T:List PyData)(Hb H:Hp)(fs:List (Str×V))(vs:List V)(xs:List (PyData×Addr×Value)):Prop where
 obj:H R.a=some (.ins R.C R.dx fs)
 f1:fs.lookup ("atoms":Str)=some (.ref R.la)
 f2:fs.lookup ("numbers":Str)=some (.ref R.da)
 fn:∀m:Str,m≠"atoms"->m≠"numbers"->fs.lookup m=none
 lst:H R.la=some (.lst vs)
 num:H R.da=some (.ext (Sb P w R.da xs))
 atoms:DVs K Hb vs T
 ents:S9 K Hb T xs
 keys:∀d∈T,keyT d
 few:T.length<1000
def Tb(P:Program)(w:World)(K:Frag)(R:Reg)(T:List PyData)(H:Hp):Prop:=∃fs vs xs,TabS P w K R T (lef R.L H) H fs vs xs
def RS(P:Program)(w:World)(K:Frag)(R:Reg)(G:Gam)(T:List PyData)(σ:St)(H:Hp):Prop:=σ[0]?=some (some (.ref R.a))/\Tb P w K R T H/\SD K (lef R.L H) σ G
variable{T:List PyData}
section
variable{R:Reg}
end
def tTR(P:Program)(w:World)(K:Frag)(R:Reg)(G:Gam)(T:List PyData)(d:PyData)(T':List PyData):TS:=λD σ H=>RS P w K R G T σ H/\∀v H',Tb P w K R T' H'->Same (lef R.L H) (lef R.L H')->DV K (lef R.L H') v d->D.rt v H'
variable{G1:Gam}{T1 T2:List PyData}
section
variable{R:Reg}{k:Bool}
end
structure ClsT(K:Frag)(C:Addr):Prop where
 cl:Cls K C
 n1:NoAttr K C "atoms"
 n2:NoAttr K C "numbers"
variable{m:Str}
section
variable{R:Reg}{k:Bool}
end
theorem DQ{L:List Addr}{o:HO}(h:p∈L):lef L (upd H p o)=lef L H:=by
 funext b
 by_cases hb:b∈L
 .rw[A5 hb,A5 hb]
 .rw[An hb,An hb,Ag λz=>hb (by rw[z];exact h)]
variable{pos4 p3 p4 p5 p6 p7:Pos}
section
variable{R:Reg}{pos5:Pos}
def Mid(P:Program)(w:World)(K:Frag)(R:Reg)(G:Gam)(T:List PyData)(d:PyData)(σ:St)(H0 H:Hp):Prop:=
 σ[0]?=some (some (.ref R.a))/\SD K (lef R.L H0) σ G/\∃fs vs xs b t,TabS P w K R T (lef R.L H0) H0 fs vs xs/\DV K (lef R.L H0) (.ref b) d/\H=upd H0 R.da (.ext (Sb P w R.da (xs++[(d,b,.int T.length t)])))
end
def spT(P:Program)(w:World)(K:Frag)(C:Addr)(F:List PyData->List PyData->PyData->List PyData->Prop):Sp:=λvs H Q _=>∃(R:Reg) (T ds:List PyData) (d:PyData) (T':List PyData) (vr:List V),R.C=C/\vs=.ref R.a::vr/\Tb P w K R T H/\DVs K (lef R.L H) vr ds/\F T ds d T'/\
 ∀v H',Tb P w K R T' H'->Same (lef R.L H) (lef R.L H')->DV K (lef R.L H') v d->Q v H'
theorem SD.cons0(h:SD K H σ G)(o:Option V):SD K H (o::σ) (none::G):=⟨by simp[h.1],λi d e=>by
 cases i with
 |zero=>simp at e
 |succ i=>
  simp at e
  obtain⟨v,h1,h2⟩:=h.2 i d e
  exact⟨v,by simpa using h1,h2⟩⟩
theorem Bh(n:Str)(N:List Str)(v:V)(vs:List V):start (n::N) (v::vs)=some v::start N vs:=by
 unfold start
 simp
section
variable{R:Reg}{k:Nat}
end
abbrev Tm:=Int×List (Int×Int)
open PySem PySem.Spec PyProof.Rows in
abbrev kys(m:List (Int×Int)):List Int:=m.map (·.1)
theorem CJ(q:Int×Int)(m:List (Int×Int))(a:Int):getI (q::m) a=if q.1=a then q.2 else getI m a:=by
 unfold getI
 rw[lookup_cons]
 by_cases h:q.1=a
 .subst h;simp
 .rw[if_neg h,beq_eq_false_iff_ne.mpr (symm h)]
theorem ET(m:List (Int×Int))(a:Int):hasI m a=true↔a∈kys m:=by
 unfold hasI
 rw[any_eq_true]
 constructor
 .rintro⟨q,hq,e⟩
  exact mem_map.mpr ⟨q,hq,of_decide_eq_true e⟩
 .intro h
  obtain⟨q,hq,e⟩:=mem_map.mp h
  exact⟨q,hq,decide_eq_true e⟩
theorem J_(a:Int)(n b:Int):∀(m:List (Int×Int)),a∉kys m->getI (m++[(a,n)]) b=if b=a then n else getI m b
 |[],_=>by
  show getI [(a,n)] b=_
  rw[CJ]
  by_cases h:b=a
  .subst h;simp
  .rw[if_neg h,if_neg λe=>h e.symm]
 |q::m,h=>by
  rw[cons_append,CJ,CJ,J_ a n b m λz=>h (mem_cons_of_mem _ z)]
  by_cases e:q.1=b
  .have:b≠a:=λz=>h (by rw[<-z,<-e];exact mem_cons_self)
   rw[if_pos e,if_neg this,if_pos e]
  .rw[if_neg e,if_neg e]
theorem GV(a:Int)(n b:Int):∀(m:List (Int×Int)),a∈kys m->getI (m.map λq=>if q.1=a then(q.1,n)else q) b=if b=a then n else getI m b
 |[],h=>by cases h
 |q::m,h=>by
  rw[map_cons,CJ,CJ]
  by_cases e:q.1=a
  .rw[if_pos e]
   by_cases eb:q.1=b
   .rw[if_pos eb,if_pos (by rw[<-eb,e])]
   .rw[if_neg eb,if_neg eb]
    by_cases hm:a∈kys m
    .exact GV a n b m hm
    .have:b≠a:=λz=>eb (by rw[e,z])
     rw[if_neg this]
     congr 1
     have key:∀l:List (Int×Int),a∉kys l->(l.map λq=>if q.1=a then(q.1,n)else q)=l:=by
      intro l
      induction l with
      |nil=>intro _;rfl
      |cons z l ih=>
       intro hz
       rw[map_cons,ih λy=>hz (mem_cons_of_mem _ y),if_neg λy=>hz (by rw[<-y];exact mem_cons_self)]
     exact key m hm
  .rw[if_neg e]
   have hm:a∈kys m:=by
    rcases mem_cons.mp h with z|z
    .exact absurd z.symm e
    .exact z
   by_cases eb:q.1=b
   .rw[if_pos eb,if_pos eb,if_neg λz=>e (by rw[eb,z])]
   .rw[if_neg eb,if_neg eb]
    exact GV a n b m hm
theorem Qu(m:List (Int×Int))(a n b:Int):getI (putI m a n) b=if b=a then n else getI m b:=by
 unfold putI
 by_cases h:hasI m a=true
 .rw[if_pos h]
  exact GV a n b m ((ET m a).mp h)
 .rw[if_neg h]
  exact J_ a n b m λz=>h ((ET m a).mpr z)
theorem LP(m:List (Int×Int))(a n:Int):kys (putI m a n)=if a∈kys m then kys m else kys m++[a]:=by
 unfold putI
 by_cases h:hasI m a=true
 .rw[if_pos h,if_pos ((ET m a).mp h)]
  unfold kys
  rw[map_map]
  congr 1
  funext q
  simp only[Function.comp]
  split<;>rfl
 .rw[if_neg h,if_neg λz=>h ((ET m a).mpr z)]
  simp[kys]
theorem MG{m:List (Int×Int)}(a n:Int)(h:(kys m).Nodup):(kys (putI m a n)).Nodup:=by
 rw[LP]
 split
 .exact h
 .rename_i hn
  rw[nodup_append]
  refine⟨h,by simp,λx hx y hy=>?_⟩
  rw[mem_singleton.mp hy]
  exact λe=>hn (e▸hx)
def made(w:Int)(m:List (Int×Int)):Tm:=(w%4096,((srtI (kys m)).filter λa=>!decide (getI m a%4096=0)).map λa=>(a,getI m a%4096))
def okA(a:Int):Prop:=0<=a/\a<63
structure Wf(t:Tm):Prop where
 n:0<=t.1/\t.1<4096
 rise:(kys t.2).Pairwise (· < ·)
 at_:∀a∈kys t.2,okA a
 many:∀q∈t.2,0<q.2/\q.2<4096
section
variable{t u v:Tm}{k n:Int}
end
def LtOk(x y:PyData)(k:Bool):Prop:=∀(prog:Program) (w:World) (A:Around) (E:Value->Shared->Prop) (s:Shared) (u v:Value) (as bs:List Addr) (Q:Value->Shared->Prop),Reads s.heap u x as->Reads s.heap v y bs->A.units+min x.depth y.depth<cLine->Q (.bool k) s->wpAny (model prog w) A (richCompare .Lt u v) Q E s
section
variable{f o:Expr}{m:List (Int×Int)}
theorem Rw{z n:Int}(hu:X.A.units+1<cLine)(ho:EV X G o (.dict (dI m)))(hi:EV X G a (.int z))(hf:EV X G f (.int 0))(m2:M2 X o "get" apos a f pos):EV X G (.Call (.Attribute o "get" apos) [a,f] [] pos) (.int (getI m z)):=
 (DL hu ho hi hf m2).imp λσ H Q ⟨h,q⟩=>⟨h,λy H1 s1 d1=>by
  obtain⟨ad,kvs,rfl,hk,dk⟩:=d1.of_dct (Op m)
  refine⟨ad,rfl,.inl ⟨kvs,.inl hk⟩,h.mono s1,λw H2 s2 d2=>⟨(h.mono s1).mono s2,λw3 H3 s3 d3=>?_⟩⟩
  have e2:=d2.of_int
  have e3:=d3.of_int
  subst e2 e3
  refine⟨_,DGet.k (k:=.inl z) (s3 _ _ (s2 _ _ hk)),q _ H3 ((s1.trans s2).trans s3) ?_⟩
  rw[dk.valI z]
  unfold getI
  cases m.lookup z with
  |none=>exact .int 0
  |some v=>exact .int v⟩
end
section
variable{Pre Post:Gam->List (PyData×PyData)->Prop}
end
section
variable{R:Reg}{k:Nat}
structure OT(P:Program)(w:World)(K:Frag)(R:Reg)(H0:Hp)(p:Addr)(T ws:List PyData)(σ:St)(H:Hp):Prop where
 len:σ.length=2
 s0:σ[0]?=some (some (.ref R.a))
 s1:σ[1]?=some (some (.ref p))
 off:p∉R.L
 lst:∃us,H p=some (.lst us)/\DVs K (lef (p::R.L) H) us ws
 tab:∃fs vs xs,TabS P w K R T (lef (p::R.L) H) H fs vs xs
 same:Same (lef R.L H0) (lef (p::R.L) H)
end
def MFn(P:Program)(w:World)(K:Frag)(mg:Str->Option Value)(base:Heap)(k:Nat)(C:Addr)(m:Str)(F:List PyData->PyData->Prop):Prop:=
 ∃f fd ps,FnOk P w K mg base CX0 k f fd ps (spD K F)/\Meth K C m f/\Binds K fd ps []
theorem Fun.dataM{qual:Str}{st:Stmt}{f:Addr}{fd:FuncData}{ps:List Str}{k:Nat}{C:Addr}{F:List PyData->PyData->Prop}(F0:Fun K x qual st f fd)(hm:Meth K C m f)(hb:Binds K fd ps [])(S:FnScope N ps (Ad st))(len:∀ds d,F ds d->ds.length=ps.length)
  (hbody:∀(cdv:Value) (A:Around) (outer:List Env) (s:Shared) (H:Hp) (E:XK) (ds:List PyData) (d:PyData),Room k (A.deeper (envOfC qual (Ad st) s.heap.objs.size f cdv))->F ds d->
   SVs (cxOf CX0 P w K mg base N qual (Ad st) f cdv A outer s H E).nox (AT N ds) (AB st) (.ret d)):MFn P w K mg base (k+1) C m F:=
 ⟨f,fd,ps,F0.ok S (λvs H Q E ⟨ds,d,h1,h2,_⟩=>h1.length.trans (len ds d h2)) (λcdv A outer s H vs Q E hr ⟨ds,d,h1,h2,q⟩=>⟨_,hbody cdv A outer s H E ds d hr h2,SD.start h1,q⟩),hm,hb⟩
variable{C:Addr}{k2:Nat}{fls:List (PyData×PyData)}{p8 p9:Pos}{xt:Str}
section
variable{k:Nat}{xa xf:Str}
theorem Bc{F:List PyData->PyData->Prop}{pl:Sem Bool}(cl:Cls X.K C)(D:MFn X.prog X.w X.K X.mg X.base k C m F)(hr:Room k X.A)(hv:EV X G (.Name x pos2) (objD C fls))(ha:AV X G (e::es) ds)(hF:F (objD C fls::ds) d)(h1:m∉AY:=by decide)
  (hst:Zst X e es:=by rfl)(hpl:(backTo pos (starEach es X.env)).any (·.1)=false:=by rfl)
  (ht:eval (.Call (.Attribute (.Name x pos2) m apos) (e::es) [] pos) X.env=(do
   let ov <-eval (.Name x pos2) X.env
   standAt apos.atName
   let(f,first) <-holding [ov] (getMethod ov m pl)
   callWith pos f first (backTo pos (starEach (e::es) X.env)) (backToKw pos (keywordEach [] X.env))):=by rfl):
  EV X G (.Call (.Attribute (.Name x pos2) m apos) (e::es) [] pos) d:=by
 obtain⟨f,fd,ps,ok,hm,hb⟩:=D
 refine(DS (E:=E0) (dvs:=[]) (ds:=[]) hv cl hm ok hr hb .nil Ci ha hst hpl ht).imp λσ H Q ⟨h,q⟩=>⟨h,λv H1 s1 d1=>?_⟩
 obtain⟨a,dx,fs,rfl,ho,hf,hn⟩:=d1.of_objN
 refine⟨a,dx,fs,rfl,ho,hn m h1,h.mono s1,λvs H2 s2 dvs=>?_⟩
 show spD X.K F (V.ref a::(vs++[])) H2 Q E0
 rw[append_nil]
 exact⟨_,d,.cons (d1.mono s2) dvs,hF,λv H3 s3 d3=>q v H3 ((s1.trans s2).trans s3) d3⟩
theorem AM{F:List PyData->PyData->Prop}{pl:Sem Bool}(cl:Cls X.K C)(D:MFn X.prog X.w X.K X.mg X.base k C m F)(hr:Room k X.A)(hv:EV X G (.Name x pos2) (objD C fls))(hF:F [objD C fls] d)(h1:m∉AY:=by decide)
  (ht:eval (.Call (.Attribute (.Name x pos2) m apos) [] [] pos) X.env=(do
   let ov <-eval (.Name x pos2) X.env
   standAt apos.atName
   let(f,first) <-holding [ov] (getMethod ov m pl)
   callWith pos f first (backTo pos (starEach [] X.env)) (backToKw pos (keywordEach [] X.env))):=by rfl):
  EV X G (.Call (.Attribute (.Name x pos2) m apos) [] [] pos) d:=by
 obtain⟨f,fd,ps,ok,hm,hb⟩:=D
 refine(GH (E:=E0) (dvs:=[]) (ds:=[]) hv cl hm ok hr hb .nil Ci ht).imp λσ H Q ⟨h,q⟩=>⟨h,λv H1 s1 d1=>?_⟩
 obtain⟨a,dx,fs,rfl,ho,hf,hn⟩:=d1.of_objN
 refine⟨a,dx,fs,rfl,ho,hn m h1,?_⟩
 show spD X.K F (V.ref a::([]++[])) H1 Q E0
 exact⟨_,d,.cons d1 .nil,hF,λv H3 s3 d3=>q v H3 (s1.trans s3) d3⟩
theorem Az(cl:Cls X.K C)(hn:NoAttr X.K C f)(hv:EV X G (.Name x pos2) (objD C fls))(hf:(.str f,d)∈fls)(hb:attributeBase (.Name x pos2) f X.env (eval (.Name x pos2) X.env)=eval (.Name x pos2) X.env:=by rfl):EV X G (.Attribute (.Name x pos2) f pos) d:=
 (GJ hv hb).imp λσ H Q ⟨h,q⟩=>⟨h,λv H1 s1 d1=>by
  obtain⟨a,dx,fs,rfl,ho,hfl,_⟩:=d1.of_objN
  obtain⟨u,e,du⟩:=hfl.get hf
  exact⟨a,C,dx,fs,u,rfl,ho,cl,hn,e,q u H1 s1 du⟩⟩
end
def bindL(is:List Nat)(d:PyData)(G:Gam):Gam:=match d with
 | .list ds=>Gr is ds G
 |_=>G
structure ZOk(L:List Addr)(I:Hp->Prop):Prop where
 step:∀{H H':Hp},I H->Same H H'->I H'
 notup:∀{H:Hp},I H->∀b∈L,∀xs,¬Rd H b (.tup xs)
 free:∀{H:Hp}{p:Addr},I H->H p=none->p∉L
def RZ(K:Frag)(L:List Addr)(I:Hp->Prop)(rs:List (Nat×Addr))(G:Gam)(σ:St)(H:Hp):Prop:=(∀q∈rs,σ[q.1]?=some (some (.ref q.2)))/\I H/\SD K (lef L H) σ G
def zE(K:Frag)(L:List Addr)(I:Hp->Prop)(rs:List (Nat×Addr))(G:Gam)(d:PyData)(I':Hp->Prop):TE:=λσ H Q=>RZ K L I rs G σ H/\∀v H',I' H'->Same (lef L H) (lef L H')->DV K (lef L H') v d->Q v H'
abbrev ZE(X:Cx)(L:List Addr)(I:Hp->Prop)(rs:List (Nat×Addr))(G:Gam)(e:Expr)(d:PyData)(I':Hp->Prop):Prop:=PE X e (zE X.K L I rs G d I')
def zT(K:Frag)(L:List Addr)(I:Hp->Prop)(rs:List (Nat×Addr))(G:Gam)(k:Bool):TT:=λσ H Q=>RZ K L I rs G σ H/\∀H',RZ K L I rs G σ H'->Same (lef L H) (lef L H')->Q k H'
abbrev ZT(X:Cx)(L:List Addr)(I:Hp->Prop)(rs:List (Nat×Addr))(G:Gam)(e:Expr)(k:Bool):Prop:=PT X e (zT X.K L I rs G k)
def zA(K:Frag)(L:List Addr)(I:Hp->Prop)(rs:List (Nat×Addr))(G:Gam)(ds:List PyData)(I':Hp->Prop):TA:=λσ H Q=>RZ K L I rs G σ H/\∀vs H',I' H'->Same (lef L H) (lef L H')->DVs K (lef L H') vs ds->Q vs H'
abbrev ZA(X:Cx)(L:List Addr)(I:Hp->Prop)(rs:List (Nat×Addr))(G:Gam)(es:List Expr)(ds:List PyData)(I':Hp->Prop):Prop:=PA X es (zA X.K L I rs G ds I')
def zN(K:Frag)(L:List Addr)(I:Hp->Prop)(rs:List (Nat×Addr))(G G':Gam)(I':Hp->Prop):TS:=λD σ H=>RZ K L I rs G σ H/\∀σ' H',RZ K L I' rs G' σ' H'->Same (lef L H) (lef L H')->D.nx σ' H'
def zR(K:Frag)(L:List Addr)(I:Hp->Prop)(rs:List (Nat×Addr))(G:Gam)(d:PyData)(I':Hp->Prop):TS:=λD σ H=>RZ K L I rs G σ H/\∀v H',I' H'->Same (lef L H) (lef L H')->DV K (lef L H') v d->D.rt v H'
variable{I1 I2:Hp->Prop}{rs:List (Nat×Addr)}
section
variable{L:List Addr}{I:Hp->Prop}{k:Bool}
theorem RZ.sd(r:RZ K L I rs G σ H):SD K H σ G:=r.2.2.mono lef_same
theorem RZ.step(ok:ZOk L I)(r:RZ K L I rs G σ H)(s:Same H H'):RZ K L I rs G σ H':=⟨r.1,ok.step r.2.1 s,r.2.2.mono s.lef⟩
theorem RZ.next(r:RZ K L I rs G σ H)(i:I1 H')(s:Same (lef L H) (lef L H')):RZ K L I1 rs G σ H':=⟨r.1,i,r.2.2.mono s⟩
theorem Bp(ok:ZOk L I)(h:EV X G e d)(hn:noL d=true):ZE X L I rs G e d I:=h.imp λσ H Q ⟨r,q⟩=>⟨r.sd,λv H' s' dv=>q v H' (ok.step r.2.1 s') s'.lef (DV.lef (ok.notup (ok.step r.2.1 s')) dv hn)⟩
theorem AH(ok:ZOk L I)(h:TV X G c k):ZT X L I rs G c k:=h.imp λσ H Q ⟨r,q⟩=>⟨r.sd,λH' s'=>q H' (r.step ok s') s'.lef⟩
theorem IT:ZA X L I rs G [] [] I:=pa_nil.imp λσ H Q ⟨r,q⟩=>q [] H r.2.1 (Same.refl _) .nil
theorem Cr(h:ZE X L I rs G e d I1)(hr:ZA X L I1 rs G es ds I2)(hs:Zst X e es:=by rfl):ZA X L I rs G (e::es) (d::ds) I2:=
 (Cq h hr hs).imp λσ H Q ⟨r,q⟩=>⟨r,λv H1 t1 s1 d1=>⟨r.next t1 s1,λvs H2 t2 s2 d2=>q (v::vs) H2 t2 (s1.trans s2) (.cons (d1.mono s2) d2)⟩⟩
theorem Sn{A:List Stmt}(h:ZT X L I rs G c k)(h1:k=true->PSs X A (zR X.K L I rs G d I1))(h2:k=false->PSs X sts (zR X.K L I rs G d I1)):PSs X (.If c A [] pos::sts) (zR X.K L I rs G d I1):=by
 cases k with
 |true=>exact(As (BG h (h1 rfl) (A2 (sts:=[]))) (A2 (sts:=sts))).imp λD σ H ⟨r,q⟩=>⟨r,λH' r' s'=>iteT ⟨r',λv H2 t2 s2 dv=>q v H2 t2 (s'.trans s2) dv⟩⟩
 |false=>exact(As (BG h (A2 (sts:=A)) pss_nil) (h2 rfl)).imp λD σ H ⟨r,q⟩=>⟨r,λH' r' s'=>iteF ⟨r',λv H2 t2 s2 dv=>q v H2 t2 (s'.trans s2) dv⟩⟩
theorem BS{A B:List Stmt}(h:ZT X L I rs G c k)(h1:k=true->PSs X A (zN X.K L I rs G G1 I1))(h2:k=false->PSs X B (zN X.K L I rs G G1 I1)):PS X (.If c A B pos) (zN X.K L I rs G G1 I1):=by
 cases k with
 |true=>exact(BG h (h1 rfl) (A2 (sts:=B))).imp λD σ H ⟨r,q⟩=>⟨r,λH' r' s'=>iteT ⟨r',λσ2 H2 r2 s2=>q σ2 H2 r2 (s'.trans s2)⟩⟩
 |false=>exact(BG h (A2 (sts:=A)) (h2 rfl)).imp λD σ H ⟨r,q⟩=>⟨r,λH' r' s'=>iteF ⟨r',λσ2 H2 r2 s2=>q σ2 H2 r2 (s'.trans s2)⟩⟩
theorem EB{st:Stmt}(h1:PS X st (zN X.K L I rs G G1 I1))(h2:PSs X sts (zR X.K L I1 rs G1 d I2)):PSs X (st::sts) (zR X.K L I rs G d I2):=
 (As h1 h2).imp λD σ H ⟨r,q⟩=>⟨r,λσ' H' r' s'=>⟨r',λv H2 t2 s2 dv=>q v H2 t2 (s'.trans s2) dv⟩⟩
theorem Aw{st:Stmt}(h1:PS X st (zN X.K L I rs G G1 I1))(h2:PSs X sts (zN X.K L I1 rs G1 G2 I2)):PSs X (st::sts) (zN X.K L I rs G G2 I2):=
 (As h1 h2).imp λD σ H ⟨r,q⟩=>⟨r,λσ' H' r' s'=>⟨r',λσ2 H2 r2 s2=>q σ2 H2 r2 (s'.trans s2)⟩⟩
theorem A6:PSs X [] (zN X.K L I rs G G I):=pss_nil.imp λD σ H ⟨r,q⟩=>q σ H r (Same.refl _)
theorem KQ(h:ZE X L I rs G e d I1):PSs X (.Return (some e) pos::sts) (zR X.K L I rs G d I1):=
 (As (Ek h) (A2 (sts:=sts))).imp λD σ H ⟨r,q⟩=>⟨r,q⟩
theorem Bb(hN:X.N.Nodup)(hi:X.N[i]?=some x)(hi0:i∉rs.map (·.1))(hx:Loc X.env.scope x)(h:ZE X L I rs G e d I1)(hs:swapsWith e (some (.Name x pos')) pos.line X.env=pure false:=by rfl)
  (hf:Zlo X x:=by first|exact .inl rfl|exact .inr rfl|assumption):PS X (.Assign [.Name x pos'] e pos) (zN X.K L I rs G (G.set i (some d)) I1):=
 (Bn hN hi hx h hs hf).imp λD σ H ⟨r,q⟩=>⟨r,λv H1 t1 s1 d1=>q _ H1 ⟨λz hz=>by rw[getElem?_set_ne λy=>hi0 (mem_map.mpr ⟨z,hz,y.symm⟩)];exact r.1 z hz,t1,(r.2.2.mono s1).set d1⟩ s1⟩
end
def Kz(K:Frag)(p:Addr)(S:List PyData)(H:Hp):Prop:=∃us,H p=some (.lst us)/\DVs K (lef [p] H) us S/\noLs S=true
def spK(K:Frag)(F:List PyData->List PyData->PyData->List PyData->Prop):Sp:=λvs H Q _=>∃(p:Addr) (S ds:List PyData) (d:PyData) (S':List PyData) (vr:List V),vs=.ref p::vr/\Kz K p S H/\DVs K (lef [p] H) vr ds/\F S ds d S'/\
 ∀v H',Kz K p S' H'->Same (lef [p] H) (lef [p] H')->DV K (lef [p] H') v d->Q v H'
def KFn(P:Program)(w:World)(K:Frag)(mg:Str->Option Value)(base:Heap)(k:Nat)(x:Str)(F:List PyData->List PyData->PyData->List PyData->Prop):Prop:=
 ∃f fd ps,FnOk P w K mg base CX0 k f fd ps (spK K F)/\mg x=some (.ref f)/\keepIn K (.ref f)=true/\Binds K fd ps []
variable{S:List PyData}
section
variable{k:Nat}
end
section
variable{o:Expr}
end
section
variable{L:List Addr}{I:Hp->Prop}{k:Bool}
end
def TKz(P:Program)(w:World)(K:Frag)(R:Reg)(ka:Addr)(T S:List PyData)(H:Hp):Prop:=Tb P w K R T H/\ka∉R.L/\∃us,H ka=some (.lst us)/\DVs K (lef (ka::R.L) H) us S/\noLs S=true
abbrev tkL(R:Reg)(ka:Addr):List Addr:=ka::R.L
variable{ka:Addr}{S':List PyData}
section
variable{R:Reg}{k:Nat}
end
section
variable{R:Reg}{k:Nat}
end
structure LS(P:Program)(w:World)(K:Frag)(R:Reg)(ka q:Addr)(H0:Hp)(T told:List PyData)(G:Gam)(σ:St)(H:Hp):Prop where
 r1:σ[1]?=some (some (.ref R.a))
 r2:σ[2]?=some (some (.ref ka))
 r3:σ[3]?=some (some (.ref q))
 tk:TKz P w K R ka T T H
 off:q∉tkL R ka
 lst:∃us,H q=some (.lst us)/\DVs K (lef (q::tkL R ka) H) us told
 nl:noLs told=true
 sd:SD K (lef (q::tkL R ka) H) σ G
 sm:Same H0 (lef (q::tkL R ka) H)
variable{told:List PyData}
section
variable{R:Reg}
theorem DP{v:V}(h:σ[i]?=some (some v)):σ.set i (some v)=σ:=by
 refine ext_getElem? λj=>?_
 by_cases hj:i=j
 .subst hj
  rw[getElem?_set_self (List.getElem?_eq_some_iff.mp h).1,h]
 .rw[getElem?_set_ne hj]
end
section
variable{told1 told2:List PyData}{k:Nat}{z:Str}
end
theorem IH(D:α->PyData)(xs:List α)(x:α):atI ((xs++[x]).map D) (-1)=some (D x):=by
 unfold atI
 have e:ixN ((xs++[x]).map D).length (-1)=some xs.length:=by
  unfold ixN
  rw[if_neg (by decide)]
  rw[if_pos (by simp;omega)]
  simp
  omega
 rw[e]
 simp
variable{body:List Stmt}
section
variable{k:Nat}{q1 q2 q3 q4 q5 q6:Pos}{xk xo:Str}
end
def Mo(a b:Int):Prop:=∃c:Int,a=b+4096*c
inductive Atm where
 |box (k:Int)
 |tru (k:Int)
 |cel (t:Tm) (n:Int)
 |two (o:Nat) (t u:Tm)
structure Sta where
 bx:List Int
 tr:List Bool
 rd:List ((Int×Int)×Int)
def rdG(rd:List ((Int×Int)×Int))(a n:Int):Int:=(rd.lookup (a,n)).getD 0
variable{tp:Pos}
theorem DV.of_pp{v:V}{m:List ((Int×Int)×Int)}(h:DV K H v (.dict (ppE m))):∃a m',v=.ref a/\H a=some (.dT (ppK m'))/\ppE m'=ppE m:=by
 generalize e:PyData.dict (ppE m)=d at h
 cases h with
 |dct h t=>
  injection e with e
  subst e
  have z:=GC t
  unfold ppE excC at z
  cases z
 |dtt h=>
  injection e with e
  exact⟨_,_,rfl,h,e.symm⟩
 |_=>unfold ppE at e;cases e
theorem Mg{m m':List ((Int×Int)×Int)}(h:ppE m'=ppE m):m'=m:=by
 unfold ppE at h
 injection h with _ h
 have:∀{l l':List ((Int×Int)×Int)},(l.map λq=>((tuple [.int q.1.1,.int q.1.2],int q.2):PyData×PyData))=l'.map (λq=>(tuple [.int q.1.1,.int q.1.2],int q.2))->l=l':=by
  intro l
  induction l with
  |nil=>intro l' h;cases l' with
   |nil=>rfl
   |cons a r=>cases h
  |cons a r ih=>intro l' h;cases l' with
   |nil=>cases h
   |cons b r2=>
    rw[map_cons,map_cons]at h
    injection h with h1 h2
    injection h1 with h1 h3
    injection h1 with h1
    injection h1 with h1 h4
    injection h4 with h4
    injection h1 with h1
    injection h4 with h4
    injection h3 with h3
    rw[ih h2,Prod.ext (Prod.ext h1 h4:a.1=b.1) h3]
 exact this h
theorem Oo(m:List ((Int×Int)×Int))(a b:Int):valV (ppK m) [.inl a,.inl b]=(m.lookup (a,b)).map V.int:=by
 unfold valV ppK
 induction m with
 |nil=>rfl
 |cons q m ih=>
  rw[map_cons,find?_cons,lookup_cons]
  by_cases h:q.1=(a,b)
  .have h':((a,b)==q.1)=true:=by rw[h];exact beq_self_eq_true _
   rw[h',decide_eq_true (by rw[h])]
   rfl
  .have h':((a,b)==q.1)=false:=beq_eq_false_iff_ne.mpr (symm h)
   rw[h',decide_eq_false λz=>h (by
    injection z with z1 z2
    injection z2 with z2
    exact Prod.ext (Sum.inl.inj z1) (Sum.inl.inj z2))]
   exact ih
section
variable{o f:Expr}{kt}{m:List ((Int×Int)×Int)}
theorem Qt{za zb:Int}(hu:X.A.units+1<cLine)(ho:EV X G o (.dict (ppE m)))(ha:EV X G a (.int za))(hb:EV X G b (.int zb))(hf:EV X G f (.int 0))(m2:M2 X o "get" apos (.Tuple [a,b] kt tp) f pos)
  (hs:starEach [a,b] X.env=(false,eval a X.env)::starEach [b] X.env:=by rfl)(hs2:starEach [b] X.env=(false,eval b X.env)::starEach [] X.env:=by rfl):EV X G (.Call (.Attribute o "get" apos) [.Tuple [a,b] kt tp,f] [] pos) (.int (rdG m za zb)):=
 (DL hu ho (KD (Aa ha (Aa hb Ac hs2) hs)) hf m2).imp λσ H Q ⟨h,q⟩=>⟨h,λy H1 s1 d1=>by
  obtain⟨ad,m',rfl,hk,em⟩:=d1.of_pp
  have em:=Mg em
  subst em
  refine⟨ad,rfl,.inr ⟨_,.inl hk⟩,h.mono s1,λvs H2 s2 d2=>⟨by rw[d2.length];show 2<=_;rw[sizeLine_eq];omega,λp hp=>⟨((h.mono s1).mono s2).mono (Same.new hp),λw3 H3 s3 d3=>?_⟩⟩⟩
  obtain⟨v1,v2,rfl,e1,e2⟩:=d2.two
  have e1:=e1.of_int
  have e2:=e2.of_int
  have e3:=d3.of_int
  subst e1 e2 e3
  have sn:Same H2 (upd H2 p (.tup [.int za,.int zb])):=Same.new hp
  refine⟨_,DGet.t (k:=[.inl za,.inl zb]) (s3 _ _ (sn _ _ (s2 _ _ hk))) (s3 _ _ Ah),q _ H3 (((s1.trans s2).trans sn).trans s3) ?_⟩
  rw[Oo]
  unfold rdG
  cases m'.lookup (za,zb)with
  |none=>exact .int 0
  |some v=>exact .int v⟩
end
theorem E7{a:Addr}{kvs:List (List Key×V)}{o:HO}(hp:H p=some (.dT kvs))(e:H a=some o)(n:∀k,o≠.dT k):a≠p:=λc=>by subst c;rw[hp]at e;cases e;exact n _ rfl
mutual
theorem DV.noDT{K:PySem.W.Frag}{H H':Hp}{p:Addr}{kvs:List (List Key×V)}(hp:H p=some (.dT kvs))(hH:∀a,a≠p->H' a=H a):∀{v:V}{d:PyData},DV K H v d->noK d=true->DV K H' v d
 |_,_,.non,_=>.non
 |_,_,.bl b,_=>.bl b
 |_,_,.int i,_=>.int i
 |_,_,.str x,_=>.str x
 |_,_,.tup (a:=a) h t,f=>by
  refine .tup ?_ (DVs.noDT hp hH t (by unfold noK at f;exact f))
  rcases h with(h|⟨o,h⟩)|h
  .exact .inl (.inl (by rw[hH a (E7 hp h λ_ c=>by cases c)];exact h))
  .exact .inl (.inr ⟨o,by rw[hH a (E7 hp h λ_ c=>by cases c)];exact h⟩)
  .exact .inr h
 |_,_,.lst (a:=a) h t,f=>by
  refine .lst ?_ (DVs.noDT hp hH t (by unfold noK at f;exact f))
  rcases h with(h|⟨o,h⟩)|h
  .exact .inl (.inl (by rw[hH a (E7 hp h λ_ c=>by cases c)];exact h))
  .exact .inl (.inr ⟨o,by rw[hH a (E7 hp h λ_ c=>by cases c)];exact h⟩)
  .exact .inr h
 |_,_,.dct h t,f=>by unfold noK at f;cases f
 |_,_,.exc h,f=>by unfold noK at f;cases f
 |_,_,.exr h h',f=>by unfold noK at f;cases f
 |_,_,.obj h n t,f=>by unfold noK at f;cases f
 |_,_,.dtt h,f=>by unfold noK at f;cases f
theorem DVs.noDT{K:PySem.W.Frag}{H H':Hp}{p:Addr}{kvs:List (List Key×V)}(hp:H p=some (.dT kvs))(hH:∀a,a≠p->H' a=H a):∀{v:List V}{d:List PyData},DVs K H v d->noKs d=true->DVs K H' v d
 |_,_,.nil,_=>.nil
 |_,_,.cons h t,f=>by
  unfold noKs at f
  rw[Bool.and_eq_true]at f
  exact .cons (DV.noDT hp hH h f.1) (DVs.noDT hp hH t f.2)
end
abbrev PM:=List ((Int×Int)×Int)
abbrev UQ(G:Gam)(i:Nat)(m:PM):Gam:=G.set i (some (.dict (ppE m)))
def OP(K:Frag)(H0:Hp)(p:Addr)(i:Nat)(G:Gam)(m:PM)(σ:St)(H:Hp):Prop:=
 ∃Hb,H=upd Hb p (.dT (ppK m))/\Hb p=none/\Same H0 Hb/\SD K Hb σ G/\σ[i]?=some (some (.ref p))
section
variable{Pre Mid Post:Gam->PM->Prop}{f:Expr}{kt}
end
theorem ints_get:∀{us:List Value}{ns:List Int},IntsAre us ns->∀{i:Nat}{v:Value},us[i]?=some v->∃t,v=.int (ns.getD i 0) t
 |_,_,.nil,i,v,h=>by simp at h
 |_,_,.cons k t r,i,v,h=>by
  cases i with
  |zero=>simp at h;exact⟨t,by rw[<-h];rfl⟩
  |succ i=>simpa using ints_get r (i:=i) (v:=v) (by simpa using h)
variable{kp:Pos}
section
variable{p:Pos}{d:Int}
end
section
variable{p:Pos}
end
section
variable{L:List Addr}{I:Hp->Prop}{k:Bool}
theorem Kr{A:List Stmt}(ok:ZOk L I)(h:ZT X L I rs G c false):PS X (.If c A [] pos) (zN X.K L I rs G G I):=BS h nofun (λ_=>A6)
end
section
variable{R:Reg}{k:Nat}
end
section
variable{k:Nat}
end
section
variable{R:Reg}{k:Nat}
end
def hM:Nat:=2^64
def hP1:Nat:=11400714785074694791
def hP2:Nat:=14029467366897019727
def hQ2:Nat:=839798700976720815
def hC:Nat:=2^^^(2870177450012600261^^^3527539)
def hRot(x:Nat):Nat:=(x*2^31)%hM+x/2^33
def hF(acc h:Nat):Nat:=(hRot ((acc+h*hP2)%hM)*hP1)%hM
def hG(a b:Nat):Nat:=(hF (hF 2870177450012600261 a) b+hC)%hM
def hB(a:Nat):Nat:=hF 2870177450012600261 a*hQ2%hM
def hBs(n:Nat):List Nat:=(range n).map λa=>hB a/2^44
section
variable{K:Type}[DecidableEq K]{knd:KeyKind prog w K}
end
structure PPAt(h:Heap)(a:Addr)(m:List ((Int×Int)×Int))(xs:List (List Key×Addr×Value)):Prop where
 len:xs.length=m.length
 at_:∀(i:Nat) q,m[i]?=some q->∃b t,xs[i]?=some ([.inl q.1.1,.inl q.1.2],b,.int q.2 t)
 dct:∀(P:Program) (w:World),h.DictOfH (tupleKind (AC P w)) a xs
variable{d1 d2 d3:PyData}
theorem three{vs:List V}(h:DVs K H vs [d1,d2,d3]):∃x y z,vs=[x,y,z]/\DV K H x d1/\DV K H y d2/\DV K H z d3:=by
 cases h with
 |cons h t=>
  obtain⟨y,z,rfl,h2,h3⟩:=t.two
  exact⟨_,y,z,rfl,h,h2,h3⟩
structure OR where
 C:Addr
 a:Addr
 dx:Addr
 ls:List (Str×Addr)
abbrev OR.L(R:OR):List Addr:=R.a::R.dx::R.ls.map (·.2)
abbrev LF:=List (Str×List PyData)
abbrev DF:=List (Str×PyData)
def upL(f:Str)(ds:List PyData)(lf:LF):LF:=lf.map λq=>if q.1=f then(q.1,ds)else q
def upD(f:Str)(d:PyData)(df:DF):DF:=df.map λq=>if q.1=f then(q.1,d)else q
theorem Kh(f:Str)(ds:List PyData)(lf:LF):(upL f ds lf).map (·.1)=lf.map (·.1):=by
 unfold upL
 rw[map_map]
 exact map_congr_left λq _=>by show(if q.1=f then(q.1,ds)else q).1=q.1;split<;>rfl
theorem J8(f:Str)(d:PyData)(df:DF):(upD f d df).map (·.1)=df.map (·.1):=by
 unfold upD
 rw[map_map]
 exact map_congr_left λq _=>by show(if q.1=f then(q.1,d)else q).1=q.1;split<;>rfl
variable{lf:LF}
theorem MB{q:Str×List PyData}(h:q∈upL f ds lf):(q.1=f/\q.2=ds/\f∈lf.map (·.1))\/(q.1≠f/\q∈lf):=by
 unfold upL at h
 obtain⟨r,hr,e⟩:=mem_map.mp h
 split at e
 .rename_i z
  refine .inl ⟨by rw[<-e];exact z,by rw[<-e],?_⟩
  rw[<-z]
  exact mem_map_of_mem hr
 .rename_i z
  subst e
  exact .inr ⟨z,hr⟩
variable{df:DF}
theorem Lx{q:Str×PyData}(h:q∈upD f d df):(q.1=f/\q.2=d/\f∈df.map (·.1))\/(q.1≠f/\q∈df):=by
 unfold upD at h
 obtain⟨r,hr,e⟩:=mem_map.mp h
 split at e
 .rename_i z
  refine .inl ⟨by rw[<-e];exact z,by rw[<-e],?_⟩
  rw[<-z]
  exact mem_map_of_mem hr
 .rename_i z
  subst e
  exact .inr ⟨z,hr⟩
theorem ED{f:Str}{v x:V}:∀{fs:List (Str×V)},fs.lookup f=some x->(putF f v fs).length=fs.length
 |[],h=>by cases h
 |(g,y)::r,h=>by
  show(if g=f then(g,v)::r else(g,y)::putF f v r).length=_
  by_cases e:g=f
  .rw[if_pos e];rfl
  .rw[if_neg e,length_cons,length_cons]
   rw[lookup_cons,show(f==g)=false from beq_eq_false_iff_ne.mpr (symm e)]at h
   rw[ED h]
structure OzS(K:Frag)(R:OR)(lf:LF)(df:DF)(Hb H:Hp)(fs:List (Str×V)):Prop where
 obj:H R.a=some (.ins R.C R.dx fs)
 own1:H R.dx=some (.own R.a)
 few:fs.length<=40
 nam:∀m:Str,m∉AY->fs.lookup m=none
 nda:R.L.Nodup
 apart:∀q∈df,q.1∉lf.map (·.1)
 own:∀q∈R.ls,∃us,H q.2=some (.lst us)
 lst:∀q∈lf,∃p us,(q.1,p)∈R.ls/\fs.lookup q.1=some (.ref p)/\H p=some (.lst us)/\DVs K Hb us q.2/\noLs q.2=true
 dat:∀q∈df,∃v,fs.lookup q.1=some v/\DV K Hb v q.2
def Oz(K:Frag)(R:OR)(lf:LF)(df:DF)(H:Hp):Prop:=∃fs,OzS K R lf df (lef R.L H) H fs
variable{R:OR}{Hb Hb':Hp}
theorem OzS.mono{fs:List (Str×V)}(t:OzS K R lf df Hb H fs)(s:Same Hb Hb')(s2:Same H H'):OzS K R lf df Hb' H' fs:=
 ⟨s2 _ _ t.obj,s2 _ _ t.own1,t.few,t.nam,t.nda,t.apart,λq hq=>let⟨us,h⟩:=t.own q hq;⟨us,s2 _ _ h⟩,λq hq=>let⟨p,us,h1,h2,h3,h4,h5⟩:=t.lst q hq;⟨p,us,h1,h2,s2 _ _ h3,h4.mono s,h5⟩,λq hq=>let⟨v,h1,h2⟩:=t.dat q hq;⟨v,h1,h2.mono s⟩⟩
theorem oz_ok:ZOk R.L (Oz K R lf df)where
 step:=λ⟨fs,t⟩ s=>⟨fs,t.mono s.lef s⟩
 notup:=@λH ⟨fs,t⟩ b hb xs r=>by
  have key:∀o:HO,H b=some o->(∀ys,o≠.tup ys)->(∀q u,o≠.frz q u)->False:=λo e h1 h2=>by
   rcases r with r|⟨q,r⟩
   .rw[e]at r;exact h1 _ (Option.some.inj r)
   .rw[e]at r;exact h2 _ _ (Option.some.inj r)
  rcases mem_cons.mp hb with e|e
  .exact key _ (by rw[e];exact t.obj) (λ_ z=>by cases z) (λ_ _ z=>by cases z)
  rcases mem_cons.mp e with e|e
  .exact key _ (by rw[e];exact t.own1) (λ_ z=>by cases z) (λ_ _ z=>by cases z)
  .obtain⟨q,hq,e⟩:=mem_map.mp e
   obtain⟨us,h⟩:=t.own q hq
   exact key _ (by rw[<-e];exact h) (λ_ z=>by cases z) (λ_ _ z=>by cases z)
 free:=λ⟨fs,t⟩ hp hm=>by
  rcases mem_cons.mp hm with e|e
  .have:=t.obj;rw[<-e,hp]at this;cases this
  rcases mem_cons.mp e with e|e
  .have:=t.own1;rw[<-e,hp]at this;cases this
  .obtain⟨q,hq,rfl⟩:=mem_map.mp e
   obtain⟨us,h⟩:=t.own q hq
   rw[hp]at h;cases h
def fldD(lf:LF)(df:DF):List (PyData×PyData):=(lf.map λq=>((.str q.1,.list q.2):PyData×PyData))++df.map λq=>(.str q.1,q.2)
theorem M9{K:Frag}{H:Hp}{fs:List (Str×V)}:∀{l:List (Str×PyData)},(∀q∈l,∃v,fs.lookup q.1=some v/\DV K H v q.2)->DVf K H fs (l.map λq=>((.str q.1,q.2):PyData×PyData))
 |[],_=>.nil
 |q::r,h=>by
  obtain⟨v,h1,h2⟩:=h q mem_cons_self
  exact .cons h1 h2 (M9 λz hz=>h z (mem_cons_of_mem _ hz))
theorem QF(lf:LF)(df:DF):fldD lf df=((lf.map λq=>((q.1,.list q.2):Str×PyData))++df).map λq=>((.str q.1,q.2):PyData×PyData):=by
 unfold fldD
 rw[map_append,map_map]
 rfl
theorem OzS.dv{L:List Addr}{fs:List (Str×V)}(t:OzS K R lf df (lef L H) H fs):DV K H (.ref R.a) (objD R.C (fldD lf df)):=by
 refine .obj t.obj t.nam ?_
 rw[QF]
 refine M9 λq hq=>?_
 rcases List.mem_append.mp hq with hq|hq
 .obtain⟨z,hz,rfl⟩:=List.mem_map.mp hq
  obtain⟨p,us,_,h2,h3,h4,_⟩:=t.lst z hz
  exact⟨.ref p,h2,.lst (SqL.of h3) (h4.mono lef_same)⟩
 .obtain⟨v,h1,h2⟩:=t.dat q hq
  exact⟨v,h1,h2.mono lef_same⟩
abbrev viewO(C:Addr)(lf:LF)(df:DF)(i:Nat)(G:Gam):Gam:=G.set i (some (objD C (fldD lf df)))
section
variable{k:Nat}
theorem RZ.viewO{K:PySem.W.Frag}{σ:St}{H:Hp}(r:RZ K R.L (Oz K R lf df) rs G σ H)(hi:(i,R.a)∈rs):SD K H σ (viewO R.C lf df i G):=by
 obtain⟨fs,t⟩:=id r.2.1
 have h1:=r.sd.set (i:=i) t.dv
 rw[DP (r.1 _ hi)]at h1
 exact h1
theorem DY(hi:(i,R.a)∈rs)(h:EV X (viewO R.C lf df i G) e d)(hn:noL d=true):ZE X R.L (Oz X.K R lf df) rs G e d (Oz X.K R lf df):=h.imp λσ H Q ⟨r,q⟩=>⟨r.viewO hi,λv H' s' dv=>q v H' (oz_ok.step r.2.1 s') s'.lef (DV.lef (oz_ok.notup (oz_ok.step r.2.1 s')) dv hn)⟩
theorem L8(hi:(i,R.a)∈rs)(h:AV X (viewO R.C lf df i G) es ds)(hn:noLs ds=true):ZA X R.L (Oz X.K R lf df) rs G es ds (Oz X.K R lf df):=h.imp λσ H Q ⟨r,q⟩=>⟨r.viewO hi,λv H' s' dv=>q v H' (oz_ok.step r.2.1 s') s'.lef (DVs.lef (oz_ok.notup (oz_ok.step r.2.1 s')) dv hn)⟩
theorem FW(cl:Cls X.K R.C)(na:NoAttr X.K R.C f)(hi:(i,R.a)∈rs)(hv:PE X (.Name x pos2) (tVar i))(h:EV X (viewO R.C lf df i G) e d)(hn:noL d=true)(hf:f∈df.map (·.1))(hA:f∈AY)
  (hs:swapsWith e (some (.Attribute (.Name x pos2) f pos')) pos.line X.env=pure false:=by rfl):PS X (.Assign [.Attribute (.Name x pos2) f pos'] e pos) (zN X.K R.L (Oz X.K R lf df) rs G G (Oz X.K R lf (upD f d df))):=by
 refine(G5 hv h hs).imp λD σ H ⟨r,q⟩=>⟨r.viewO hi,λy H1 s1 d1=>?_⟩
 have i1:=oz_ok.step r.2.1 s1
 obtain⟨fs,t⟩:=id i1
 refine⟨.ref R.a,r.1 _ hi,R.a,R.C,R.dx,fs,rfl,t.obj,cl,na,by have:=t.few;omega,?_⟩
 have eL:lef R.L (upd H1 R.a (.ins R.C R.dx (putF f y fs)))=lef R.L H1:=DQ mem_cons_self
 obtain⟨q0,hq0,e0⟩:=mem_map.mp hf
 obtain⟨v0,l0,_⟩:=t.dat q0 hq0
 rw[e0]at l0
 have hlf:f∉lf.map (·.1):=by rw[<-e0];exact t.apart q0 hq0
 have nal:∀p∈R.ls.map (·.2),p≠R.a:=λp hp z=>(nodup_cons.mp t.nda).1 (z▸mem_cons_of_mem _ hp)
 have nad:R.dx≠R.a:=λz=>(nodup_cons.mp t.nda).1 (z▸mem_cons_self)
 refine q σ _ ⟨r.1,⟨putF f y fs,?_⟩,?_⟩ ?_
 .rw[eL]
  refine⟨Ah,by rw[Ag nad];first|exact t1.own1|exact t.own1,by rw[ED l0];exact t.few,λm hm=>?_,t.nda,λz hz=>?_,λz hz=>?_,λz hz=>?_,λz hz=>?_⟩
  .rw[Ax,if_neg (λw:m=f=>hm (w▸hA))]
   exact t.nam m hm
  .have:z.1∈(upD f d df).map (·.1):=mem_map_of_mem hz
   rw[J8]at this
   obtain⟨z',hz',ez⟩:=mem_map.mp this
   rw[<-ez]
   exact t.apart z' hz'
  .obtain⟨us,hu⟩:=t.own z hz
   exact⟨us,by rw[Ag (nal _ (mem_map_of_mem hz))];exact hu⟩
  .obtain⟨p,us,h1,h2,h3,h4,h5⟩:=t.lst z hz
   refine⟨p,us,h1,?_,?_,h4,h5⟩
   .rw[Ax,if_neg (λw:z.1=f=>hlf (w▸mem_map_of_mem hz))]
    exact h2
   .rw[Ag (nal _ (mem_map_of_mem (f:=(·.2)) h1))]
    exact h3
  .rcases Lx hz with⟨e1,e2,_⟩|⟨e1,e2⟩
   .rw[e1,e2]
    exact⟨y,by rw[Ax,if_pos rfl],DV.lef (oz_ok.notup i1) d1 hn⟩
   .obtain⟨v,h1,h2⟩:=t.dat z e2
    exact⟨v,by rw[Ax,if_neg e1];exact h1,h2⟩
 .rw[eL];exact r.2.2.mono s1.lef
 .rw[eL];exact s1.lef
theorem Ph{z n:Int}(cl:Cls X.K R.C)(na:NoAttr X.K R.C f)(hi:(i,R.a)∈rs)(hv:PE X (.Name x pos2) (tVar i))(h:EV X (viewO R.C lf df i G) e (.int n))(hf:(f,.int z)∈df)(hA:f∈AY):PS X (.AugAssign (.Attribute (.Name x pos2) f pos') .Add e pos) (zN X.K R.L (Oz X.K R lf df) rs G G (Oz X.K R lf (upD f (.int (z+n)) df))):=by
 refine(MT hv h Qv).imp λD σ H ⟨r,q⟩=>?_
 obtain⟨fs,t⟩:=id r.2.1
 obtain⟨v0,l0,dv0⟩:=t.dat _ hf
 have dv0:=dv0.of_int
 subst dv0
 refine⟨.ref R.a,r.1 _ hi,R.a,R.C,R.dx,fs,.int z,rfl,t.obj,cl,na,l0,r.viewO hi,λy H1 s1 d1=>?_⟩
 have d1:=d1.of_int
 subst d1
 have i1:=oz_ok.step r.2.1 s1
 refine⟨z,n,rfl,rfl,R.dx,fs,s1 _ _ t.obj,by have:=t.few;omega,?_⟩
 have t1:=t.mono s1.lef s1
 have eL:lef R.L (upd H1 R.a (.ins R.C R.dx (putF f (.int (z+n)) fs)))=lef R.L H1:=DQ mem_cons_self
 have hlf:f∉lf.map (·.1):=t.apart _ hf
 have nal:∀p∈R.ls.map (·.2),p≠R.a:=λp hp z=>(nodup_cons.mp t.nda).1 (z▸mem_cons_of_mem _ hp)
 have nad:R.dx≠R.a:=λz=>(nodup_cons.mp t.nda).1 (z▸mem_cons_self)
 refine q σ _ ⟨r.1,⟨putF f (.int (z+n)) fs,?_⟩,?_⟩ ?_
 .rw[eL]
  refine⟨Ah,by rw[Ag nad];first|exact t1.own1|exact t.own1,by rw[ED l0];exact t.few,λm hm=>?_,t.nda,λz hz=>?_,λz hz=>?_,λz hz=>?_,λz hz=>?_⟩
  .rw[Ax,if_neg (λw:m=f=>hm (w▸hA))]
   exact t.nam m hm
  .have:z.1∈(upD f _ df).map (·.1):=mem_map_of_mem hz
   rw[J8]at this
   obtain⟨z',hz',ez⟩:=mem_map.mp this
   rw[<-ez]
   exact t.apart z' hz'
  .obtain⟨us,hu⟩:=t1.own z hz
   exact⟨us,by rw[Ag (nal _ (mem_map_of_mem hz))];exact hu⟩
  .obtain⟨p,us,h1,h2,h3,h4,h5⟩:=t1.lst z hz
   refine⟨p,us,h1,?_,?_,h4,h5⟩
   .rw[Ax,if_neg (λw:z.1=f=>hlf (w▸mem_map_of_mem hz))]
    exact h2
   .rw[Ag (nal _ (mem_map_of_mem (f:=(·.2)) h1))]
    exact h3
  .rcases Lx hz with⟨e1,e2,_⟩|⟨e1,e2⟩
   .rw[e1,e2]
    exact⟨_,by rw[Ax,if_pos rfl],.int _⟩
   .obtain⟨v,h1,h2⟩:=t1.dat z e2
    exact⟨v,by rw[Ax,if_neg e1];exact h1,h2⟩
 .rw[eL];exact r.2.2.mono s1.lef
 .rw[eL];exact s1.lef
theorem OzS.put{fs:List (Str×V)}(t:OzS K R lf df (lef R.L H) H fs)(hp:(f,p)∈R.ls)(hf:fs.lookup f=some (.ref p))(dv:DVs K (lef R.L H) us ds)(hn:noLs ds=true):Oz K R (upL f ds lf) df (upd H p (.lst us)):=by
 have hpL:p∈R.L:=List.mem_cons_of_mem _ (List.mem_cons_of_mem _ (List.mem_map_of_mem (f:=(·.2)) hp))
 have eL:lef R.L (upd H p (.lst us))=lef R.L H:=DQ hpL
 have npa:R.a≠p:=λz=>(List.nodup_cons.mp t.nda).1 (by rw[z];exact List.mem_cons_of_mem _ (List.mem_map_of_mem (f:=(·.2)) hp))
 have npd:R.dx≠p:=λz=>(List.nodup_cons.mp (List.nodup_cons.mp t.nda).2).1 (by rw[z];exact List.mem_map_of_mem (f:=(·.2)) hp)
 refine⟨fs,?_⟩
 rw[eL]
 refine⟨by rw[Ag npa];exact t.obj,by rw[Ag npd];exact t.own1,t.few,t.nam,t.nda,λz hz=>by rw[Kh];exact t.apart z hz,λz hz=>?_,λz hz=>?_,t.dat⟩
 .by_cases e:z.2=p
  .rw[e];exact⟨us,Ah⟩
  .rw[Ag e];exact t.own z hz
 .rcases MB hz with⟨e1,e2,_⟩|⟨e1,e2⟩
  .rw[e1,e2]
   exact⟨p,us,hp,hf,Ah,dv,hn⟩
  .obtain⟨p',us',h1,h2,h3,h4,h5⟩:=t.lst z e2
   have hne:p'≠p:=λw=>by
    subst w
    have:∀{l:List (Str×Addr)},(l.map (·.2)).Nodup->(f,p')∈l->(z.1,p')∈l->z.1=f:=by
     intro l
     induction l with
     |nil=>intro _ h;cases h
     |cons y r ih=>
      intro hn h1 h2
      rw[List.map_cons,List.nodup_cons]at hn
      rcases List.mem_cons.mp h1 with e|h1<;>rcases List.mem_cons.mp h2 with e'|h2
      .rw[<-e']at e;cases e;rfl
      .exact absurd (by rw[<-e];exact List.mem_map_of_mem (f:=(·.2)) h2) hn.1
      .exact absurd (by rw[<-e'];exact List.mem_map_of_mem (f:=(·.2)) h1) hn.1
      .exact ih hn.2 h1 h2
    exact e1 (this (List.nodup_cons.mp (List.nodup_cons.mp t.nda).2).2 hp h1)
   exact⟨p',us',h1,h2,by rw[Ag hne];exact h3,h4,h5⟩
theorem CQ{z:Int}(cl:Cls X.K R.C)(na:NoAttr X.K R.C f)(hi:(i,R.a)∈rs)(hv:PE X (.Name x pos2) (tVar i))(h:EV X (viewO R.C lf df i G) e d)(hn:noL d=true)(hb:EV X (viewO R.C lf df i G) b (.int z))(hf:(f,ds)∈lf)(z0:0<=z)(z1:z<ds.length)
  (hba:attributeBase (.Name x pos2) f X.env (eval (.Name x pos2) X.env)=eval (.Name x pos2) X.env:=by rfl)
  (ha:∀v,assign (.Subscript (.Attribute (.Name x pos2) f pos4) b pos3) X.env v=(do
   let ov <-holding [v] (eval (.Attribute (.Name x pos2) f pos4) X.env)
   let iv <-holding [v,ov] (eval b X.env)
   standAt pos3
   holding [v,ov,iv] (setItem ov iv v)
   release [v,ov,iv] []):=by intro _;rfl)
  (hs:swapsWithSole [.Subscript (.Attribute (.Name x pos2) f pos4) b pos3] e pos.line X.env=pure false:=by rfl)(hw:swappedStores [.Subscript (.Attribute (.Name x pos2) f pos4) b pos3] e X.env=pure none:=by rfl)
  (h1:(assignEach [.Subscript (.Attribute (.Name x pos2) f pos4) b pos3] X.env).map (·.2)=[assign (.Subscript (.Attribute (.Name x pos2) f pos4) b pos3) X.env]:=by rfl):PS X (.Assign [.Subscript (.Attribute (.Name x pos2) f pos4) b pos3] e pos) (zN X.K R.L (Oz X.K R lf df) rs G G (Oz X.K R (upL f (ds.set z.toNat d) lf) df)):=by
 refine(Ez h (Pu (GJ hv hba) hb set_list ha) hs hw h1).imp λD σ H ⟨r,q⟩=>⟨r.viewO hi,λv H1 s1 d1=>?_⟩
 have r1:=r.step oz_ok s1
 obtain⟨fs,t⟩:=id r1.2.1
 obtain⟨p,us,hp,hl,hu,du,nd⟩:=t.lst _ hf
 refine⟨.ref R.a,r.1 _ hi,R.a,R.C,R.dx,fs,.ref p,rfl,t.obj,cl,na,hl,r1.viewO hi,λw H2 s2 d2=>?_⟩
 have d2:=d2.of_int
 subst d2
 have r2:=r1.step oz_ok s2
 have t2:=t.mono s2.lef s2
 have dv2:=DV.lef (oz_ok.notup r2.2.1) (d1.mono s2) hn
 have eL:lef R.L (upd H2 p (.lst (us.set z.toNat v)))=lef R.L H2:=DQ (mem_cons_of_mem _ (mem_cons_of_mem _ (mem_map_of_mem (f:=(·.2)) hp)))
 have hlen:us.length=ds.length:=du.length
 refine⟨p,us,z,z.toNat,rfl,rfl,s2 _ _ hu,?_,?_⟩
 .unfold ixN
  rw[if_pos z0,if_pos (by rw[hlen];exact z1)]
 .refine q σ _ ⟨r.1,t2.put hp hl ((du.mono s2.lef).setAt dv2 _) ?_,?_⟩ ?_
  .have:∀(l:List PyData) (n:Nat),noLs l=true->noLs (l.set n d)=true:=by
    intro l
    induction l with
    |nil=>intro n h;exact h
    |cons y r ih=>
     intro n h
     unfold noLs at h
     rw[and_eq_true]at h
     cases n with
     |zero=>rw[List.set_cons_zero];unfold noLs;rw[hn,h.2];rfl
     |succ n=>rw[List.set_cons_succ];unfold noLs;rw[h.1,ih n h.2];rfl
   exact this ds _ nd
  .rw[eL];exact r2.2.2
  .rw[eL];exact s1.lef.trans s2.lef
theorem Im(cl:Cls X.K R.C)(na:NoAttr X.K R.C f)(hi:(i,R.a)∈rs)(hv:PE X (.Name x pos2) (tVar i))(h:EV X (viewO R.C lf df i G) e d)(hn:noL d=true)(hf:(f,ds)∈lf)(hz:ds.length<sizeLine)
  (hba:attributeBase (.Name x pos2) f X.env (eval (.Name x pos2) X.env)=eval (.Name x pos2) X.env:=by rfl)
  (hb2:attributeBase (.Attribute (.Name x pos2) f pos3) "append" X.env (eval (.Attribute (.Name x pos2) f pos3) X.env)=eval (.Attribute (.Name x pos2) f pos3) X.env:=by rfl)
  (hs0:starEach [e] X.env=(false,eval e X.env)::starEach [] X.env:=by rfl)
  (hfew:((backTo pos' (starEach [e] X.env)).all (λx=>!x.1)&&(backToKw pos' (keywordEach [] X.env)).all (λx=>x.1.isSome)
   &&decide ([e].length+([]:List Keyword).length+(if([]:List Keyword).isEmpty then 0 else 1)<30))=true:=by rfl)
  (hline:(pos4.endLine==pos'.line)=true:=by rfl)(hpl:(backTo pos' (starEach [] X.env)).any (·.1)=false:=by rfl)
  (hsw:swapsWith (.Call (.Attribute (.Attribute (.Name x pos2) f pos3) "append" pos4) [e] [] pos') none pos.line X.env=pure false:=by rfl):
  PS X (.Expr (.Call (.Attribute (.Attribute (.Name x pos2) f pos3) "append" pos4) [e] [] pos') pos) (zN X.K R.L (Oz X.K R lf df) rs G G (Oz X.K R (upL f (ds++[d]) lf) df)):=by
 refine(Cu (Jg plainAttrs_list PySem.F.slot_list_append PySem.F.type_list_append Fg (GJ hv hba) (Aa h Ac hs0) hb2 hfew hline hs0 hpl) hsw).imp λD σ H ⟨r,q⟩=>?_
 obtain⟨fs,t⟩:=id r.2.1
 obtain⟨p,us,hp,hl,hu,du,nd⟩:=t.lst _ hf
 refine⟨.ref R.a,r.1 _ hi,R.a,R.C,R.dx,fs,.ref p,rfl,t.obj,cl,na,hl,.inl ⟨rfl,us,SqL.of hu⟩,r.viewO hi,λvs H1 s1 dvs=>?_⟩
 obtain⟨v,rfl,dv⟩:=dvs.one
 have r1:=r.step oz_ok s1
 have t1:=t.mono s1.lef s1
 have dv1:=DV.lef (oz_ok.notup r1.2.1) dv hn
 have eL:lef R.L (upd H1 p (.lst (us++[v])))=lef R.L H1:=DQ (mem_cons_of_mem _ (mem_cons_of_mem _ (mem_map_of_mem (f:=(·.2)) hp)))
 refine⟨p,us,v,rfl,rfl,s1 _ _ hu,by rw[du.length];exact hz,q σ _ ⟨r.1,t1.put hp hl ((du.mono s1.lef).append (.cons dv1 .nil)) ?_,?_⟩ ?_⟩
 .have:∀xs:List PyData,noLs xs=true->noLs (xs++[d])=true:=by
   intro xs
   induction xs with
   |nil=>intro _;show(noL d&&true)=true;rw[hn];rfl
   |cons y r ih=>
    intro h
    rw[cons_append]
    unfold noLs at h ⊢
    rw[and_eq_true]at h
    rw[h.1,ih h.2]
    rfl
  exact this ds nd
 .rw[eL];exact r1.2.2
 .rw[eL];exact s1.lef
end
def spO(K:Frag)(C:Addr)(F:LF->DF->List PyData->PyData->LF->DF->Prop):Sp:=λvs H Q _=>∃(R:OR) (lf:LF) (df:DF) (ds:List PyData) (d:PyData) (lf':LF) (df':DF) (vr:List V),R.C=C/\vs=.ref R.a::vr/\Oz K R lf df H/\DVs K (lef R.L H) vr ds/\F lf df ds d lf' df'/\
 ∀v H',Oz K R lf' df' H'->Same (lef R.L H) (lef R.L H')->DV K (lef R.L H') v d->Q v H'
def OFn(P:Program)(w:World)(K:Frag)(mg:Str->Option Value)(base:Heap)(k:Nat)(C:Addr)(m:Str)(F:LF->DF->List PyData->PyData->LF->DF->Prop):Prop:=
 ∃f fd ps,FnOk P w K mg base CX0 k f fd ps (spO K C F)/\Meth K C m f/\Binds K fd ps []
theorem Fun.objM{qual n0:Str}{st:Stmt}{f:Addr}{fd:FuncData}{ps:List Str}{k:Nat}{F:LF->DF->List PyData->PyData->LF->DF->Prop}(F0:Fun K x qual st f fd)(hm:Meth K C m f)(hb:Binds K fd ps [])(S:FnScope (n0::N) ps (Ad st))(len:∀lf df ds d lf' df',F lf df ds d lf' df'->ds.length+1=ps.length)
  (hbody:∀(cdv:Value) (A:Around) (outer:List Env) (s:Shared) (H:Hp) (E:XK) (R:OR) (lf:LF) (df:DF) (ds:List PyData) (d:PyData) (lf':LF) (df':DF),Room k (A.deeper (envOfC qual (Ad st) s.heap.objs.size f cdv))->R.C=C->F lf df ds d lf' df'->
   PSs (cxOf CX0 P w K mg base (n0::N) qual (Ad st) f cdv A outer s H E).nox (AB st) (zR K R.L (Oz K R lf df) [(0,R.a)] (none::AT N ds) d (Oz K R lf' df'))):OFn P w K mg base (k+1) C m F:=by
 refine⟨f,fd,ps,F0.ok S (λvs H Q E ⟨R,lf,df,ds,d,lf',df',vr,_,e,_,dv,hF,_⟩=>by rw[e,List.length_cons,dv.length];exact len lf df ds d lf' df' hF) (λcdv A outer s H vs Q E hr ⟨R,lf,df,ds,d,lf',df',vr,hC,e,tb,dv,hF,q⟩=>?_),hm,hb⟩
 subst e
 refine⟨_,hbody cdv A outer s H E R lf df ds d lf' df' hr hC hF,⟨λz hz=>?_,tb,?_⟩,q⟩
 .have:=List.mem_singleton.mp hz
  subst this
  rw[Bh]
  rfl
 .rw[Bh];exact(SD.start dv).cons0 _
theorem Fun.objN{qual n0:Str}{st:Stmt}{f:Addr}{fd:FuncData}{ps:List Str}{k:Nat}{F:LF->DF->List PyData->LF->DF->Prop}(F0:Fun K x qual st f fd)(hm:Meth K C m f)(hb:Binds K fd ps [])(S:FnScope (n0::N) ps (Ad st))(len:∀lf df ds lf' df',F lf df ds lf' df'->ds.length+1=ps.length)
  (hbody:∀(cdv:Value) (A:Around) (outer:List Env) (s:Shared) (H:Hp) (E:XK) (R:OR) (lf:LF) (df:DF) (ds:List PyData) (lf':LF) (df':DF),Room k (A.deeper (envOfC qual (Ad st) s.heap.objs.size f cdv))->R.C=C->F lf df ds lf' df'->
   ∃G',PSs (cxOf CX0 P w K mg base (n0::N) qual (Ad st) f cdv A outer s H E).nox (AB st) (zN K R.L (Oz K R lf df) [(0,R.a)] (none::AT N ds) G' (Oz K R lf' df'))):OFn P w K mg base (k+1) C m (λlf df ds d lf' df'=>F lf df ds lf' df'/\d=.none):=by
 refine⟨f,fd,ps,F0.ok S (λvs H Q E ⟨R,lf,df,ds,d,lf',df',vr,_,e,_,dv,hF,_⟩=>by rw[e,List.length_cons,dv.length];exact len lf df ds lf' df' hF.1) (λcdv A outer s H vs Q E hr ⟨R,lf,df,ds,d,lf',df',vr,hC,e,tb,dv,⟨hF,ed⟩,q⟩=>?_),hm,hb⟩
 subst e ed
 obtain⟨G',hps⟩:=hbody cdv A outer s H E R lf df ds lf' df' hr hC hF
 refine⟨_,hps,⟨λz hz=>?_,tb,?_⟩,λσ' H' r' s'=>q .non H' r'.2.1 s' .non⟩
 .have:=List.mem_singleton.mp hz
  subst this
  rw[Bh]
  rfl
 .rw[Bh];exact(SD.start dv).cons0 _
variable{lf' lf1:LF}{df' df1:DF}
section
variable{L:List Addr}{I:Hp->Prop}{k:Nat}
theorem E5(h:ZE X L I rs G e d I1)(hs:swapsWith e none pos.line X.env=pure false:=by rfl):PS X (.Expr e pos) (zN X.K L I rs G G I1):=
 (Cu h hs).imp λD σ H ⟨r,q⟩=>⟨r,λv H' t' s' _=>q σ H' (r.next t' s') s'⟩
theorem EM{F:LF->DF->List PyData->PyData->LF->DF->Prop}{pl:Sem Bool}(cl:Cls X.K R.C)(D:OFn X.prog X.w X.K X.mg X.base k R.C m F)(hr:Room k X.A)(hi:(i,R.a)∈rs)(hv:PE X (.Name x pos2) (tVar i))(ha:ZA X R.L (Oz X.K R lf df) rs G (e::es) ds (Oz X.K R lf1 df1))(hF:F lf1 df1 ds d lf' df')(h1:m∉AY:=by decide)
  (hst:Zst X e es:=by rfl)(hpl:(backTo pos (starEach es X.env)).any (·.1)=false:=by rfl)
  (ht:eval (.Call (.Attribute (.Name x pos2) m apos) (e::es) [] pos) X.env=(do
   let ov <-eval (.Name x pos2) X.env
   standAt apos.atName
   let(f,first) <-holding [ov] (getMethod ov m pl)
   callWith pos f first (backTo pos (starEach (e::es) X.env)) (backToKw pos (keywordEach [] X.env))):=by rfl):
  ZE X R.L (Oz X.K R lf df) rs G (.Call (.Attribute (.Name x pos2) m apos) (e::es) [] pos) d (Oz X.K R lf' df'):=by
 obtain⟨f,fd,ps,ok,hm,hb⟩:=D
 refine(DS (E:=E0) (dvs:=[]) (ds:=[]) hv cl hm ok hr hb .nil Ci ha hst hpl ht).imp λσ H Q ⟨r,q⟩=>?_
 obtain⟨fs,t⟩:=id r.2.1
 refine⟨.ref R.a,r.1 _ hi,R.a,R.dx,fs,rfl,t.obj,t.nam m h1,r,λvs' H' t' s' dv=>?_⟩
 show spO X.K R.C F (V.ref R.a::(vs'++[])) H' Q E0
 rw[append_nil]
 exact⟨R,lf1,df1,ds,d,lf',df',vs',rfl,rfl,t',dv,hF,λv H2 t2 s2 d2=>q v H2 t2 (s'.trans s2) d2⟩
theorem Jl{F:LF->DF->List PyData->PyData->LF->DF->Prop}{pl:Sem Bool}(cl:Cls X.K R.C)(D:OFn X.prog X.w X.K X.mg X.base k R.C m F)(hr:Room k X.A)(hi:(i,R.a)∈rs)(hv:PE X (.Name x pos2) (tVar i))(hF:F lf df [] d lf' df')(h1:m∉AY:=by decide)
  (ht:eval (.Call (.Attribute (.Name x pos2) m apos) [] [] pos) X.env=(do
   let ov <-eval (.Name x pos2) X.env
   standAt apos.atName
   let(f,first) <-holding [ov] (getMethod ov m pl)
   callWith pos f first (backTo pos (starEach [] X.env)) (backToKw pos (keywordEach [] X.env))):=by rfl):
  ZE X R.L (Oz X.K R lf df) rs G (.Call (.Attribute (.Name x pos2) m apos) [] [] pos) d (Oz X.K R lf' df'):=by
 obtain⟨f,fd,ps,ok,hm,hb⟩:=D
 refine(GH (E:=E0) (dvs:=[]) (ds:=[]) hv cl hm ok hr hb .nil Ci ht).imp λσ H Q ⟨r,q⟩=>?_
 obtain⟨fs,t⟩:=id r.2.1
 refine⟨.ref R.a,r.1 _ hi,R.a,R.dx,fs,rfl,t.obj,t.nam m h1,?_⟩
 show spO X.K R.C F (V.ref R.a::([]++[])) H Q E0
 exact⟨R,lf,df,[],d,lf',df',[],rfl,rfl,r.2.1,.nil,hF,q⟩
end
structure OB(K:Frag)(C a dx:Addr)(H0:Hp)(ls:List (Str×Addr))(lf:LF)(df:DF)(G:Gam)(σ:St)(H:Hp)(fs:List (Str×V)):Prop where
 slot:σ[0]?=some (some (.ref a))
 oz:OzS K ⟨C,a,dx,ls⟩ lf df (lef (OR.L ⟨C,a,dx,ls⟩) H) H fs
 sd:SD K (lef (OR.L ⟨C,a,dx,ls⟩) H) σ G
 cnt:fs.length<=lf.length+df.length
 keep:∀b o,b≠a->H0 b=some o->H b=some o
 fre:∀q∈ls,H0 q.2=none
def tOB(K:Frag)(C a dx:Addr)(H0:Hp)(lf:LF)(df:DF)(G:Gam)(lf':LF)(df':DF):TS:=λD σ H=>(∃ls fs,OB K C a dx H0 ls lf df G σ H fs)/\∀ls' fs' H',OB K C a dx H0 ls' lf' df' G σ H' fs'->D.nx σ H'
variable{lf2:LF}{df2:DF}
section
variable{a dx:Addr}
theorem B0{st:Stmt}(h1:PS X st (tOB X.K C a dx H0 lf df G lf' df'))(h2:PSs X sts (tOB X.K C a dx H0 lf' df' G lf2 df2)):PSs X (st::sts) (tOB X.K C a dx H0 lf df G lf2 df2):=
 (As h1 h2).imp λD σ H ⟨r,q⟩=>⟨r,λls fs H' o=>⟨⟨ls,fs,o⟩,q⟩⟩
theorem QE:PSs X [] (tOB X.K C a dx H0 lf df G lf df):=pss_nil.imp λD σ H ⟨⟨ls,fs,o⟩,q⟩=>q ls fs H o
theorem OB.step{ls:List (Str×Addr)}{fs:List (Str×V)}(o:OB K C a dx H0 ls lf df G σ H fs)(s:Same H H'):OB K C a dx H0 ls lf df G σ H' fs:=
 ⟨o.slot,o.oz.mono s.lef s,o.sd.mono s.lef,o.cnt,λb u hb e=>s _ _ (o.keep b u hb e),o.fre⟩
theorem QD(h:EV X G e d)(hs:swapsWith e none pos.line X.env=pure false:=by rfl):PS X (.Expr e pos) (tOB X.K C a dx H0 lf df G lf df):=
 (Cu h hs).imp λD σ H ⟨⟨ls,fs,o⟩,q⟩=>⟨o.sd.mono lef_same,λv H' s' _=>q ls fs H' (o.step s')⟩
theorem OB.data{ls:List (Str×Addr)}{fs:List (Str×V)}{y:V}(o:OB K C a dx H0 ls lf df G σ H fs)(dv:DV K (lef (OR.L ⟨C,a,dx,ls⟩) H) y d)(hf:f∉lf.map (·.1))(hf2:f∉df.map (·.1))(hA:f∈AY)(hz:lf.length+df.length<30):OB K C a dx H0 ls lf (df++[(f,d)]) G σ (upd H a (.ins C dx (putF f y fs))) (putF f y fs):=by
 have eL:lef (OR.L ⟨C,a,dx,ls⟩) (upd H a (.ins C dx (putF f y fs)))=lef (OR.L ⟨C,a,dx,ls⟩) H:=DQ List.mem_cons_self
 have nal:∀p∈ls.map (·.2),p≠a:=λp hp z=>(List.nodup_cons.mp o.oz.nda).1 (z▸List.mem_cons_of_mem _ hp)
 have nad:dx≠a:=λz=>(List.nodup_cons.mp o.oz.nda).1 (z▸List.mem_cons_self)
 have hlen:=Cs f y fs
 have hc:=o.cnt
 refine⟨o.slot,?_,by rw[eL];exact o.sd,by rw[List.length_append];show _<=lf.length+(df.length+1);omega,λb u hb e=>by rw[Ag hb];exact o.keep b u hb e,o.fre⟩
 rw[eL]
 refine⟨Ah,by rw[Ag nad];exact o.oz.own1,by omega,λm hm=>?_,o.oz.nda,λz hz=>?_,λz hz=>?_,λz hz=>?_,λz hz=>?_⟩
 .rw[Ax,if_neg (λw:m=f=>hm (w▸hA))]
  exact o.oz.nam m hm
 .rcases List.mem_append.mp hz with hz|hz
  .exact o.oz.apart z hz
  .rw[List.mem_singleton.mp hz];exact hf
 .obtain⟨us,hu⟩:=o.oz.own z hz
  exact⟨us,by rw[Ag (nal _ (List.mem_map_of_mem hz))];exact hu⟩
 .obtain⟨p,us,h1,h2,h3,h4,h5⟩:=o.oz.lst z hz
  refine⟨p,us,h1,?_,?_,h4,h5⟩
  .rw[Ax,if_neg (λw:z.1=f=>hf (w▸List.mem_map_of_mem hz))]
   exact h2
  .rw[Ag (nal _ (List.mem_map_of_mem (f:=(·.2)) h1))]
   exact h3
 .rcases List.mem_append.mp hz with hz|hz
  .obtain⟨v,h1,h2⟩:=o.oz.dat z hz
   exact⟨v,by rw[Ax,if_neg (λw:z.1=f=>hf2 (w▸List.mem_map_of_mem hz))];exact h1,h2⟩
  .rw[List.mem_singleton.mp hz]
   exact⟨y,by rw[Ax,if_pos rfl],dv⟩
theorem OB.ok{ls:List (Str×Addr)}{fs:List (Str×V)}(o:OB K C a dx H0 ls lf df G σ H fs):Oz K ⟨C,a,dx,ls⟩ lf df H:=⟨fs,o.oz⟩
theorem Lq(cl:Cls X.K C)(na:NoAttr X.K C f)(hv:PE X (.Name x pos2) (tVar 0))(h:EV X G e d)(hn:noL d=true)(hf:f∉lf.map (·.1))(hf2:f∉df.map (·.1))(hA:f∈AY)(hz:lf.length+df.length<30)
  (hs:swapsWith e (some (.Attribute (.Name x pos2) f pos')) pos.line X.env=pure false:=by rfl):PS X (.Assign [.Attribute (.Name x pos2) f pos'] e pos) (tOB X.K C a dx H0 lf df G lf (df++[(f,d)])):=by
 refine(G5 hv h hs).imp λD σ H ⟨⟨ls,fs,o⟩,q⟩=>⟨o.sd.mono lef_same,λy H1 s1 d1=>?_⟩
 have o1:=o.step s1
 exact⟨.ref a,o.slot,a,C,dx,fs,rfl,o1.oz.obj,cl,na,by have:=o.cnt;omega,q _ _ _ (o1.data (DV.lef (oz_ok.notup o1.ok) d1 hn) hf hf2 hA hz)⟩
theorem G_(cl:Cls X.K C)(na:NoAttr X.K C f)(hv:PE X (.Name x pos2) (tVar 0))(h:EVF X G e ws)(hn:noLs ws=true)(hf:f∉lf.map (·.1))(hf2:f∉df.map (·.1))(hA:f∈AY)(hz:lf.length+df.length<30)
  (hs:swapsWith e (some (.Attribute (.Name x pos2) f pos')) pos.line X.env=pure false:=by rfl):PS X (.Assign [.Attribute (.Name x pos2) f pos'] e pos) (tOB X.K C a dx H0 lf df G (lf++[(f,ws)]) df):=by
 refine(G5 hv h hs).imp λD σ H ⟨⟨ls,fs,o⟩,q⟩=>⟨o.sd.mono lef_same,λp us H1 hp s1 hl d1=>?_⟩
 have o1:=o.step s1
 have hpL:p∉OR.L ⟨C,a,dx,ls⟩:=oz_ok.free o.ok hp
 refine⟨.ref a,o.slot,a,C,dx,fs,rfl,o1.oz.obj,cl,na,by have:=o.cnt;omega,q (ls++[(f,p)]) (putF f (.ref p) fs) _ ?_⟩
 have hpa:p≠a:=λz=>hpL (by rw[z];exact mem_cons_self)
 have nal:∀p∈ls.map (·.2),p≠a:=λp hp z=>(nodup_cons.mp o.oz.nda).1 (z▸mem_cons_of_mem _ hp)
 have nad:dx≠a:=λz=>(nodup_cons.mp o.oz.nda).1 (z▸mem_cons_self)
 have hlen:=Cs f (.ref p) fs
 have hc:=o.cnt
 have e2:OR.L ⟨C,a,dx,ls++[(f,p)]⟩=OR.L ⟨C,a,dx,ls⟩++[p]:=by show a::dx::(ls++[(f,p)]).map (·.2)=_;rw[map_append];rfl
 have sub:∀{H':Hp},Same (lef (OR.L ⟨C,a,dx,ls⟩) H) H'->∀b o,lef (OR.L ⟨C,a,dx,ls⟩) H b=some o->b≠p:=λ_ b o e z=>by
  subst z
  have:=lef_same _ _ e
  rw[hp]at this
  cases this
 have sL:Same (lef (OR.L ⟨C,a,dx,ls⟩) H) (lef (OR.L ⟨C,a,dx,ls++[(f,p)]⟩) (upd H1 a (.ins C dx (putF f (.ref p) fs)))):=λb o e=>by
  have n1:b≠p:=sub (Same.refl _) b o e
  have n2:b∉OR.L ⟨C,a,dx,ls⟩:=λz=>by rw[A5 z]at e;cases e
  have n3:b∉OR.L ⟨C,a,dx,ls++[(f,p)]⟩:=by
   rw[e2]
   intro z
   rcases mem_append.mp z with z|z
   .exact n2 z
   .exact n1 (mem_singleton.mp z)
  rw[An n3,Ag λz=>n2 (by rw[z];exact mem_cons_self)]
  rw[An n2]at e
  exact s1 _ _ e
 have dws:DVs X.K (lef (OR.L ⟨C,a,dx,ls++[(f,p)]⟩) (upd H1 a (.ins C dx (putF f (.ref p) fs)))) us ws:=by
  have h1:DVs X.K (lef [p] (lef (OR.L ⟨C,a,dx,ls⟩) H1)) us ws:=by
   have nt:∀b∈[p],∀xs,¬Rd (lef (OR.L ⟨C,a,dx,ls⟩) H1) b (.tup xs):=λb hb xs r=>by
    have:=mem_singleton.mp hb
    subst this
    rcases r with r|⟨q,r⟩<;>(rw[An hpL,hl]at r;cases r)
   exact DVs.lef nt (DVs.lef (oz_ok.notup o1.ok) d1 hn) hn
  refine h1.mono λb o e=>?_
  have m1:b∉[p]:=λz=>by rw[A5 z]at e;cases e
  rw[An m1]at e
  have m2:b∉OR.L ⟨C,a,dx,ls⟩:=λz=>by rw[A5 z]at e;cases e
  rw[An m2]at e
  have m3:b∉OR.L ⟨C,a,dx,ls++[(f,p)]⟩:=by
   rw[e2]
   intro z
   rcases mem_append.mp z with z|z
   .exact m2 z
   .exact m1 z
  rw[An m3,Ag λz=>m2 (by rw[z];exact mem_cons_self)]
  exact e
 refine⟨o.slot,?_,o.sd.mono sL,by rw[length_append];show _<=lf.length+1+df.length;omega,λb u hb e=>by rw[Ag hb];exact o1.keep b u hb e,λz hz=>?_⟩
 .refine⟨Ah,by show upd H1 a _ dx=_;rw[Ag nad];exact s1 _ _ o.oz.own1,by omega,λm hm=>?_,?_,λz hz=>?_,λz hz=>?_,λz hz=>?_,λz hz=>?_⟩
  .rw[Ax,if_neg (λw:m=f=>hm (w▸hA))]
   exact o.oz.nam m hm
  .rw[e2,nodup_append]
   refine⟨o.oz.nda,nodup_cons.mpr ⟨by simp,nodup_nil⟩,λy hy z hz w=>?_⟩
   rw[mem_singleton.mp hz]at w
   exact hpL (w▸hy)
  .rw[map_append]
   intro w
   rcases mem_append.mp w with w|w
   .exact o.oz.apart z hz w
   .exact hf2 ((show z.1=f from mem_singleton.mp w)▸mem_map_of_mem hz)
  .rcases mem_append.mp hz with hz|hz
   .obtain⟨us',hu⟩:=o1.oz.own z hz
    exact⟨us',by rw[Ag (nal _ (mem_map_of_mem hz))];exact hu⟩
   .rw[mem_singleton.mp hz]
    exact⟨us,by rw[Ag hpa];exact hl⟩
  .rcases mem_append.mp hz with hz|hz
   .obtain⟨p',us',h1,h2,h3,h4,h5⟩:=o.oz.lst z hz
    refine⟨p',us',mem_append_left _ h1,?_,?_,h4.mono sL,h5⟩
    .rw[Ax,if_neg (λw:z.1=f=>hf (w▸mem_map_of_mem hz))]
     exact h2
    .show upd H1 a _ p'=_
     rw[Ag (nal _ (mem_map_of_mem (f:=(·.2)) h1))]
     exact s1 _ _ h3
   .rw[mem_singleton.mp hz]
    exact⟨p,us,mem_append_right _ mem_cons_self,by rw[Ax,if_pos rfl],by show upd H1 a _ p=_;rw[Ag hpa];exact hl,dws,hn⟩
  .obtain⟨v,h1,h2⟩:=o.oz.dat z hz
   exact⟨v,by rw[Ax,if_neg (λw:z.1=f=>hf2 (w▸mem_map_of_mem hz))];exact h1,h2.mono sL⟩
 .rcases mem_append.mp hz with hz|hz
  .exact o.fre z hz
  .rw[mem_singleton.mp hz]
   show H0 p=none
   cases e:H0 p with
   |none=>rfl
   |some u=>have:=o.keep p u hpa e;rw[hp]at this;cases this
end
def spOI(K:Frag)(C:Addr)(F:List PyData->LF->DF->Prop):Sp:=λvs H Q _=>∃(a dx:Addr) (ds:List PyData) (lf:LF) (df:DF) (vr:List V),vs=.ref a::vr/\H a=some (.ins C dx [])/\H dx=some (.own a)/\dx≠a/\DVs K (lef [a,dx] H) vr ds/\F ds lf df/\
 ∀H' R,R.C=C->R.a=a->R.dx=dx->Oz K R lf df H'->(∀b o,b≠a->H b=some o->H' b=some o)->(∀q∈R.ls,H q.2=none)->Q .non H'
def OIFn(P:Program)(w:World)(K:Frag)(mg:Str->Option Value)(base:Heap)(k:Nat)(C:Addr)(F:List PyData->LF->DF->Prop):Prop:=
 ∃f fd ps,FnOk P w K mg base CX0 k f fd ps (spOI K C F)/\Mk K C f/\Binds K fd ps []
variable{qual n0:Str}{st:Stmt}{fd:FuncData}{ps:List Str}{F:List PyData->LF->DF->Prop}
theorem Fun.objI{f:Addr}{k:Nat}(F0:Fun K x qual st f fd)(hm:Mk K C f)(hb:Binds K fd ps [])(S:FnScope (n0::N) ps (Ad st))(len:∀ds lf df,F ds lf df->ds.length+1=ps.length)
  (hbody:∀(cdv:Value) (A:Around) (outer:List Env) (s:Shared) (H:Hp) (E:XK) (a dx:Addr) (H0:Hp) (ds:List PyData) (lf:LF) (df:DF),Room k (A.deeper (envOfC qual (Ad st) s.heap.objs.size f cdv))->F ds lf df->
   PSs (cxOf CX0 P w K mg base (n0::N) qual (Ad st) f cdv A outer s H E).nox (AB st) (tOB K C a dx H0 [] [] (none::AT N ds) lf df)):OIFn P w K mg base (k+1) C F:=by
 refine⟨f,fd,ps,F0.ok S (λvs H Q E ⟨a,dx,ds,lf,df,vr,e,_,_,_,dv,hF,_⟩=>by rw[e,List.length_cons,dv.length];exact len ds lf df hF) (λcdv A outer s H vs Q E hr ⟨a,dx,ds,lf,df,vr,e,ha,hdx,hne,dv,hF,q⟩=>?_),hm,hb⟩
 subst e
 refine⟨_,hbody cdv A outer s H E a dx H ds lf df hr hF,⟨[],[],?_,?_,?_,Nat.zero_le _,λb o _ e=>e,(λz hz=>by cases hz)⟩,λls' fs' H' o=>q H' ⟨C,a,dx,ls'⟩ rfl rfl rfl o.ok (λb u hb e=>o.keep b u hb e) o.fre⟩
 .rw[Bh];rfl
 .exact⟨ha,hdx,Nat.zero_le _,λ_ _=>rfl,List.nodup_cons.mpr ⟨by simpa using Ne.symm hne,List.nodup_cons.mpr ⟨by simp,List.nodup_nil⟩⟩,(λz hz=>by cases hz),(λz hz=>by cases hz),(λz hz=>by cases hz),(λz hz=>by cases hz)⟩
 .rw[Bh];exact(SD.start dv).cons0 _
section
variable{k:Nat}
end
section
variable{L:List Addr}{I:Hp->Prop}{l:Nat}
theorem Mx(h:ZE X L I rs G e (.tuple [d1,d2]) I1)(hpg:PG X tg (gTup X.K 2 (C4 [i,j])))(hi:∀q∈rs,q.1≠i)(hj:∀q∈rs,q.1≠j)
  (hs:swapsWithSole [tg] e pos.line X.env=pure false:=by rfl)(hw:swappedStores [tg] e X.env=pure none:=by rfl)(h1:(assignEach [tg] X.env).map (·.2)=[assign tg X.env]:=by rfl):
  PS X (.Assign [tg] e pos) (zN X.K L I rs G ((G.set i (some d1)).set j (some d2)) I1):=
 (Ez h hpg hs hw h1).imp λD σ H ⟨r,q⟩=>⟨r,λv H1 t1 s1 dv=>by
  obtain⟨l,ys,rfl,hq,dys⟩:=dv.of_tup
  obtain⟨v1,v2,rfl,dv1,dv2⟩:=dys.two
  refine⟨l,[v1,v2],rfl,lef_same.seqT hq,rfl,v1,[v2],rfl,v2,[],rfl,rfl,?_⟩
  refine q _ H1 ⟨λz hz=>?_,t1,((r.2.2.mono s1).set dv1).set dv2⟩ s1
  rw[getElem?_set_ne (hj z hz).symm,getElem?_set_ne (hi z hz).symm]
  exact r.1 z hz⟩
theorem Rl(h:ZE X L I rs G e (.tuple [d1,d2,d3]) I1)(hpg:PG X tg (gTup X.K 3 (C4 [i,j,l])))(hi:∀q∈rs,q.1≠i)(hj:∀q∈rs,q.1≠j)(hl:∀q∈rs,q.1≠l)
  (hs:swapsWithSole [tg] e pos.line X.env=pure false:=by rfl)(hw:swappedStores [tg] e X.env=pure none:=by rfl)(h1:(assignEach [tg] X.env).map (·.2)=[assign tg X.env]:=by rfl):
  PS X (.Assign [tg] e pos) (zN X.K L I rs G (((G.set i (some d1)).set j (some d2)).set l (some d3)) I1):=
 (Ez h hpg hs hw h1).imp λD σ H ⟨r,q⟩=>⟨r,λv H1 t1 s1 dv=>by
  obtain⟨l,ys,rfl,hq,dys⟩:=dv.of_tup
  obtain⟨v1,v2,v3,rfl,dv1,dv2,dv3⟩:=three dys
  refine⟨l,[v1,v2,v3],rfl,lef_same.seqT hq,rfl,v1,[v2,v3],rfl,v2,[v3],rfl,v3,[],rfl,rfl,?_⟩
  refine q _ H1 ⟨λz hz=>?_,t1,(((r.2.2.mono s1).set dv1).set dv2).set dv3⟩ s1
  rw[getElem?_set_ne (hl z hz).symm,getElem?_set_ne (hj z hz).symm,getElem?_set_ne (hi z hz).symm]
  exact r.1 z hz⟩
end
def Fo(H:Hp)(L:List Addr)(b:Addr):Prop:=(∃xs,H b=some (.lst xs))\/(∃C dx fs,H b=some (.ins C dx fs)/\dx∈L)\/∃a C fs,H b=some (.own a)/\a∈L/\H a=some (.ins C b fs)
def BH(L:List Addr)(H H':Hp):Hp:=λb=>if b∈L then H b else H' b
theorem BD{L:List Addr}{b:Addr}(h:b∈L):BH L H H' b=H b:=by unfold BH;rw[if_pos h]
theorem DA{L:List Addr}{b:Addr}(h:b∉L):BH L H H' b=H' b:=by unfold BH;rw[if_neg h]
theorem Fd{L:List Addr}(h:∀b∈L,H' b=none):lef L (BH L H H')=H':=by
 funext b
 by_cases hb:b∈L
 .rw[A5 hb,h b hb]
 .rw[An hb,DA hb]
variable{s':Shared}
section
variable{L:List Addr}
theorem Inv.fsFree(I:Inv X pins σ H s):∀b∈X.fs,H b=none:=λb hb=>by
 obtain⟨_,o,ho,_⟩:=I.ok.funs.mem hb
 exact I.base.free b o ho (I.ok.frf b hb) λz=>I.ok.exfs b z hb
theorem Fo.obj(I:Inv X pins σ H s){b:Addr}(f:Fo H L b):∃o,s.heap.get? b=some o/\∀v,o.data≠.cell v:=by
 rcases f with⟨xs,e⟩|⟨C,dx,fs,e,_⟩|⟨a,C,fs,e,_,ea⟩
 .obtain⟨_,its,n,_,g⟩:=(show ObjOk X.prog X.w H s.heap b (.lst xs)from I.hok b _ e)
  exact⟨_,g,λv z=>by cases z⟩
 .obtain⟨_,_,_,g,_⟩:=(show ObjOk X.prog X.w H s.heap b (.ins C dx fs)from I.hok b _ e)
  exact⟨_,g,λv z=>by cases z⟩
 .obtain⟨_,_,_,_,mA,⟨od,es,ep,g,d,_⟩,_⟩:=(show ObjOk X.prog X.w H s.heap a (.ins C b fs)from I.hok a _ ea)
  exact⟨od,g,λv z=>by rw[d]at z;cases z⟩
theorem Fo.some{b:Addr}(f:Fo H L b):∃o,H b=some o/\(∀xs,o≠.tup xs)/\(∀q u,o≠.frz q u)/\∀ps,o≠.tbl ps:=by
 rcases f with⟨xs,e⟩|⟨C,dx,fs,e,_⟩|⟨a,C,fs,e,_,_⟩
 .exact⟨_,e,(λ_ z=>by cases z),(λ_ _ z=>by cases z),(λ_ z=>by cases z)⟩
 .exact⟨_,e,(λ_ z=>by cases z),(λ_ _ z=>by cases z),(λ_ z=>by cases z)⟩
 .exact⟨_,e,(λ_ z=>by cases z),(λ_ _ z=>by cases z),(λ_ z=>by cases z)⟩
end
def Fq(H:Hp)(L:List Addr)(b:Addr):Prop:=Fo H L b\/∃kvs,H b=some (.dK kvs)
section
variable{σ':St}{L:List Addr}
theorem Fq.obj(I:Inv X pins σ H s){b:Addr}(f:Fq H L b):∃o,s.heap.get? b=some o/\∀v,o.data≠.cell v:=by
 rcases f with f|⟨kvs,e⟩
 .exact f.obj I
 .obtain⟨_,_,vs,_,ob,es,ep,g,_,d,_⟩:=JT I.hok (.inl e)
  exact⟨ob,g,λv z=>by rw[d]at z;cases z⟩
theorem Fq.some{b:Addr}(f:Fq H L b):∃o,H b=some o/\(∀xs,o≠.tup xs)/\(∀q u,o≠.frz q u)/\∀ps,o≠.tbl ps:=by
 rcases f with f|⟨kvs,e⟩
 .exact f.some
 .exact⟨_,e,(λ_ z=>by cases z),(λ_ _ z=>by cases z),(λ_ z=>by cases z)⟩
theorem JI(I:Inv X pins σ H s):∀(l:List Addr),(∀b∈l,Fq H L b)->∃ps:List (Addr×Obj),ps.map (·.1)=l/\∀p∈ps,s.heap.get? p.1=some p.2/\∀v,p.2.data≠.cell v
 |[],_=>⟨[],rfl,(λp hp=>by cases hp)⟩
 |b::l,h=>by
  obtain⟨ps,e,g⟩:=JI I l λz hz=>h z (mem_cons_of_mem _ hz)
  obtain⟨o,ho,hc⟩:=Fq.obj I (h b mem_cons_self)
  refine⟨(b,o)::ps,by rw[map_cons,e],λp hp=>?_⟩
  rcases mem_cons.mp hp with rfl|hp
  .exact⟨ho,hc⟩
  .exact g p hp
theorem Inv.forgetQ(I:Inv X pins σ H s)(hL:∀b∈L,Fq H L b):∃ps:List (Addr×Obj),ps.map (·.1)=L/\Inv X (ps++pins) σ (lef L H) s:=by
 obtain⟨ps,e,g⟩:=JI I L hL
 have non:∀{b:Addr},H b=none->lef L H b=none:=λ{b} h=>by
  by_cases hb:b∈L
  .exact A5 hb
  .rw[An hb];exact h
 have not:∀{b:Addr}{o:HO},H b=some o->((∃xs,o=.tup xs)\/(∃q u,o=.frz q u)\/∃ps,o=.tbl ps)->b∉L:=λ{b o} h k hb=>by
  obtain⟨o',e',k1,k2,k3⟩:=Fq.some (hL b hb)
  rw[h]at e'
  cases e'
  rcases k with⟨xs,rfl⟩|⟨q,u,rfl⟩|⟨ps,rfl⟩
  .exact k1 _ rfl
  .exact k2 _ _ rfl
  .exact k3 _ rfl
 refine⟨ps,e,I.ok,I.os,I.bare,⟨I.base.keep,I.base.slot,λb o h1 h2 h3=>non (I.base.free b o h1 h2 h3),I.base.there,λb xs h=>?_,λb o u h=>?_,λb q h=>?_⟩,I.loc,I.cell,non I.free,λx c h=>non (I.freeC x c h),λp hp=>?_,λa o h=>?_,I.len⟩
 .have:=I.base.tups b xs h
  rw[An (not this (.inl ⟨_,rfl⟩))];exact this
 .have:=I.base.frzs b o u h
  rw[An (not this (.inr (.inl ⟨_,_,rfl⟩)))];exact this
 .obtain⟨more,this⟩:=I.base.tbls b q h
  exact⟨more,by rw[An (not this (.inr (.inr ⟨_,rfl⟩)))];exact this⟩
 .have old:p∈X.pn++pins->s.heap.get? p.1=some p.2/\lef L H p.1=none/\p.1≠X.env.locals/\p.1∉X.fs/\∀v,p.2.data≠.cell v:=λh=>by
   obtain⟨a,b,c⟩:=I.pin p h
   exact⟨a,non b,c⟩
  rcases List.mem_append.mp hp with h|h
  .exact old (List.mem_append_left _ h)
  .rcases List.mem_append.mp h with h|h
   .have hb:p.1∈L:=by rw[<-e];exact List.mem_map_of_mem h
    obtain⟨o',e',_⟩:=Fq.some (hL p.1 hb)
    exact⟨(g p h).1,A5 hb,(λz=>by rw[z,I.free]at e';cases e'),(λz=>by rw[I.fsFree _ z]at e';cases e'),(g p h).2⟩
   .exact old (List.mem_append_right _ h)
 .have ha:a∉L:=λz=>by rw[A5 z]at h;cases h
  rw[An ha]at h
  refine(I.hok a o h).stay (λb u _ q=>q) (λb hb=>?_) λb xs hb=>?_
  .have:b∉L:=λz=>by
    rcases hL b z with(⟨xs,e'⟩|⟨C,dx,fs,e',_⟩|⟨a',C,fs,e',ha',_⟩)|⟨kvs,e'⟩
    .rw[hb]at e';cases e'
    .rw[hb]at e';cases e'
    .rw[hb]at e';cases e';exact ha ha'
    .rw[hb]at e';cases e'
   rw[An this];exact hb
  .rw[An (not hb (.inl ⟨_,rfl⟩))];exact hb
theorem Inv.regainQ(I:Inv X pins σ H s)(hL:∀b∈L,Fq H L b){ps:List (Addr×Obj)}(e:ps.map (·.1)=L)(J0:Inv X (ps++pins) σ (lef L H) s)(J:Inv X (ps++pins) σ' H' s'):(∀b∈L,H' b=none)/\Inv X pins σ' (BH L H H') s':=by
 have fr:∀b∈L,H' b=none/\∀o,s.heap.get? b=some o->s'.heap.get? b=some o:=λb hb=>by
  rw[<-e]at hb
  obtain⟨p,hp,rfl⟩:=List.mem_map.mp hb
  have j:=J.pin p (List.mem_append_right _ (List.mem_append_left _ hp))
  have j0:=J0.pin p (List.mem_append_right _ (List.mem_append_left _ hp))
  exact⟨j.2.1,λo ho=>by rw[j0.1]at ho;cases ho;exact j.1⟩
 have non:∀{b:Addr},(b∈L->H b=none)->H' b=none->BH L H H' b=none:=λ{b} h h'=>by
  by_cases hb:b∈L
  .rw[BD hb];exact h hb
  .rw[DA hb];exact h'
 have up:∀{b:Addr}{o:HO},H' b=some o->BH L H H' b=some o:=λ{b o} h=>by
  have hb:b∉L:=λz=>by rw[(fr b z).1]at h;cases h
  rw[DA hb];exact h
 refine⟨λb hb=>(fr b hb).1,J.ok,J.os,J.bare,⟨J.base.keep,J.base.slot,λb o h1 h2 h3=>non (λ_=>I.base.free b o h1 h2 h3) (J.base.free b o h1 h2 h3),J.base.there,λb xs h=>up (J.base.tups b xs h),λb o u h=>up (J.base.frzs b o u h),λb q h=>let⟨more,z⟩:=J.base.tbls b q h;⟨more,up z⟩⟩,J.loc,J.cell,non (λ_=>I.free) J.free,λx c h=>non (λ_=>I.freeC x c h) (J.freeC x c h),λp hp=>?_,λa o h=>?_,J.len⟩
 .have hp':p∈X.pn++(ps++pins):=by
   rcases List.mem_append.mp hp with h|h
   .exact List.mem_append_left _ h
   .exact List.mem_append_right _ (List.mem_append_right _ h)
  obtain⟨a,b,c⟩:=J.pin p hp'
  exact⟨a,non (λ_=>(I.pin p hp).2.1) b,c⟩
 .by_cases ha:a∈L
  .rw[BD ha]at h
   rcases hL a ha with(⟨xs,e'⟩|⟨C,dx,fs,e',hdx⟩|⟨a',C,fs,e',ha',ea'⟩)|⟨kvs,e'⟩
   .rw[h]at e'
    cases e'
    obtain⟨z,its,n,r,g⟩:=(show ObjOk X.prog X.w H s.heap a (.lst xs)from I.hok a _ h)
    exact⟨z,its,n,r,(fr a ha).2 _ g⟩
   .rw[h]at e'
    cases e'
    obtain⟨d,z,ne,g,mA,⟨od,es,ep,g2,c⟩,r⟩:=(show ObjOk X.prog X.w H s.heap a (.ins C dx fs)from I.hok a _ h)
    exact⟨by rw[BD hdx];exact d,z,ne,(fr a ha).2 _ g,mA,⟨od,es,ep,(fr dx hdx).2 _ g2,c⟩,r⟩
   .rw[h]at e'
    cases e'
    obtain⟨ob,g⟩:=(show ObjOk X.prog X.w H s.heap a (.own a')from I.hok a _ h)
    exact⟨ob,(fr a ha).2 _ g⟩
   .rw[h]at e'
    cases e'
    obtain⟨z,hd,vs,rel,ob,es,ep,g,c⟩:=(show ObjOk X.prog X.w H s.heap a (.dK kvs)from I.hok a _ h)
    exact⟨z,hd,vs,rel,ob,es,ep,(fr a ha).2 _ g,c⟩
  .rw[DA ha]at h
   exact(J.hok a o h).stay (λb u _ q=>q) (λb hb=>up hb) λb xs hb=>up hb
end
theorem Kj{t:TE}(L:List Addr)(h:PE X e t):PE X e (λσ H Q=>(∀b∈L,Fo H L b)/\t σ (lef L H) λv H'=>Same (lef L H) H'/\((∀b∈L,H' b=none)->Q v (BH L H H'))):=by
 intro pins s σ H Q I ⟨hL,q⟩
 have hQ:∀b∈L,Fq H L b:=λb hb=>.inl (hL b hb)
 obtain⟨ps,e,J0⟩:=I.forgetQ hQ
 refine thn (h (ps++pins) s σ (lef L H) _ J0 q) λu s1 ⟨v,H1,J,r,sm,k⟩=>?_
 obtain⟨n,I1⟩:=I.regainQ hQ e J0 J
 exact⟨v,_,I1,r,k n⟩
theorem Ol{L:List Addr}{I:Hp->Prop}(hI:∀H,I H->∀b∈L,Fo H L b)(st:∀H H',I H->(∀b∈L,H' b=none)->Same (lef L H) H'->I (BH L H H'))(h:EV X G e d):ZE X L I rs G e d I:=
 (Kj L h).imp λσ H Q ⟨r,q⟩=>⟨hI H r.2.1,r.2.2,λv H' s' dv=>⟨s',λn=>q v _ (st H H' r.2.1 n s') (by rw[Fd n];exact s') (by rw[Fd n];exact dv)⟩⟩
theorem Oz.fo(i:Oz K R lf df H):∀b∈R.L,Fo H R.L b:=λb hb=>by
 obtain⟨fs,t⟩:=i
 rcases List.mem_cons.mp hb with e|e
 .exact .inr (.inl ⟨_,_,_,by rw[e];exact t.obj,List.mem_cons_of_mem _ List.mem_cons_self⟩)
 rcases List.mem_cons.mp e with e|e
 .exact .inr (.inr ⟨R.a,R.C,fs,by rw[e];exact t.own1,List.mem_cons_self,by rw[e];exact t.obj⟩)
 .obtain⟨q,hq,rfl⟩:=List.mem_map.mp e
  exact .inl (t.own q hq)
theorem Oz.join(i:Oz K R lf df H)(n:∀b∈R.L,H' b=none)(s:Same (lef R.L H) H'):Oz K R lf df (BH R.L H H'):=by
 obtain⟨fs,t⟩:=i
 refine⟨fs,?_⟩
 rw[Fd n]
 refine⟨by rw[BD List.mem_cons_self];exact t.obj,by rw[BD (List.mem_cons_of_mem _ List.mem_cons_self)];exact t.own1,t.few,t.nam,t.nda,t.apart,λq hq=>?_,λq hq=>?_,λq hq=>?_⟩
 .rw[BD (List.mem_cons_of_mem _ (List.mem_cons_of_mem _ (List.mem_map_of_mem hq)))]
  exact t.own q hq
 .obtain⟨p,us,h1,h2,h3,h4,h5⟩:=t.lst q hq
  exact⟨p,us,h1,h2,by rw[BD (List.mem_cons_of_mem _ (List.mem_cons_of_mem _ (List.mem_map_of_mem (f:=(·.2)) h1)))];exact h3,h4.mono s,h5⟩
 .obtain⟨v,h1,h2⟩:=t.dat q hq
  exact⟨v,h1,h2.mono s⟩
theorem E9(h:EV X G e d):ZE X R.L (Oz X.K R lf df) rs G e d (Oz X.K R lf df):=Ol (λ_ i=>i.fo) (λ_ _ i n s=>i.join n s) h
section
variable{l:Nat}
theorem OSt.fo(o:OSt K H0 p i G ds σ H):∀b∈[p],Fo H [p] b:=λb hb=>by
 obtain⟨Hb,vs,rfl,_⟩:=o
 rw[List.mem_singleton.mp hb]
 exact .inl ⟨vs,Ah⟩
theorem OSt.join(o:OSt K H0 p i G ds σ H)(n:∀b∈[p],H' b=none)(s:Same (lef [p] H) H'):∃vs,BH [p] H H'=upd H' p (.lst vs)/\H' p=none/\Same H0 H'/\SD K H' σ G/\σ[i]?=some (some (.ref p))/\DVs K H' vs ds:=by
 obtain⟨Hb,vs,rfl,hn,s0,hσ,hi,dv⟩:=o
 have e1:lef [p] (upd Hb p (.lst vs))=Hb:=by
  funext b
  by_cases hb:b=p
  .rw[hb,A5 List.mem_cons_self,hn]
  .rw[An (by simpa using hb),Ag hb]
 rw[e1]at s
 refine⟨vs,?_,n p List.mem_cons_self,s0.trans s,hσ.mono s,hi,dv.mono s⟩
 funext b
 by_cases hb:b=p
 .rw[hb,BD List.mem_cons_self,Ah,Ah]
 .rw[DA (by simpa using hb),Ag hb]
theorem OSt.sdl(o:OSt K H0 p i G ds σ H):SD K (lef [p] H) σ G:=by
 obtain⟨Hb,vs,rfl,hn,s0,hσ,hi,dv⟩:=o
 have e1:lef [p] (upd Hb p (.lst vs))=Hb:=by
  funext b
  by_cases hb:b=p
  .rw[hb,A5 List.mem_cons_self,hn]
  .rw[An (by simpa using hb),Ag hb]
 rw[e1]
 exact hσ
theorem Qr(hpg:PG X tg (gTup X.K 2 (C4 [j,l])))(hij:j≠i)(hil:l≠i)(h:∀G ds,Pre G ds->∃d1 d2,EV X G e (.tuple [d1,d2])/\Post ((G.set j (some d1)).set l (some d2)) ds)
  (hs:swapsWithSole [tg] e pos.line X.env=pure false:=by rfl)(hw:swappedStores [tg] e X.env=pure none:=by rfl)(h1:(assignEach [tg] X.env).map (·.2)=[assign tg X.env]:=by rfl):HT1 X H0 p i Pre (.Assign [tg] e pos) Post:=by
 intro pins s σ H D I ⟨⟨G,ds,a,o⟩,q⟩
 obtain⟨d1,d2,ev,po⟩:=h G ds a
 refine Ez (Kj [p] ev) hpg hs hw h1 pins s σ H D I ⟨o.fo,o.sdl,λv H1 s1 dv=>⟨s1,λn=>?_⟩⟩
 obtain⟨vs,eH,hn,s0,sd,hi,dvs⟩:=o.join n s1
 rw[eH]
 obtain⟨t,ys,rfl,hq,dys⟩:=dv.of_tup
 obtain⟨v1,v2,rfl,dv1,dv2⟩:=dys.two
 refine⟨t,[v1,v2],rfl,(Same.new hn).seqT hq,rfl,v1,[v2],rfl,v2,[],rfl,rfl,?_⟩
 exact q _ _ _ ds po ⟨H1,vs,rfl,hn,s0,(sd.set dv1).set dv2,by rw[getElem?_set_ne hil,getElem?_set_ne hij];exact hi,dvs⟩
end
theorem OO{m:Nat}{es:List PyData}(ha:PE X a (tVar m))(hG:G[m]?=some (some (.list xs))):IV2 X H0 p i q j G ds es tg a xs:=
 (Gg ha).imp λσ H R ⟨o,k⟩=>by
  obtain⟨v,e1,dl⟩:=o.sdb.2 m _ hG
  obtain⟨l,us,rfl,hl,dus⟩:=dl.of_lst
  exact⟨.ref l,e1,l,rfl,⟨us,base2_sub.seq hl⟩,k _ H (Same.refl H) (Qj hl dus)⟩
variable{Iv:α->Hp->Prop}
section
variable{L:List Addr}{m:Nat}{T:α}
end
def IsR(C:Addr)(oa:Option Addr)(R:OR):Prop:=R.C=C/\∀a,oa=some a->R.a=a
def YZ(K:Frag)(C:Addr)(oa:Option Addr)(i:Nat)(G:Gam)(lf:LF)(df:DF)(R:OR)(σ:St)(H:Hp):Prop:=IsR C oa R/\RZ K R.L (Oz K R lf df) [(i,R.a)] G σ H
def yN(K:Frag)(C:Addr)(oa:Option Addr)(i:Nat)(G:Gam)(lf:LF)(df:DF)(G':Gam)(lf':LF)(df':DF):TS:=λD σ H=>∃R,YZ K C oa i G lf df R σ H/\∀R' σ' H',YZ K C oa i G' lf' df' R' σ' H'->Same (lef R.L H) (lef R'.L H')->D.nx σ' H'
def yM(K:Frag)(C:Addr)(oa:Option Addr)(i:Nat)(G:Gam)(lf:LF)(df:DF)(lf':LF)(df':DF):TS:=λD σ H=>∃R,YZ K C oa i G lf df R σ H/\∀R' H',IsR C oa R'->Oz K R' lf' df' H'->Same (lef R.L H) (lef R'.L H')->D.rt (.ref R'.a) H'
variable{oa:Option Addr}{G':Gam}
section
variable{k:Nat}
theorem Ts(h:∀R:OR,R.C=C->PSs X sts (zN X.K R.L (Oz X.K R lf df) [(i,R.a)] G G' (Oz X.K R lf' df'))):PSs X sts (yN X.K C oa i G lf df G' lf' df'):=λpins s σ H D I ⟨R,⟨hC,r⟩,q⟩=>h R hC.1 pins s σ H D I ⟨r,λσ' H' r' s'=>q R σ' H' ⟨hC,r'⟩ s'⟩
theorem QZ(h1:PS X st (yN X.K C oa i G lf df G1 lf1 df1))(h2:PSs X sts (yN X.K C oa i G1 lf1 df1 G2 lf2 df2)):PSs X (st::sts) (yN X.K C oa i G lf df G2 lf2 df2):=
 (As h1 h2).imp λD σ H ⟨R,y,q⟩=>⟨R,y,λR1 σ1 H1 y1 s1=>⟨R1,y1,λR2 σ2 H2 y2 s2=>q R2 σ2 H2 y2 (s1.trans s2)⟩⟩
theorem Ga(h1:PS X st (yN X.K C oa i G lf df G1 lf1 df1))(h2:PSs X sts (yM X.K C oa i G1 lf1 df1 lf2 df2)):PSs X (st::sts) (yM X.K C oa i G lf df lf2 df2):=
 (As h1 h2).imp λD σ H ⟨R,y,q⟩=>⟨R,y,λR1 σ1 H1 y1 s1=>⟨R1,y1,λR2 H2 hC t2 s2=>q R2 H2 hC t2 (s1.trans s2)⟩⟩
theorem Rc{te:TE}(h:PE X e te):PSs X (.Return (some e) pos::sts) (tRet te):=by
 intro pins s σ H D I q
 exact As (Ek h) (A2 (sts:=sts)) pins s σ H D I q
theorem TF(hv:PE X (.Name x pos2) (tVar i)):PSs X (.Return (some (.Name x pos2)) pos::sts) (yM X.K C oa i G lf df lf df):=
 (Rc hv).imp λD σ H ⟨R,⟨hC,r⟩,q⟩=>⟨.ref R.a,r.1 _ mem_cons_self,q R H hC r.2.1 (Same.refl _)⟩
theorem FV(cl:Cls X.K C)(na:NoAttr X.K C f)(hv:PE X (.Name x pos2) (tVar i))(h:EVF X (viewO C lf df i G) e ws)(hn:noLs ws=true)(hf:f∈lf.map (·.1))(hA:f∈AY)
  (hs:swapsWith e (some (.Attribute (.Name x pos2) f pos')) pos.line X.env=pure false:=by rfl):PS X (.Assign [.Attribute (.Name x pos2) f pos'] e pos) (yN X.K C oa i G lf df G (upL f ws lf) df):=by
 refine(G5 hv h hs).imp λD σ H ⟨R,⟨⟨hC,hoa⟩,r⟩,q⟩=>?_
 subst hC
 refine⟨r.viewO mem_cons_self,λp us H1 hp s1 hl d1=>?_⟩
 have r1:=r.step oz_ok s1
 obtain⟨fs,t⟩:=id r1.2.1
 have hpL:p∉R.L:=oz_ok.free r.2.1 hp
 refine⟨.ref R.a,r.1 _ mem_cons_self,R.a,R.C,R.dx,fs,rfl,t.obj,cl,na,by have:=t.few;omega,q {R with ls:=R.ls++[(f,p)]} σ _ ⟨⟨rfl,hoa⟩,?_⟩ ?_⟩
 all_goals
  have hpa:p≠R.a:=λz=>hpL (by rw[z];exact mem_cons_self)
  have nal:∀p∈R.ls.map (·.2),p≠R.a:=λp hp z=>(nodup_cons.mp t.nda).1 (z▸mem_cons_of_mem _ hp)
  have nad:R.dx≠R.a:=λz=>(nodup_cons.mp t.nda).1 (z▸mem_cons_self)
  have e2:OR.L {R with ls:=R.ls++[(f,p)]}=R.L++[p]:=by show R.a::R.dx::(R.ls++[(f,p)]).map (·.2)=_;rw[map_append];rfl
  have sL0:∀H0:Hp,(∀b o,H0 b=some o->b≠p)->Same H0 H1->Same (lef R.L H0) (lef (OR.L {R with ls:=R.ls++[(f,p)]}) (upd H1 R.a (.ins R.C R.dx (putF f (.ref p) fs)))):=λH0 hH0 sm b o e=>by
   have n2:b∉R.L:=λz=>by rw[A5 z]at e;cases e
   rw[An n2]at e
   have n1:b≠p:=hH0 b o e
   have n3:b∉OR.L {R with ls:=R.ls++[(f,p)]}:=by
    rw[e2]
    intro z
    rcases mem_append.mp z with z|z
    .exact n2 z
    .exact n1 (mem_singleton.mp z)
   rw[An n3,Ag λz=>n2 (by rw[z];exact mem_cons_self)]
   exact sm _ _ e
  have sL:Same (lef R.L H) (lef (OR.L {R with ls:=R.ls++[(f,p)]}) (upd H1 R.a (.ins R.C R.dx (putF f (.ref p) fs)))):=sL0 H (λb o e z=>by rw[z,hp]at e;cases e) s1
 .have tO:Oz X.K {R with ls:=R.ls++[(f,p)]} (upL f ws lf) df (upd H1 R.a (.ins R.C R.dx (putF f (.ref p) fs))):=by
   obtain⟨fs0,t0⟩:=id r.2.1
   have hfs0:fs0=fs:=by
    have h1:=t.obj
    rw[s1 _ _ t0.obj]at h1
    cases h1
    rfl
   subst hfs0
   obtain⟨q0,hq0,e0⟩:=mem_map.mp hf
   obtain⟨p0,us0,_,l0,_,_,_⟩:=t0.lst q0 hq0
   rw[e0]at l0
   have dws:DVs X.K (lef (OR.L {R with ls:=R.ls++[(f,p)]}) (upd H1 R.a (.ins R.C R.dx (putF f (.ref p) fs0)))) us ws:=by
    have nt:∀b∈[p],∀xs,¬Rd (lef R.L H1) b (.tup xs):=λb hb xs r=>by
     have:=mem_singleton.mp hb
     subst this
     rcases r with r|⟨q,r⟩<;>(rw[An hpL,hl]at r;cases r)
    refine(DVs.lef nt (DVs.lef (oz_ok.notup r1.2.1) d1 hn) hn).mono λb o e=>?_
    have m1:b∉[p]:=λz=>by rw[A5 z]at e;cases e
    rw[An m1]at e
    have m2:b∉R.L:=λz=>by rw[A5 z]at e;cases e
    rw[An m2]at e
    have m3:b∉OR.L {R with ls:=R.ls++[(f,p)]}:=by
     rw[e2]
     intro z
     rcases mem_append.mp z with z|z
     .exact m2 z
     .exact m1 z
    rw[An m3,Ag λz=>m2 (by rw[z];exact mem_cons_self)]
    exact e
   refine⟨putF f (.ref p) fs0,Ah,by rw[Ag nad];exact t.own1,by rw[ED l0];exact t.few,λm hm=>?_,?_,λz hz=>?_,λz hz=>?_,λz hz=>?_,λz hz=>?_⟩
   .rw[Ax,if_neg (λw:m=f=>hm (w▸hA))]
    exact t.nam m hm
   .rw[e2]
    exact nodup_append.mpr ⟨t.nda,nodup_cons.mpr ⟨by simp,nodup_nil⟩,λa ha b hb z=>hpL (by rw[<-mem_singleton.mp hb,<-z];exact ha)⟩
   .rw[Kh]
    exact t.apart z hz
   .rcases mem_append.mp hz with hz|hz
    .obtain⟨us',hu⟩:=t.own z hz
     exact⟨us',by rw[Ag (nal _ (mem_map_of_mem hz))];exact hu⟩
    .rw[mem_singleton.mp hz]
     exact⟨us,by rw[Ag hpa];exact hl⟩
   .rcases MB hz with⟨e1,e3,_⟩|⟨e1,e3⟩
    .refine⟨p,us,by rw[e1];exact mem_append_right _ (List.mem_singleton_self _),by rw[e1,Ax,if_pos rfl],by rw[Ag hpa];exact hl,by rw[e3];exact dws,by rw[e3];exact hn⟩
    .obtain⟨p',us',h1,h2,h3,h4,h5⟩:=t0.lst z e3
     exact⟨p',us',mem_append_left _ h1,by rw[Ax,if_neg e1];exact h2,by rw[Ag (nal _ (mem_map_of_mem (f:=(·.2)) h1))];exact s1 _ _ h3,h4.mono sL,h5⟩
   .obtain⟨v,h1,h2⟩:=t0.dat z hz
    exact⟨v,by rw[Ax,if_neg (λw:z.1=f=>t.apart z hz (by rw[w];exact hf))];exact h1,h2.mono sL⟩
  exact⟨r.1,tO,r.2.2.mono sL⟩
 .exact sL
end
def tM(K:Frag)(C:Addr)(G:Gam)(lf:LF)(df:DF):TS:=λD σ H=>SD K H σ G/\∀R' H',R'.C=C->Oz K R' lf df H'->Same H (lef R'.L H')->D.rt (.ref R'.a) H'
def spM(K:Frag)(C:Addr)(F:List PyData->LF->DF->Prop):Sp:=λvs H Q _=>∃(ds:List PyData) (lf:LF) (df:DF),DVs K H vs ds/\F ds lf df/\∀R' H',R'.C=C->Oz K R' lf df H'->Same H (lef R'.L H')->Q (.ref R'.a) H'
def NMFn(P:Program)(w:World)(K:Frag)(mg:Str->Option Value)(base:Heap)(k:Nat)(C:Addr)(m:Str)(F:List PyData->LF->DF->Prop):Prop:=
 ∃f fd ps,FnOk P w K mg base CX0 k f fd ps (spM K C F)/\Meth K C m f/\Binds K fd ps []
theorem Fun.newM{f:Addr}{k:Nat}(F0:Fun K x qual st f fd)(hm:Meth K C m f)(hb:Binds K fd ps [])(S:FnScope N ps (Ad st))(len:∀ds lf df,F ds lf df->ds.length=ps.length)
  (hbody:∀(cdv:Value) (A:Around) (outer:List Env) (s:Shared) (H:Hp) (E:XK) (ds:List PyData) (lf:LF) (df:DF),Room k (A.deeper (envOfC qual (Ad st) s.heap.objs.size f cdv))->F ds lf df->
   PSs (cxOf CX0 P w K mg base N qual (Ad st) f cdv A outer s H E).nox (AB st) (tM K C (AT N ds) lf df)):NMFn P w K mg base (k+1) C m F:=
 ⟨f,fd,ps,F0.ok S (λvs H Q E ⟨ds,lf,df,h1,h2,_⟩=>h1.length.trans (len ds lf df h2)) (λcdv A outer s H vs Q E hr ⟨ds,lf,df,h1,h2,q⟩=>⟨_,hbody cdv A outer s H E ds lf df hr h2,SD.start h1,q⟩),hm,hb⟩
section
variable{k:Nat}
theorem YZ.mk(hσ:SD K H σ G)(hl:i<G.length)(hG:G[i]?=some none)(hC:R.C=C)(t:Oz K R lf df H')(s:Same H (lef R.L H')):YZ K C none i G lf df R (σ.set i (some (.ref R.a))) H':=by
 refine⟨⟨hC,λ_ z=>by cases z⟩,λz hz=>?_,t,⟨by rw[List.length_set];exact hσ.1,λj d ej=>?_⟩⟩
 .have:=List.mem_singleton.mp hz
  subst this
  exact List.getElem?_set_self (by rw[hσ.1];exact hl)
 .by_cases hj:i=j
  .subst hj;rw[hG]at ej;cases ej
  .rw[List.getElem?_set_ne hj]
   exact(hσ.mono s).2 j d ej
theorem OS(hN:X.N.Nodup)(h1:X.N[i]?=some xt)(x1:Loc X.env.scope xt)(hl:i<G.length)(hG:G[i]?=some none)(D0:OIFn X.prog X.w X.K X.mg X.base k C F)(hr:Room (k+1) X.A)(hg:Gl X x)(hm:X.mg x=some (.ref C))(ha:AV X G (e::es) ds)(hF:F ds lf df)
  (hdb:(x==("__debug__":Str))=false:=by decide)(he:Zst X e es:=by rfl)(hpl:(backTo p3 (starEach es X.env)).any (·.1)=false:=by rfl)
  (s1:swapsWith (.Call (.Name x p2) (e::es) [] p3) (some (.Name xt p1)) p4.line X.env=pure false:=by rfl)(f1:Zlo X xt:=by first|exact .inl rfl|exact .inr rfl|assumption):
  PS X (.Assign [.Name xt p1] (.Call (.Name x p2) (e::es) [] p3) p4) (λD σ H=>SD X.K H σ G/\∀R σ' H',YZ X.K C none i G lf df R σ' H'->Same H (lef R.L H')->D.nx σ' H'):=by
 obtain⟨f0,fd0,ps0,ok0,M,hb0⟩:=D0
 refine(Bn hN h1 x1 (Mu (E:=E0) (dvs:=[]) (ds:=[]) M ok0 hr hg hm hb0 .nil Ci ha hdb he hpl) s1 f1).imp λD σ H ⟨hσ,q⟩=>⟨hσ,λvs H1 s1 dv=>?_⟩
 intro a dx ha hdx hne
 have sA:Same H1 (lef [a,dx] (upd (upd H1 dx (.own a)) a (.ins C dx []))):=λb o e=>by
  have n1:b≠a:=Ao e ha
  have n2:b≠dx:=Ao e hdx
  rw[An (by simp only[mem_cons,not_mem_nil,or_false,not_or];exact⟨n1,n2⟩),Ag n1,Ag n2]
  exact e
 show spOI X.K C F (V.ref a::(vs++[])) _ _ E0
 rw[append_nil]
 refine⟨a,dx,ds,lf,df,vs,rfl,Ah,by rw[Ag hne];exact Ah,hne,dv.mono sA,hF,λH2 R hC hRa hRd tb old fre=>⟨rfl,?_⟩⟩
 subst hC hRa hRd
 have keep:∀b o,H1 b=some o->b∉R.L/\H2 b=some o:=λb o e=>by
  have n1:b≠R.a:=Ao e ha
  have n2:b≠R.dx:=Ao e hdx
  have e1:upd (upd H1 R.dx (.own R.a)) R.a (.ins R.C R.dx []) b=some o:=by rw[Ag n1,Ag n2];exact e
  refine⟨λz=>?_,old b o n1 e1⟩
  rcases mem_cons.mp z with z|z
  .exact n1 z
  rcases mem_cons.mp z with z|z
  .exact n2 z
  .obtain⟨y,hy,ey⟩:=mem_map.mp z
   have:=fre y hy
   rw[ey,e1]at this
   cases this
 have sL:Same H1 (lef R.L H2):=λb o e=>by
  obtain⟨k1,k2⟩:=keep b o e
  rw[An k1]
  exact k2
 exact q R _ H2 (YZ.mk hσ hl hG rfl tb (s1.trans sL)) (s1.trans sL)
theorem Rz(h1:PS X st (λD σ H=>SD X.K H σ G/\∀R σ' H',YZ X.K C none i G lf df R σ' H'->Same H (lef R.L H')->D.nx σ' H'))(h2:PSs X sts (yM X.K C none i G lf df lf' df')):PSs X (st::sts) (tM X.K C G lf' df'):=
 (As h1 h2).imp λD σ H ⟨h,q⟩=>⟨h,λR σ' H' y s'=>⟨R,y,λR2 H2 hC t s2=>q R2 H2 hC.1 t (s'.trans s2)⟩⟩
end
section
variable{L:List Addr}{m:Nat}{T:α}
end
variable{db:PyData}
section
variable{L:List Addr}{I:Hp->Prop}{k:Nat}{apos2:Pos}{m2:Str}
end
def spY(K:Frag)(C:Addr)(F:LF->DF->List PyData->LF->DF->Prop):Sp:=λvs H Q _=>∃(R:OR) (lf:LF) (df:DF) (ds:List PyData) (lf':LF) (df':DF) (vr:List V),R.C=C/\vs=.ref R.a::vr/\Oz K R lf df H/\DVs K (lef R.L H) vr ds/\F lf df ds lf' df'/\
 ∀R' H',IsR C (some R.a) R'->Oz K R' lf' df' H'->Same (lef R.L H) (lef R'.L H')->Q .non H'
def YFn(P:Program)(w:World)(K:Frag)(mg:Str->Option Value)(base:Heap)(k:Nat)(C:Addr)(m:Str)(F:LF->DF->List PyData->LF->DF->Prop):Prop:=
 ∃f fd ps,FnOk P w K mg base CX0 k f fd ps (spY K C F)/\Meth K C m f/\Binds K fd ps []
theorem Fun.objY{f:Addr}{k:Nat}{F:LF->DF->List PyData->LF->DF->Prop}(F0:Fun K x qual st f fd)(hm:Meth K C m f)(hb:Binds K fd ps [])(S:FnScope (n0::N) ps (Ad st))(len:∀lf df ds lf' df',F lf df ds lf' df'->ds.length+1=ps.length)
  (hbody:∀(cdv:Value) (A:Around) (outer:List Env) (s:Shared) (H:Hp) (E:XK) (a:Addr) (lf:LF) (df:DF) (ds:List PyData) (lf':LF) (df':DF),Room k (A.deeper (envOfC qual (Ad st) s.heap.objs.size f cdv))->F lf df ds lf' df'->
   ∃G',PSs (cxOf CX0 P w K mg base (n0::N) qual (Ad st) f cdv A outer s H E).nox (AB st) (yN K C (some a) 0 (none::AT N ds) lf df G' lf' df')):YFn P w K mg base (k+1) C m F:=by
 refine⟨f,fd,ps,F0.ok S (λvs H Q E ⟨R,lf,df,ds,lf',df',vr,_,e,_,dv,hF,_⟩=>by rw[e,List.length_cons,dv.length];exact len lf df ds lf' df' hF) (λcdv A outer s H vs Q E hr ⟨R,lf,df,ds,lf',df',vr,hC,e,tb,dv,hF,q⟩=>?_),hm,hb⟩
 subst e
 obtain⟨G',hps⟩:=hbody cdv A outer s H E R.a lf df ds lf' df' hr hF
 refine⟨_,hps,R,⟨⟨hC,λ_ z=>by cases z;rfl⟩,λz hz=>?_,tb,?_⟩,λR' σ' H' y s'=>q R' H' y.1 y.2.2.1 s'⟩
 .have:=List.mem_singleton.mp hz
  subst this
  rw[Bh]
  rfl
 .rw[Bh];exact(SD.start dv).cons0 _
section
variable{k:Nat}
theorem RE{F:LF->DF->List PyData->LF->DF->Prop}{pl:Sem Bool}(cl:Cls X.K C)(D0:YFn X.prog X.w X.K X.mg X.base k C m F)(hr:Room k X.A)(hv:PE X (.Name x pos2) (tVar i))(ha:∀R:OR,R.C=C->ZA X R.L (Oz X.K R lf df) [(i,R.a)] G (e::es) ds (Oz X.K R lf df))(hF:F lf df ds lf' df')(h1:m∉AY:=by decide)
  (hst:Zst X e es:=by rfl)(hpl:(backTo pos (starEach es X.env)).any (·.1)=false:=by rfl)
  (ht:eval (.Call (.Attribute (.Name x pos2) m apos) (e::es) [] pos) X.env=(do
   let ov <-eval (.Name x pos2) X.env
   standAt apos.atName
   let(f,first) <-holding [ov] (getMethod ov m pl)
   callWith pos f first (backTo pos (starEach (e::es) X.env)) (backToKw pos (keywordEach [] X.env))):=by rfl)
  (hs:swapsWith (.Call (.Attribute (.Name x pos2) m apos) (e::es) [] pos) none pos3.line X.env=pure false:=by rfl):
  PS X (.Expr (.Call (.Attribute (.Name x pos2) m apos) (e::es) [] pos) pos3) (yN X.K C oa i G lf df G lf' df'):=by
 obtain⟨f,fd,ps,ok,hm,hb⟩:=D0
 have hA:PA X (e::es) (λσ H Q=>∃R:OR,R.C=C/\zA X.K R.L (Oz X.K R lf df) [(i,R.a)] G ds (Oz X.K R lf df) σ H Q):=λpos pins s σ H Q I ⟨R,hC,q⟩=>ha R hC pos pins s σ H Q I q
 refine(Cu (DS (E:=E0) (dvs:=[]) (ds:=[]) hv cl hm ok hr hb .nil Ci hA hst hpl ht) hs).imp λD σ H ⟨R,⟨⟨hC,hoa⟩,r⟩,q⟩=>?_
 obtain⟨fs,t⟩:=id r.2.1
 refine⟨.ref R.a,r.1 _ mem_cons_self,R.a,R.dx,fs,rfl,by rw[<-hC];exact t.obj,t.nam m h1,R,hC,r,λvs H1 t1 s1 dvs=>?_⟩
 show spY X.K C F (V.ref R.a::(vs++[])) H1 _ E0
 rw[append_nil]
 refine⟨R,lf,df,ds,lf',df',vs,hC,rfl,t1,dvs,hF,λR' H2 hI t2 s2=>q R' σ H2 ⟨⟨hI.1,λa ea=>(hI.2 _ rfl).trans (hoa a ea)⟩,λz hz=>?_,t2,r.2.2.mono (s1.trans s2)⟩ (s1.trans s2)⟩
 rw[mem_singleton.mp hz]
 show σ[i]?=some (some (.ref R'.a))
 rw[hI.2 _ rfl]
 exact r.1 _ mem_cons_self
end
theorem N0:CD X (.type "tuple") [.tuple ds] (.tuple ds):=call_tuple_of.imp λxs H Q ⟨h,q⟩=>by
 obtain⟨v,rfl,dv⟩:=h.one
 obtain⟨l,us,rfl,hl,d1⟩:=id dv.of_tup
 exact⟨l,us,rfl,.inr ⟨hl,q _ H (Same.refl H) (.tup hl d1)⟩⟩
variable{z:Int}
theorem TJ{L:List Addr}{I:Hp->Prop}{n:Int}(ok:ZOk L I)(hN:X.N.Nodup)(hi:X.N[j]?=some x)(hj:∀q∈rs,q.1≠j)(hx:Loc X.env.scope x)(h:EV X G e (.int n))(hG:G[j]?=some (some (.int z)))(hf:Zlo X x:=by first|exact .inl rfl|exact .inr rfl|assumption):
  PS X (.AugAssign (.Name x pos') .Add e pos) (zN X.K L I rs G (G.set j (some (.int (z+n)))) I):=
 (TR (ti:=rAdd) hN hi hx h Qv hf).imp λD σ H ⟨r,q⟩=>by
  obtain⟨v,e1,dv⟩:=r.2.2.2 j _ hG
  have ev:=dv.of_int
  subst ev
  refine⟨.int z,e1,r.sd,λy H1 s1 d1=>?_⟩
  have ey:=d1.of_int
  subst ey
  exact⟨z,n,rfl,rfl,q _ H1 ⟨λw hw=>by rw[getElem?_set_ne (hj w hw).symm];exact r.1 w hw,ok.step r.2.1 s1,(r.2.2.mono s1.lef).set (.int _)⟩ s1.lef⟩
section
variable{L:List Addr}{m:Nat}{T T1:α}
end
variable{kb:Bool}
section
variable{L:List Addr}{I:Hp->Prop}
abbrev Sees(K:Frag)(L:List Addr)(I:Hp->Prop)(rs:List (Nat×Addr))(G G':Gam):Prop:=∀σ H,RZ K L I rs G σ H->SD K H σ G'
theorem OQ(ok:ZOk L I)(v:Sees X.K L I rs G G')(h:TV X G' c kb):ZT X L I rs G c kb:=h.imp λσ H Q ⟨r,q⟩=>⟨v σ H r,λH' s'=>q H' (r.step ok s') s'.lef⟩
theorem Lh(ok:ZOk L I)(v:Sees X.K L I rs G G')(h:EV X G' e d)(hn:noL d=true):ZE X L I rs G e d I:=h.imp λσ H Q ⟨r,q⟩=>⟨v σ H r,λu H' s' dv=>q u H' (ok.step r.2.1 s') s'.lef (DV.lef (ok.notup (ok.step r.2.1 s')) dv hn)⟩
end
structure NR where
 a:Addr
 ls:List (Str×Addr)
abbrev NR.L(R:NR):List Addr:=R.a::R.ls.map (·.2)
inductive NK(K:Frag)(ls:List (Str×Addr))(Hb H:Hp):List (Key×V)->DF->Prop where
 |nil:NK K ls Hb H [] []
 |lst {f:Str}{p:Addr}{us:List V}{ds:List PyData}{r:List (Key×V)}{df:DF}:(f,p)∈ls->H p=some (.lst us)->DVs K Hb us ds->noLs ds=true->NK K ls Hb H r df->NK K ls Hb H ((.inr f,.ref p)::r) ((f,.list ds)::df)
 |dat {f:Str}{v:V}{d:PyData}{r:List (Key×V)}{df:DF}:DV K Hb v d->noL d=true->NK K ls Hb H r df->NK K ls Hb H ((.inr f,v)::r) ((f,d)::df)
structure NzS(K:Frag)(R:NR)(df:DF)(Hb H:Hp)(kvs:List (Key×V)):Prop where
 obj:H R.a=some (.dK kvs)
 few:df.length<=40
 nda:R.L.Nodup
 ndl:(R.ls.map (·.1)).Nodup
 ndk:(df.map (·.1)).Nodup
 sub:∀q∈R.ls,q.1∈df.map (·.1)
 own:∀q∈R.ls,∃us,H q.2=some (.lst us)
 nk:NK K R.ls Hb H kvs df
def Nz(K:Frag)(R:NR)(df:DF)(H:Hp):Prop:=∃kvs,NzS K R df (lef R.L H) H kvs
def dfD(df:DF):List (PyData×PyData):=df.map λq=>(.str q.1,q.2)
variable{ls:List (Str×Addr)}
section
variable{R:NR}{kvs:List (Key×V)}
end
section
variable{R:NR}{k:Nat}
end
section
variable{R:NR}{k:Nat}
end
section
variable{R:NR}{k:Nat}
end
section
variable{a b:Addr}{kvs more:List (Key×V)}
end
structure DBn(K:Frag)(H:Hp)(ls:List (Str×Addr))(df:DF)(kvs:List (Key×V))(H':Hp):Prop where
 same:Same H H'
 fre:∀q∈ls,H q.2=none
 nda:(ls.map (·.2)).Nodup
 ndl:(ls.map (·.1)).Nodup
 sub:∀q∈ls,q.1∈df.map (·.1)
 own:∀q∈ls,∃us,H' q.2=some (.lst us)
 nk:NK K ls H' H' kvs df
variable{vals:List Expr}
section
variable{k v:Expr}
end
theorem L_{b:Addr}{o:HO}(e:H b=some o)(h1:∀ys,o≠.tup ys)(h2:∀q u,o≠.frz q u)(xs:List V):¬Rd H b (.tup xs):=λr=>by
 rcases r with r|⟨q,r⟩
 .rw[e]at r;exact h1 _ (Option.some.inj r)
 .rw[e]at r;exact h2 _ _ (Option.some.inj r)
theorem none_of{b:Addr}(s:Same H H')(h:H' b=none):H b=none:=by
 cases e:H b with
 |none=>rfl
 |some o=>rw[s _ _ e]at h;cases h
section
variable{keys2:List (Option Expr)}{vals2:List Expr}
end
variable{L1 L2':List Addr}
theorem Jn:lef L1 (lef L2' H)=lef L2' (lef L1 H):=by
 funext b
 by_cases h1:b∈L1
 .rw[A5 h1]
  by_cases h2:b∈L2'
  .rw[A5 h2]
  .rw[An h2,A5 h1]
 .rw[An h1]
  by_cases h2:b∈L2'
  .rw[A5 h2,A5 h2]
  .rw[An h2,An h2,An h1]
structure ZF(L:List Addr)(I:Hp->Prop):Prop where
 fo:∀H,I H->∀b∈L,Fq H L b
 join:∀H H',I H->(∀b∈L,H' b=none)->Same (lef L H) H'->I (BH L H H')
theorem Ut:ZF R.L (Oz K R lf df):=⟨λ_ i b hb=>.inl (i.fo b hb),λ_ _ i n s=>i.join n s⟩
variable{I1' I2':Hp->Prop}{rs1:List (Nat×Addr)}
section
variable{L:List Addr}{I:Hp->Prop}{m:Nat}{T T1:α}
end
variable{is:List Nat}
section
variable{L:List Addr}{I:Hp->Prop}{k v:Expr}
end
def Ends.fr(D:Ends)(L:List Addr)(H:Hp):Ends:=⟨λσ' H'=>(∀b∈L,H' b=none)->D.nx σ' (BH L H H'),λv H'=>(∀b∈L,H' b=none)->D.rt v (BH L H H'),λσ' H'=>(∀b∈L,H' b=none)->D.bk σ' (BH L H H'),λσ' H'=>(∀b∈L,H' b=none)->D.ct σ' (BH L H H')⟩
section
variable{L:List Addr}{I:Hp->Prop}{k:Nat}
end
def zTI(K:Frag)(L:List Addr)(I:Hp->Prop)(rs:List (Nat×Addr))(G:Gam)(k:Bool)(I1:Hp->Prop):TT:=λσ H Q=>RZ K L I rs G σ H/\∀H',I1 H'->Same (lef L H) (lef L H')->Q k H'
abbrev ZTI(X:Cx)(L:List Addr)(I:Hp->Prop)(rs:List (Nat×Addr))(G:Gam)(e:Expr)(k:Bool)(I1:Hp->Prop):Prop:=PT X e (zTI X.K L I rs G k I1)
variable{k':Bool}
section
variable{L:List Addr}{I:Hp->Prop}{rest:List Expr}{k:Bool}
theorem BL(h:ZT X L I rs G e k):ZTI X L I rs G e k I:=h.imp λσ H Q ⟨r,q⟩=>⟨r,λH' r' s'=>q H' r'.2.1 s'⟩
theorem IK{A B:List Stmt}(h:ZTI X L I rs G c k I1)(h1:k=true->PSs X A (zN X.K L I1 rs G G1 I2))(h2:k=false->PSs X B (zN X.K L I1 rs G G1 I2)):PS X (.If c A B pos) (zN X.K L I rs G G1 I2):=by
 cases k with
 |true=>exact(BG h (h1 rfl) (A2 (sts:=B))).imp λD σ H ⟨r,q⟩=>⟨r,λH' i' s'=>iteT ⟨r.next i' s',λσ2 H2 r2 s2=>q σ2 H2 r2 (s'.trans s2)⟩⟩
 |false=>exact(BG h (A2 (sts:=A)) (h2 rfl)).imp λD σ H ⟨r,q⟩=>⟨r,λH' i' s'=>iteF ⟨r.next i' s',λσ2 H2 r2 s2=>q σ2 H2 r2 (s'.trans s2)⟩⟩
end
variable{CX:CXT}{sp:Sp}{ta:TE}
section
variable{f:Addr}{k:Nat}{dvs:List V}{ds:List Value}{E:XK}{o:Expr}{t:TA}
end
section
variable{it:Expr}{k:Nat}{L:List Addr}{I:Hp->Prop}{dn:DF}
end
section
variable{L:List Addr}{T:α}{I:Hp->Prop}{k:Bool}
end
section
variable{a:Addr}{I2b:Hp->Prop}{k:Nat}
end
section
variable{k:Nat}
end
section
variable{L:List Addr}{T T1:α}
end
inductive LsK(K:Frag)(Hb H:Hp):List Addr->List (List PyData)->Prop where
 |nil:LsK K Hb H [] []
 |cons {p:Addr}{us:List V}{ds:List PyData}{ps:List Addr}{dss:List (List PyData)}:H p=some (.lst us)->DVs K Hb us ds->noLs ds=true->LsK K Hb H ps dss->LsK K Hb H (p::ps) (ds::dss)
variable{wss:List (List PyData)}
section
variable{L:List Addr}{I:Hp->Prop}{k:Nat}
end
def Hz(K:Frag)(h:Addr)(ps:List Addr)(dss:List (List PyData))(H:Hp):Prop:=H h=some (.lst (ps.map V.ref))/\(h::ps).Nodup/\LsK K (lef (h::ps) H) H ps dss
section
variable{h:Addr}{ps:List Addr}{dss:List (List PyData)}
end
def Ky(K:Frag)(p:Addr)(S:List PyData)(H:Hp):Prop:=∃us,H p=some (.lst us)/\DVs K (lef [p] H) us S
section
variable{L:List Addr}{I:Hp->Prop}{k:Nat}
theorem Oz.apart(i:Oz K R lf df H)(dj:∀b∈L,b∉R.L)(nt:∀b∈L,∀xs,¬Rd H b (.tup xs))(hn:∀q∈df,noL q.2=true):Oz K R lf df (lef L H):=by
 obtain⟨fs,t⟩:=i
 have na:∀b∈R.L,b∉L:=λb hb z=>dj b z hb
 have nt2:∀b∈L,∀xs,¬Rd (lef R.L H) b (.tup xs):=λb hb xs r=>by
  refine nt b hb xs ?_
  rcases r with r|⟨q,r⟩
  .exact .inl (lef_same _ _ r)
  .exact .inr ⟨q,lef_same _ _ r⟩
 refine⟨fs,by rw[An (na _ List.mem_cons_self)];exact t.obj,by rw[An (na _ (List.mem_cons_of_mem _ List.mem_cons_self))];exact t.own1,t.few,t.nam,t.nda,t.apart,λq hq=>?_,λq hq=>?_,λq hq=>?_⟩
 .rw[An (na _ (List.mem_cons_of_mem _ (List.mem_cons_of_mem _ (List.mem_map_of_mem hq))))]
  exact t.own q hq
 .obtain⟨p,us,h1,h2,h3,h4,h5⟩:=t.lst q hq
  refine⟨p,us,h1,h2,by rw[An (na _ (List.mem_cons_of_mem _ (List.mem_cons_of_mem _ (List.mem_map_of_mem (f:=(·.2)) h1))))];exact h3,?_,h5⟩
  rw[Jn]
  exact DVs.lef nt2 h4 h5
 .obtain⟨v,h1,h2⟩:=t.dat q hq
  refine⟨v,h1,?_⟩
  rw[Jn]
  exact DV.lef nt2 h2 (hn q hq)
end
section
variable{L0:List Addr}{I0:Hp->Prop}{dm:DF}{N:NR}{l:Nat}
end
abbrev Zt:=List Addr×(Hp->Prop)
abbrev Dj(A B:List Addr):Prop:=∀b∈A,b∉B
structure Gd(it:Zt):Prop where
 ok:ZOk it.1 it.2
 ap:∀{H:Hp}{M:List Addr},it.2 H->Dj M it.1->(∀b∈M,∀xs,¬Rd H b (.tup xs))->it.2 (lef M H)
 fr:ZF it.1 it.2
abbrev Gds(its:List Zt):Prop:=∀it∈its,Gd it
def LZ(its:List Zt):List Addr:=(its.map (·.1)).flatten
def TZ(its:List Zt)(H:Hp):Prop:=(its.map (·.1)).Pairwise Dj/\∀it∈its,it.2 H
variable{its:List Zt}
theorem mem_LZ{b:Addr}:b∈LZ its↔∃it∈its,b∈it.1:=by
 unfold LZ
 rw[List.mem_flatten]
 constructor
 .rintro⟨l,hl,hb⟩
  obtain⟨it,h,rfl⟩:=mem_map.mp hl
  exact⟨it,h,hb⟩
 .rintro⟨it,h,hb⟩
  exact⟨it.1,mem_map_of_mem h,hb⟩
theorem UK(g:∀it∈its,ZOk it.1 it.2):ZOk (LZ its) (TZ its)where
 step:=λ⟨p,i⟩ s=>⟨p,λit h=>(g it h).step (i it h) s⟩
 notup:=λ⟨p,i⟩ b hb xs=>by
  obtain⟨it,h,hb⟩:=mem_LZ.mp hb
  exact(g it h).notup (i it h) b hb xs
 free:=λ⟨p,i⟩ hp hm=>by
  obtain⟨it,h,hb⟩:=mem_LZ.mp hm
  exact(g it h).free (i it h) hp hb
variable{B:List Zt}{it:Zt}
theorem Ja{A:List Zt}:(A++it::B).map (·.1)=A.map (·.1)++it.1::B.map (·.1):=by rw[map_append,map_cons]
theorem KI{A B:List Addr}(h:Dj A B):Dj B A:=λb hb ha=>h b ha hb
theorem mem_mid{A:List Zt}{z:Zt}:z∈A++it::B↔z=it\/z∈A++B:=by
 simp only[mem_append,mem_cons]
 constructor
 .rintro(h|rfl|h)
  .exact .inr (.inl h)
  .exact .inl rfl
  .exact .inr (.inr h)
 .rintro(rfl|h|h)
  .exact .inr (.inl rfl)
  .exact .inl h
  .exact .inr (.inr h)
theorem TZ.mid{A:List Zt}:TZ (A++it::B) H↔(∀z∈A++B,Dj it.1 z.1)/\it.2 H/\TZ (A++B) H:=by
 unfold TZ
 rw[Ja,List.pairwise_middle (λ{x y} h=>KI h),List.pairwise_cons,<-List.map_append]
 constructor
 .rintro⟨⟨h1,h2⟩,h3⟩
  exact⟨λz hz=>h1 _ (List.mem_map_of_mem hz),h3 _ (mem_mid.mpr (.inl rfl)),h2,λz hz=>h3 z (mem_mid.mpr (.inr hz))⟩
 .rintro⟨h1,h2,h3,h4⟩
  refine⟨⟨λl hl=>?_,h3⟩,λz hz=>?_⟩
  .obtain⟨z,hz,rfl⟩:=List.mem_map.mp hl
   exact h1 z hz
  .rcases mem_mid.mp hz with rfl|hz
   .exact h2
   .exact h4 z hz
variable{it':Zt}
theorem KF{A:List Zt}(e:it.1=it'.1):LZ (A++it::B)=LZ (A++it'::B):=by
 unfold LZ
 rw[Ja,Ja,e]
variable{I':Hp->Prop}
section
variable{A:List Zt}{L:List Addr}{I:Hp->Prop}
end
theorem UN(hn:∀q∈df,noL q.2=true):Gd (R.L,Oz K R lf df):=⟨oz_ok,λi dj nt=>i.apart dj nt hn,Ut⟩
def zV(K:Frag)(L:List Addr)(I:Hp->Prop)(rs:List (Nat×Addr))(G:Gam)(Nx:List Addr->St->Hp->Prop)(Rt:List Addr->V->Hp->Prop):TS:=λD σ H=>RZ K L I rs G σ H/\(∀L' σ' H',Nx L' σ' H'->Same (lef L H) (lef L' H')->D.nx σ' H')/\∀L' v H',Rt L' v H'->Same (lef L H) (lef L' H')->D.rt v H'
abbrev noRt:List Addr->V->Hp->Prop:=λ_ _ _=>False
variable{Nx:List Addr->St->Hp->Prop}{Rt:List Addr->V->Hp->Prop}{β:Type}
section
variable{L:List Addr}{I:Hp->Prop}{Nx1:List Addr->St->Hp->Prop}{k:Bool}{A B:List Stmt}
theorem Ca{Lo:β->List Addr}{Io:β->Hp->Prop}{ro:β->List (Nat×Addr)}{Go:β->Gam}(P:β->Prop)(h1:PS X st (zV X.K L I rs G (λL' σ' H'=>∃y,P y/\L'=Lo y/\RZ X.K (Lo y) (Io y) (ro y) (Go y) σ' H') noRt))(h2:∀y,P y->PSs X sts (zV X.K (Lo y) (Io y) (ro y) (Go y) Nx Rt)):PSs X (st::sts) (zV X.K L I rs G Nx Rt):=by
 have h2':PSs X sts (λD σ H=>∃y,P y/\zV X.K (Lo y) (Io y) (ro y) (Go y) Nx Rt D σ H):=λpins s σ H D I ⟨y,hy,q⟩=>h2 y hy pins s σ H D I q
 exact(As h1 h2').imp λD σ H ⟨r,q1,q2⟩=>⟨r,λL' σ' H' ⟨y,hy,el,r'⟩ s=>⟨y,hy,r',λL2 σ2 H2 n s2=>q1 L2 σ2 H2 n ((el▸s).trans s2),λL2 v H2 n s2=>q2 L2 v H2 n ((el▸s).trans s2)⟩,λ_ _ _ f=>f.elim⟩
theorem A_(h1:PS X st (zN X.K L I rs G G1 I1))(h2:PSs X sts (zV X.K L I1 rs G1 Nx Rt)):PSs X (st::sts) (zV X.K L I rs G Nx Rt):=
 (As h1 h2).imp λD σ H ⟨r,q1,q2⟩=>⟨r,λσ' H' r' s'=>⟨r',λL2 σ2 H2 n s2=>q1 L2 σ2 H2 n (s'.trans s2),λL2 v H2 n s2=>q2 L2 v H2 n (s'.trans s2)⟩⟩
theorem Eg(h:∀σ H,RZ X.K L I rs G σ H->Nx L σ H):PSs X [] (zV X.K L I rs G Nx Rt):=pss_nil.imp λD σ H ⟨r,q,_⟩=>q L σ H (h σ H r) (Same.refl _)
theorem Fb(h:ZE X L I rs G e d I1)(hB:∀v H',I1 H'->DV X.K (lef L H') v d->Rt L v H'):PSs X (.Return (some e) pos::sts) (zV X.K L I rs G Nx Rt):=
 (As (Ek h) (A2 (sts:=sts))).imp λD σ H ⟨r,_,q⟩=>⟨r,λv H' i' s' dv=>q L v H' (hB v H' i' dv) s'⟩
theorem RW(h:ZTI X L I rs G c k I1)(h1:k=true->PSs X A (zV X.K L I1 rs G Nx Rt))(h2:k=false->PSs X B (zV X.K L I1 rs G Nx Rt)):PS X (.If c A B pos) (zV X.K L I rs G Nx Rt):=by
 cases k with
 |true=>exact(BG h (h1 rfl) (A2 (sts:=B))).imp λD σ H ⟨r,q1,q2⟩=>⟨r,λH' i' s'=>iteT ⟨r.next i' s',λL2 σ2 H2 n s2=>q1 L2 σ2 H2 n (s'.trans s2),λL2 v H2 n s2=>q2 L2 v H2 n (s'.trans s2)⟩⟩
 |false=>exact(BG h (A2 (sts:=A)) (h2 rfl)).imp λD σ H ⟨r,q1,q2⟩=>⟨r,λH' i' s'=>iteF ⟨r.next i' s',λL2 σ2 H2 n s2=>q1 L2 σ2 H2 n (s'.trans s2),λL2 v H2 n s2=>q2 L2 v H2 n (s'.trans s2)⟩⟩
theorem Po(h:PS X st (zV X.K L I rs G Nx Rt)):PSs X [st] (zV X.K L I rs G Nx Rt):=(As h pss_nil).imp λD σ H q=>q
end
variable{v:V}
section
variable{L:List Addr}{I:Hp->Prop}
def tAt(K:Frag)(L:List Addr)(I:Hp->Prop)(rs:List (Nat×Addr))(G:Gam)(v:V):TE:=λσ H Q=>RZ K L I rs G σ H/\∀H',RZ K L I rs G σ H'->Same H H'->Q v H'
end
inductive MK(K:Frag)(ls:List (Str×Addr))(Hb H:Hp):List (Key×V)->DF->Prop where
 |nil:MK K ls Hb H [] []
 |lst {f:Str}{p:Addr}{us:List V}{ds:List PyData}{r:List (Key×V)}{df:DF}:(f,p)∈ls->H p=some (.lst us)->DVs K Hb us ds->noLs ds=true->MK K ls Hb H r df->MK K ls Hb H ((.inr f,.ref p)::r) ((f,.list ds)::df)
 |any {f:Str}{v:V}{d:PyData}{r:List (Key×V)}{df:DF}:f∉ls.map (·.1)->DV K Hb v d->MK K ls Hb H r df->MK K ls Hb H ((.inr f,v)::r) ((f,d)::df)
section
variable{ls':List (Str×Addr)}{a:Addr}
end
structure MzS(K:Frag)(R:NR)(df:DF)(Hb H:Hp)(kvs:List (Key×V)):Prop where
 obj:H R.a=some (.dK kvs)
 few:df.length<=40
 nda:R.L.Nodup
 ndl:(R.ls.map (·.1)).Nodup
 ndk:(df.map (·.1)).Nodup
 sub:∀q∈R.ls,q.1∈df.map (·.1)
 own:∀q∈R.ls,∃us,H q.2=some (.lst us)
 nk:MK K R.ls Hb H kvs df
section
variable{R:NR}
end
section
variable{R:NR}{p:Pos}
end
theorem mem_mid2{A M:List Zt}{z:Zt}:z∈A++(M++B)↔z∈M\/z∈A++B:=by
 simp only[mem_append]
 constructor
 .rintro(h|h|h)
  .exact .inr (.inl h)
  .exact .inl h
  .exact .inr (.inr h)
 .rintro(h|h|h)
  .exact .inr (.inl h)
  .exact .inl h
  .exact .inr (.inr h)
theorem TZ.mid2{A M:List Zt}:TZ (A++(M++B)) H↔(∀y∈M,∀z∈A++B,Dj y.1 z.1)/\TZ M H/\TZ (A++B) H:=by
 unfold TZ
 simp only[List.map_append,List.pairwise_append,List.mem_append,List.mem_map]
 constructor
 .rintro⟨⟨pA,⟨pM,pB,mB⟩,aM⟩,al⟩
  refine⟨λy hy z hz=>?_,⟨pM,λz hz=>al z (.inr (.inl hz))⟩,⟨pA,pB,λa ha b hb=>aM a ha b (.inr hb)⟩,λz hz=>al z (hz.elim .inl λh=>.inr (.inr h))⟩
  rcases hz with hz|hz
  .exact KI (aM _ ⟨z,hz,rfl⟩ _ (.inl ⟨y,hy,rfl⟩))
  .exact mB _ ⟨y,hy,rfl⟩ _ ⟨z,hz,rfl⟩
 .rintro⟨dj,⟨pM,aM⟩,⟨pA,pB,aB⟩,al⟩
  refine⟨⟨pA,⟨pM,pB,?_⟩,?_⟩,λz hz=>?_⟩
  .rintro _ ⟨y,hy,rfl⟩ _ ⟨z,hz,rfl⟩
   exact dj y hy z (.inr hz)
  .rintro _ ⟨a,ha,rfl⟩ b (⟨y,hy,rfl⟩|hb)
   .exact KI (dj y hy a (.inl ha))
   .exact aB _ ⟨a,ha,rfl⟩ b hb
  .rcases hz with hz|hz|hz
   .exact al z (.inl hz)
   .exact aM z hz
   .exact al z (.inr hz)
theorem SS:LZ [it]=it.1:=by show it.1++[]=_;exact append_nil _
theorem tz_one:TZ [it] H↔it.2 H:=⟨λt=>t.2 it mem_cons_self,λh=>⟨List.pairwise_singleton _ _,λz hz=>by rw[mem_singleton.mp hz];exact h⟩⟩
theorem F_:lef [] H=H:=funext λb=>An not_mem_nil
theorem QB(h:SD K H σ G)(hG:G[j]?=some none):SD K H (σ.set j (some v)) G:=⟨by rw[length_set];exact h.1,λi d e=>by
 by_cases hj:j=i
 .subst hj;rw[hG]at e;cases e
 .rw[getElem?_set_ne hj];exact h.2 i d e⟩
def tNeu{β:Type}(K:Frag)(L:List Addr)(I:Hp->Prop)(rs:List (Nat×Addr))(G:Gam)(P:β->Prop)(Lo:β->List Addr)(Io:β->Hp->Prop)(ad:β->Addr):TE:=λσ H Q=>RZ K L I rs G σ H/\∀y H',P y->Io y H'->Same H (lef (Lo y) H')->Q (.ref (ad y)) H'
variable{Lo:β->List Addr}{Io:β->Hp->Prop}{ad:β->Addr}
section
variable{A:List Zt}{L:List Addr}{I:Hp->Prop}{P:β->Prop}{k:Nat}
theorem Kq(v:Sees X.K L I rs G G')(D0:OIFn X.prog X.w X.K X.mg X.base k C F)(hr:Room (k+1) X.A)(hg:Gl X x)(hm:X.mg x=some (.ref C))(ha:AV X G' (e::es) ds)(hF:F ds lf df)(hdb:(x==("__debug__":Str))=false:=by decide)(he:Zst X e es:=by rfl)(hpl:(backTo p3 (starEach es X.env)).any (·.1)=false:=by rfl):
  PE X (.Call (.Name x p2) (e::es) [] p3) (tNeu X.K L I rs G (λR:OR=>R.C=C) OR.L (λR=>Oz X.K R lf df) OR.a):=by
 obtain⟨f0,fd0,ps0,ok0,M,hb0⟩:=D0
 refine(Mu (E:=E0) (dvs:=[]) (ds:=[]) M ok0 hr hg hm hb0 .nil Ci ha hdb he hpl).imp λσ H Q ⟨r,q⟩=>⟨v σ H r,λvs H1 s1 dv=>?_⟩
 intro a dx ha hdx hne
 have sA:Same H1 (lef [a,dx] (upd (upd H1 dx (.own a)) a (.ins C dx []))):=λb o e=>by
  have n1:b≠a:=Ao e ha
  have n2:b≠dx:=Ao e hdx
  rw[An (by simp only[mem_cons,not_mem_nil,or_false,not_or];exact⟨n1,n2⟩),Ag n1,Ag n2]
  exact e
 show spOI X.K C F (V.ref a::(vs++[])) _ _ E0
 rw[append_nil]
 refine⟨a,dx,ds,lf,df,vs,rfl,Ah,by rw[Ag hne];exact Ah,hne,dv.mono sA,hF,λH2 R hC hRa hRd tb old fre=>⟨rfl,?_⟩⟩
 subst hC hRa hRd
 refine q R H2 rfl tb (s1.trans λb o e=>?_)
 have n1:b≠R.a:=Ao e ha
 have n2:b≠R.dx:=Ao e hdx
 have e1:upd (upd H1 R.dx (.own R.a)) R.a (.ins R.C R.dx []) b=some o:=by rw[Ag n1,Ag n2];exact e
 rw[An]
 .exact old b o n1 e1
 .intro z
  rcases mem_cons.mp z with z|z
  .exact n1 z
  rcases mem_cons.mp z with z|z
  .exact n2 z
  .obtain⟨y,hy,ey⟩:=mem_map.mp z
   have:=fre y hy
   rw[ey,e1]at this
   cases this
theorem KW{o:Expr}{pl:Sem Bool}(v:Sees X.K L I rs G G')(cl:Cls X.K C)(D0:NMFn X.prog X.w X.K X.mg X.base k C m F)(hr:Room k X.A)(ho:EV X G' o (objD C fls))(hF:F [objD C fls] lf df)(hm1:m∉AY:=by decide)
  (ht:eval (.Call (.Attribute o m apos) [] [] pos) X.env=(do
   let ov <-eval o X.env
   standAt apos.atName
   let(f,first) <-holding [ov] (getMethod ov m pl)
   callWith pos f first (backTo pos (starEach [] X.env)) (backToKw pos (keywordEach [] X.env))):=by rfl):
  PE X (.Call (.Attribute o m apos) [] [] pos) (tNeu X.K L I rs G (λR:OR=>R.C=C) OR.L (λR=>Oz X.K R lf df) OR.a):=by
 obtain⟨f,fd,ps,ok,hm,hb⟩:=D0
 refine(GH (E:=E0) (dvs:=[]) (ds:=[]) ho cl hm ok hr hb .nil Ci ht).imp λσ H Q ⟨r,q⟩=>⟨v σ H r,λu H1 s1 d1=>?_⟩
 obtain⟨a,dx,fs,rfl,hob,hf,hn⟩:=d1.of_objN
 refine⟨a,dx,fs,rfl,hob,hn m hm1,?_⟩
 show spM X.K C F (V.ref a::([]++[])) H1 Q E0
 exact⟨_,lf,df,.cons d1 .nil,hF,λR' H' hC' t' s'=>q R' H' hC' t' (s1.trans s')⟩
end
section
variable{L:List Addr}{I:Hp->Prop}{l:Nat}{a b c:Addr}
theorem Kk(hi:(i,a)∈rs)(hj:(j,b)∈rs)(h1:∀H,I H->DV K H (.ref a) d1)(h2:∀H,I H->DV K H (.ref b) d2):Sees K L I rs G ((G.set i (some d1)).set j (some d2)):=λσ H r=>by
 have e1:=r.sd.set (i:=i) (h1 H r.2.1)
 rw[DP (r.1 _ hi)]at e1
 have e2:=e1.set (i:=j) (h2 H r.2.1)
 rw[DP (r.1 _ hj)]at e2
 exact e2
theorem Dr(hi:(i,a)∈rs)(h1:∀H,I H->DV K H (.ref a) d1):Sees K L I rs G (G.set i (some d1)):=λσ H r=>by
 have e1:=r.sd.set (i:=i) (h1 H r.2.1)
 rw[DP (r.1 _ hi)]at e1
 exact e1
end
theorem Oz.dv(i:Oz K R lf df H):DV K H (.ref R.a) (objD R.C (fldD lf df)):=let⟨_,t⟩:=i;t.dv
section
variable{A:List Zt}{o:Expr}{hq q0:Addr}{k l:Nat}{N:NR}
end
variable{e2:Expr}
section
variable{A:List Zt}{e3 k2 k3:Expr}{f1 f2 f3:Str}{N:NR}
end
section
variable{k:Nat}
end
section
variable{L:List Addr}{I:Hp->Prop}{ad:Addr}
theorem H_:Sees K L I rs G G:=λσ H r=>r.sd
end
section
variable{A:List Zt}{ad:Addr}{k:Nat}{L:List Addr}{I:Hp->Prop}
end
section
variable{p:Pos}
end
variable{Gv:Gam}{j1 j2:Nat}{tpos:Pos}
section
variable{L:List Addr}{T:α}
end
section
variable{L:List Addr}{I:Hp->Prop}{A:List Stmt}
theorem Om(h:ZTI X L I rs G c true I1)(h1:PSs X A (zV X.K L I1 rs G (λ_ _ _=>False) Rt)):PSs X (.If c A [] pos::sts) (zV X.K L I rs G Nx Rt):=
 (As (BG h h1 (A2 (sts:=[]))) (A2 (sts:=sts))).imp λD σ H ⟨r,q1,q2⟩=>⟨r,λH' i' s'=>iteT ⟨r.next i' s',λL2 σ2 H2 n s2=>n.elim,λL2 v H2 n s2=>q2 L2 v H2 n (s'.trans s2)⟩⟩
theorem IQ(h:ZTI X L I rs G c false I1)(h2:PSs X sts (zV X.K L I1 rs G Nx Rt)):PSs X (.If c A [] pos::sts) (zV X.K L I rs G Nx Rt):=
 (As (BG h (A2 (sts:=A)) pss_nil) h2).imp λD σ H ⟨r,q1,q2⟩=>⟨r,λH' i' s'=>iteF ⟨r.next i' s',λL2 σ2 H2 n s2=>q1 L2 σ2 H2 n (s'.trans s2),λL2 v H2 n s2=>q2 L2 v H2 n (s'.trans s2)⟩⟩
theorem T8(h:PSs X sts (zV X.K (LZ [it]) (TZ [it]) rs G Nx Rt)):PSs X sts (zV X.K it.1 it.2 rs G Nx Rt):=h.imp λD σ H ⟨r,q1,q2⟩=>by
 rw[show zV X.K (LZ [it]) (TZ [it]) rs G Nx Rt=zV X.K it.1 (TZ [it]) rs G Nx Rt by rw[SS]]
 exact⟨⟨r.1,tz_one.mpr r.2.1,r.2.2⟩,q1,q2⟩
end
section
variable{L:List Addr}{T:α}
end
structure FunD(K:Frag)(items:Array Value)(x qual:Str)(st:Stmt)(f:Addr)(fd:FuncData):Prop where
 ex:∃(oc:Value) (od:Option Addr) (T:Addr) (n:Nat) (to:Obj) (kV doc pm:Value) (an:Option Addr) (cdv ct:Value) (osl:Array (Option Value)),
  fd=fnOf x qual (BT st) (AB st) (Ad st) (.ref T) kV doc pm an cdv ct/\K.lookup f=some ⟨oc,od,.func fd,osl⟩/\codeIn K cdv qual=true/\K.lookup T=some to/\to.data=.seq items n
 kp:keepIn K (.ref f)=true
section
variable{A:List Zt}{k:Nat}
end
section
variable{L:List Addr}{I:Hp->Prop}
end
section
variable{L:List Addr}{I:Hp->Prop}{P:β->Prop}{k:Nat}
end
section
variable{Mid:Gam->List PyData->Prop}{R:List PyData->Prop}
end
def KL(K:Frag)(p:Addr)(S:List PyData)(H:Hp):Prop:=∃us,H p=some (.lst us)/\DVs K (lef [p] H) us S
section
variable{k:Nat}
end
theorem QR{f cc d c':Addr}{nm:Str}{params:Arguments}{pm ctv:Value}{g:Key->Option Value}{i v:Int}{t tv:Tok}{Q:Value->Shared->Prop}
  (hroom:A.depth<recursionLimit)(hf:s.heap.get? f=some (kla_obj nm qual params (.Subscript (.Name y p1) (.Name x p2) p3) scope [(y,cc)] pm c' ctv))(hcd:s.heap.CodeRec (.ref c') qual)(hlim:s.heap.NoLimit)(hcell:s.heap.IsCell cc (some (.ref d)))(hm:s.heap.MapOf (AC prog w) d g)(hg:g (Sum.inl i)=some (.int v tv))
  (hb:∀u,bindArgs (kla_fn nm qual params (.Subscript (.Name y p1) (.Name x p2) p3) scope [(y,cc)] pm (.ref c') ctv) ⟨[u],[]⟩=pure [(x,u)])
  (hk:scope.kind=.function)(hco:scope.isCoroutine=false)(hgen:scope.isGenerator=false)(hnc:∀z∈scope.names,z.2≠.cell)(hxl:scope.names.lookup x=some .local)
  (hx:∀L',(envX qual scope L' f (.ref c') [(y,cc)]).kindOf x=some .local)(hy:∀L',(envX qual scope L' f (.ref c') [(y,cc)]).kindOf y=some .free)
  (hdx:(x==("__debug__":Str))=false)(hdy:(y==("__debug__":Str))=false)(hcy:(y==("__classdict__":Str))=false)
  (h:∀h' tk,(∀b o,s.heap.get? b=some o->h'.get? b=some o)->Q (.int v tv) {s with heap:=h',toks:=tk}):
  wpAny (model prog w) A (call (.ref f) [.int i t]) Q E s:=by
 refine wpAny_call (PySem.W.kla_callFunE hroom hf rfl hco hgen rfl hcd ?_)
 rw[hb]
 refine wpAny_pure (wpAny_newFunctionEnv hnc (λz hz=>by rw[mem_singleton.mp hz];exact hxl) (λh₁ hns hsb=>?_) hk)
 have hk₁:∀b o,s.heap.get? b=some o->h₁.get? b=some o:=λb o e=>hsb.extBut b o (ne_of_lt (lt_size e)) (get?_push_of_some _ e)
 refine⟨hlim.keeps hk₁,?_⟩
 show codeAny _ _ (.expr (.Subscript (.Name y p1) (.Name x p2) p3) (envX qual scope s.heap.objs.size f (.ref c') [(y,cc)])) _ _
 refine PySem.W.kla_codeExpr ?_
 have hm1:h₁.MapOf (AC prog w) d g:=let⟨o,es,ep,e,z⟩:=hm;⟨o,es,ep,hk₁ _ _ e,z⟩
 have hc1:h₁.IsCell cc (some (.ref d)):=let⟨o,e,z⟩:=hcell;⟨o,hk₁ _ _ e,z⟩
 refine QP (T:="dict") PySem.F.slot_dict_getitem.lookup (λ_ _=>rfl) ?_
 refine wpAny_Name (wpAny_loadName_free hk (hy _) (by show List.lookup y [(y,cc)]=some cc;simp) hc1 ?_ hcy) hdy
 refine wpAny_Name (wpAny_loadName_local (v:=.int i t) hk (hx _) hns (by show List.lookup x [(x,Value.int i t)]=some (.int i t);simp) ?_) hdx
 refine⟨hm1.typeIs,?_⟩
 exact wpAny_getItem_of (Ji (k:=Sum.inl i) (show RelV (.int i) (.int i t)from⟨_,rfl⟩)) hm1 hg (h _ _ hk₁)
def upK(ns:Nat->Int)(vs:Int->Int)(b:Int):Nat->Nat->Int
 |_,0=>b
 |j,k+1=>upK ns vs (if vs (ns j)>vs b then ns j else b) (j+1) k
theorem MX{I f:Addr}{P:Nat->Value->Prop}{St:Nat->Heap->Prop}(W:Walks prog w A.in1 I fp wr n P St)(ns:Nat->Int)(vs:Int->Int)(hP:∀i v,P i v->∃t,v=.int (ns i) t)(dv:Value)(S:Addr)(hSf:S∉fp)(h₀:Heap)(hfre:∀c o,h₀.get? c=some o->c∉wr/\c≠S)
  (hkey:∀(j:Nat) (t:Tok) (s':Shared) (Q' E':Value->Shared->Prop),j<n->(∀c o,h₀.get? c=some o->s'.heap.get? c=some o)->(∀tv h' tk,(∀b o,s'.heap.get? b=some o->h'.get? b=some o)->Q' (.int (vs (ns j)) tv) {s' with heap:=h',toks:=tk})->wpAny (model prog w) A.in1 (call (.ref f) [.int (ns j) t]) Q' E' s')
  {R:Result->Shared->Prop}:
  ∀(k j:Nat) (s:Shared) (b:Int) (t t2:Tok) (c:Nat),n-j=k->j<=n->(∀c o,h₀.get? c=some o->s.heap.get? c=some o)->St j s.heap->s.heap.get? S=some {cls:=.type "list",dict:=none,data:=.seq #[.int b t,.int (vs b) t2] c,slots:=#[]}->
  (∀t' h' tk,(∀x o,x∉wr->x≠S->s.heap.get? x=some o->h'.get? x=some o)->R (.ok (.ret (.int (upK ns vs b j k) t'))) {s with heap:=h',toks:=tk})->
  codeAny (model prog w) A (.builtin "max.loop" ⟨[.ref I,.ref f,.ref S],[("default",dv)]⟩) R s:=by
 have hSw:S∉wr:=λh=>hSf (W.sub _ h)
 have hname:(toString "max"++toString ".loop":String)="max.loop":=by decide
 intro k
 induction k with
 |zero=>
  intro j s b t t2 c hk hj hg0 hst hS hR
  have hin:j=n:=by omega
  refine codeAny_builtin F.entry_max_loop ?_
  rw[Around.under_plainId F.plain_max_loop _]
  show wpAny _ A.in1 (seqItems? (.ref S)>>=_) _ _ s
  refine wpAny_bind (wpAny_seqItems hS rfl ?_)
  show wpAny _ A.in1 (tryCatch (pyNext (.ref I)) _>>=_) _ _ s
  refine wpAny_bind (wpAny_tryCatch (W.done s _ _ (hin▸hst) λh' tk hk'=>?_))
  have hS':=hk' S _ hSw hS
  show wpAny _ A.in1 (updateSeq S (λ_=>#[])>>=_) _ _ _
  refine wpAny_bind ?_
  refine wpAny_updateSeq hS' rfl (wpAny_bind (wpAny_letGo (wpAny_pure ?_)))
  exact hR t _ tk λx o hx hxS e=>(get?_update_other _ _ (symm hxS)).trans (hk' x o hx e)
 |succ k ih=>
  intro j s b t t2 c hk hj hg0 hst hS hR
  have hlt:j<n:=by omega
  refine codeAny_builtin F.entry_max_loop ?_
  rw[Around.under_plainId F.plain_max_loop _]
  show wpAny _ A.in1 (seqItems? (.ref S)>>=_) _ _ s
  refine wpAny_bind (wpAny_seqItems hS rfl ?_)
  show wpAny _ A.in1 (tryCatch (pyNext (.ref I)) _>>=_) _ _ s
  refine wpAny_bind (wpAny_tryCatch (W.item j s _ _ hlt hst λv h1 tk hPv hst1 hk1=>?_))
  obtain⟨tv,rfl⟩:=hP j v hPv
  have hS1:=hk1 S _ hSw hS
  have hg1:∀c o,h₀.get? c=some o->h1.get? c=some o:=λc o e=>hk1 c o (hfre c o e).1 (hg0 c o e)
  show wpAny _ A.in1 (tryCatch (holding [Value.int (ns j) tv] (call (.ref f) [Value.int (ns j) tv])) _>>=_) _ _ _
  refine wpAny_bind (wpAny_tryCatch (wpAny_holding (hkey j tv _ _ _ hlt hg1 λtw h' tk' hk2=>?_)))
  have hk':∀x o,x∉wr->s.heap.get? x=some o->h'.get? x=some o:=λx o hx e=>hk2 x o (hk1 x o hx e)
  have hS':=hk2 S _ hS1
  have hg':∀c o,h₀.get? c=some o->h'.get? c=some o:=λc o e=>hk2 c o (hg1 c o e)
  have hst':St (j+1) h':=W.frame _ _ _ hst1 λx hx o e=>hk2 x o e
  show wpAny _ A.in1 (tryCatch (holding [Value.int (ns j) tv,Value.int (vs (ns j)) tw] (richCompare .Gt (Value.int (vs (ns j)) tw) (Value.int (vs b) t2)>>=_)) _>>=_) _ _ _
  refine wpAny_bind (wpAny_tryCatch (wpAny_holding (wpAny_bind (PyProof.Rows.gt_int ?_))))
  refine wpAny_bind (wpAny_holding (wpAny_truthy_bool ?_))
  refine wpAny_bind (wpAny_letGo (wpAny_pure ?_))
  by_cases hb:vs (ns j)>vs b
  .rw[decide_eq_true (show vs b<vs (ns j)from hb)]
   simp only[if_true]
   refine wpAny_bind ?_
   refine wpAny_updateSeq hS' rfl (wpAny_bind (wpAny_letGo ?_))
   rw[hname]
   have e:upK ns vs b j (k+1)=upK ns vs (ns j) (j+1) k:=by rw[upK,if_pos hb]
   rw[e]at hR
   exact wpAny_pure ⟨plainId_quiet F.plain_max_loop _,ih (j+1) _ (ns j) tv tw _ (by omega) hlt (λx o e=>(get?_update_other _ _ (symm (hfre x o e).2)).trans (hg' x o e)) (W.frame _ _ _ hst' λx hx o e=>(get?_update_other _ _ (λh:S=x=>hSf (by rw[h];exact hx))).trans e) (get?_update_self _ hS' rfl)
    λt' h'' tk'' hk''=>hR t' h'' tk'' λx o hx hxS e=>hk'' x o hx hxS ((get?_update_other _ _ (symm hxS)).trans (hk' x o hx e))⟩
  .rw[decide_eq_false (show ¬vs b<vs (ns j)from hb)]
   simp only[false_eq_true,if_false]
   refine wpAny_bind (wpAny_letGo ?_)
   rw[hname]
   have e:upK ns vs b j (k+1)=upK ns vs b (j+1) k:=by rw[upK,if_neg hb]
   rw[e]at hR
   exact wpAny_pure ⟨plainId_quiet F.plain_max_loop _,ih (j+1) _ b t t2 c (by omega) hlt hg' hst' hS' λt' h'' tk'' hk''=>hR t' h'' tk'' λx o hx hxS e=>hk'' x o hx hxS (hk' x o hx e)⟩
theorem IM(a k d:Value):argsOk "max" ⟨[a],[("key",k),("default",d)]⟩:=by unfold argsOk;kernel_rfl
def FG(ns:List Int)(vs:Int->Int):Option Int:=match ns with
 |[]=>none
 |x::_=>some (upK (λi=>ns.getD i 0) vs x 1 (ns.length-1))
theorem QH{l f:Addr}{its:List Value}{vs:Int->Int}{Q:Value->Shared->Prop}(hh:A.handled=none)(hl:s.heap.IsList l its.toArray)(hi:IntsAre its ns)
  (hkey:∀(j:Nat) (t:Tok) (s':Shared) (Q' E':Value->Shared->Prop),j<ns.length->(∀c o,s.heap.get? c=some o->s'.heap.get? c=some o)->(∀tv h' tk,(∀b o,s'.heap.get? b=some o->h'.get? b=some o)->Q' (.int (vs (ns.getD j 0)) tv) {s' with heap:=h',toks:=tk})->wpAny (model prog w) A.in1 (call (.ref f) [.int (ns.getD j 0) t]) Q' E' s')
  (h:∀u h' tk,(match FG ns vs with|none=>u=Value.none|some z=>∃t,u=Value.int z t)->(∀c o,s.heap.get? c=some o->h'.get? c=some o)->Q u {s with heap:=h',toks:=tk}):
  wpAny (model prog w) A (call (.builtin "max") [.ref l] [("key",.ref f),("default",.none)]) Q E s:=by
 have hname:(toString "max"++toString ".loop":String)="max.loop":=by decide
 refine wpAny_call (codeAny_call_builtin F.plain_max F.entry_max ?_)
 simp only[checkBuiltinCall,F.kind_max]
 have hc:wpAny (model prog w) A.in1 (Builtin.«max» ⟨[.ref l],[("key",.ref f),("default",.none)]⟩) (λfin s'=>match fin with
   | .done f=>(match(Except.ok f:Result)with| .ok (.ret v)=>Q v s'| .ok _=>False| .error e=>E e s')
   | .again c'=>c'.quiet=true/\codeAny (model prog w) A c' (λr s'=>match r with| .ok (.ret v)=>Q v s'| .ok _=>False| .error e=>E e s') s') E s:=by
  show wpAny _ A.in1 (Builtin.Builtins.bindParams "max" ["key","default"] 0 ⟨[],[("key",.ref f),("default",.none)]⟩>>=_) _ _ s
  refine wpAny_bind (wpAny_of_eq (show Builtin.Builtins.bindParams "max" ["key","default"] 0 ⟨[],[("key",.ref f),("default",.none)]⟩=pure [some (.ref f),some .none]from rfl) ?_)
  refine wpAny_bind (wpAny_pure ?_)
  refine wpAny_bind (wpAny_pyIter_list hl ?_)
  refine wpAny_bind (wpAny_newObj_type ?_)
  rw[hname]
  generalize hI:s.heap.objs.size=I
  have hlI:l≠I:=by
   obtain⟨o,ho,_⟩:=hl
   rw[<-hI]
   exact ne_of_lt (lt_size ho)
  have W:=Walks.list (prog:=prog) (w:=w) (A:=A.in1) hh I l hlI its.toArray
  have hst0:(s.heap.push {cls:=.type "list_iterator",data:=.fields #[.ref l,.int 0 0]}).IsListIter I l 0/\(s.heap.push {cls:=.type "list_iterator",data:=.fields #[.ref l,.int 0 0]}).IsList l its.toArray:=
   ⟨⟨_,by rw[<-hI];exact get?_push_size _ rfl,rfl,rfl⟩,hl.push _⟩
  have old0:∀c o,s.heap.get? c=some o->(s.heap.push {cls:=.type "list_iterator",data:=.fields #[.ref l,.int 0 0]}).get? c=some o:=λc o e=>get?_push_of_some _ e
  have hsz:(s.heap.push {cls:=.type "list_iterator",data:=.fields #[.ref l,.int 0 0]}).objs.size=I+1:=by rw[<-hI];exact size_push ..
  have hlt:l<I:=by
   obtain⟨o,ho,_⟩:=hl
   rw[<-hI]
   exact lt_size ho
  have oldI:∀c o,s.heap.get? c=some o->c<I:=λc o e=>by rw[<-hI];exact lt_size e
  generalize hh0:s.heap.push {cls:=.type "list_iterator",data:=.fields #[.ref l,.int 0 0]}=h0 at*
  generalize hS:h0.objs.size=S at*
  subst hsz
  have hSf:I+1∉[I,l]:=λz=>by
   simp only[mem_cons,not_mem_nil,or_false]at z
   rcases z with z|z
   .exact absurd z (Nat.succ_ne_self I)
   .rw[<-z]at hlt;exact absurd hlt (not_lt_of_le (le_succ I))
  have hSw:I+1∉[I]:=λz=>hSf (W.sub _ z)
  have hS0:(h0.push {cls:=.type "list",dict:=none,data:=.seq #[] 0,slots:=#[]}).get? (I+1)=some {cls:=.type "list",dict:=none,data:=.seq #[] 0,slots:=#[]}:=by rw[<-hS];exact get?_push_size _ rfl
  have st1:=W.frame 0 _ (h0.push {cls:=.type "list",dict:=none,data:=.seq #[] 0,slots:=#[]}) hst0 λb hb o e=>get?_push_of_some _ e
  have old1:∀c o,s.heap.get? c=some o->(h0.push {cls:=.type "list",dict:=none,data:=.seq #[] 0,slots:=#[]}).get? c=some o/\c∉[I]/\c≠I+1:=λc o e=>by
   have:=oldI c o e
   refine⟨get?_push_of_some _ (old0 c o e),λz=>?_,λz=>?_⟩
   .rw[mem_singleton.mp z]at this;exact lt_irrefl _ this
   .rw[z]at this;exact lt_irrefl _ (Nat.lt_of_succ_lt this)
  refine wpAny_pure ⟨plainId_quiet F.plain_max_loop _,codeAny_builtin F.entry_max_loop ?_⟩
  rw[Around.under_plainId F.plain_max_loop _]
  show wpAny _ A.in1 (seqItems? (.ref (I+1))>>=_) _ _ _
  refine wpAny_bind (wpAny_seqItems hS0 rfl ?_)
  show wpAny _ A.in1 (tryCatch (pyNext (.ref I)) _>>=_) _ _ _
  have hin:∀(i:Nat) v,its.toArray[i]?=some v->∃t,v=.int (ns.getD i 0) t:=by
   intro i v hv
   exact ints_get hi (by simpa using hv)
  have hlen:its.length=ns.length:=IntsAre.length hi
  cases ns with
  |nil=>
   have h0':its.toArray.size=0:=by simpa using hlen
   refine wpAny_bind (wpAny_tryCatch (W.done _ _ _ (by rw[h0'];exact st1) λh' tk hk'=>?_))
   refine wpAny_bind (wpAny_rule (wpAny_pure ?_))
   exact h .none _ tk rfl λc o e=>hk' c o (old1 c o e).2.1 (old1 c o e).1
  |cons x r=>
   have hsz2:its.toArray.size=r.length+1:=by simpa using hlen
   refine wpAny_bind (wpAny_tryCatch (W.item 0 _ _ _ (by rw[hsz2];omega) st1 λv h2 tk hPv hst2 hk2=>?_))
   obtain⟨tv,rfl⟩:=hin 0 v hPv
   have hS2:=hk2 (I+1) _ hSw hS0
   have hg2:∀c o,s.heap.get? c=some o->h2.get? c=some o:=λc o e=>hk2 c o (old1 c o e).2.1 (old1 c o e).1
   show wpAny _ A.in1 (tryCatch (holding [Value.int x tv] (call (.ref f) [Value.int x tv])) _>>=_) _ _ _
   refine wpAny_bind (wpAny_tryCatch (wpAny_holding (hkey 0 tv _ _ _ (Nat.succ_pos _) hg2 λtw h3 tk3 hk3=>?_)))
   have hS3:=hk3 (I+1) _ hS2
   show wpAny _ A.in1 (updateSeq (I+1) (λ_=>#[Value.int x tv,Value.int (vs x) tw])>>=_) _ _ _
   refine wpAny_bind ?_
   refine wpAny_updateSeq hS3 rfl ?_
   rw[hname]
   refine wpAny_pure ⟨plainId_quiet F.plain_max_loop _,MX W (λi=>(x::r).getD i 0) vs hin _ (I+1) hSf s.heap (λc o e=>⟨(old1 c o e).2.1,(old1 c o e).2.2⟩) (λj t s' Q' E' hj hg hq=>hkey j t s' Q' E' (by rw[hsz2]at hj;exact hj) hg hq) r.length 1 _ x tv tw _ (by rw[hsz2];omega) (by rw[hsz2];omega) (λc o e=>(get?_update_other _ _ (symm (old1 c o e).2.2)).trans (hk3 c o (hg2 c o e))) (W.frame _ _ _ (W.frame _ _ _ hst2 λb hb o e=>hk3 b o e) λb hb o e=>(get?_update_other _ _ (λz:I+1=b=>hSf (by rw[z];exact hb))).trans e) (get?_update_self _ hS3 rfl) λt' h'' tk'' hk''=>?_⟩
   exact h _ h'' tk'' ⟨t',rfl⟩ λc o e=>hk'' c o (old1 c o e).2.1 (old1 c o e).2.2 ((get?_update_other _ _ (symm (old1 c o e).2.2)).trans (hk3 c o (hg2 c o e)))
 cases hsig:Manifest.signature? "max"with
 |none=>exact wpAny_pure hc
 |some sig=>
  have ha':Bind.checkArgs "max" sig ⟨[.ref l],[("key",.ref f),("default",.none)]⟩=pure ():=by
   have:=IM (.ref l) (.ref f) .none
   simpa only[argsOk,hsig]using this
  simp only[ha']
  exact wpAny_pure hc
theorem Nd{mb:Str->Option Value}{k:Nat}{fa a T c:Addr}{s₁:Shared}{vs:List Value}
  (KX:K.In s₁.heap)(hns:s₁.heap.Ns mainGlobals mg)(hb:s₁.heap.Ns builtinsNs mb)(hbb:∀x:Str,x≠"__name__"->mb x=bootBuiltins x)(hlim:s₁.heap.NoLimit)(hg:s₁.gens=#[])
  (bmain:∃bm ob,mg "__builtins__"=some (.ref bm)/\bm≠builtinsNs/\s₁.heap.get? bm=some ob/\ob.cls=.type "module"/\ob.dict=some builtinsNs/\ob.data=.plain)
  (hT:s₁.heap.get? T=some (tabObj #[]))(hC:CodeHd s₁.heap c T)(hKT:K.lookup T=none)
  (ha:s₁.heap.get? a=some {cls:=.type "list",data:=.seq vs.toArray})(hi:IntsAre vs ns)(hl:ns.length<=sizeLine)(hr:Room k callerA)
  (F:∀base:Heap,K.In base->base.Ns mainGlobals mg->base.BuiltinsAt mg T->FnOk P w K mg base CX k fa fd [x] sp)(hbind:∀(s:Shared) (u:Value),BindsTo s fd ⟨[u],[]⟩ [(x,u)])
  (hsp:∀H:Hp,H T=some (.tbl #[])->SqL K H a (ns.map V.int)->a≠T->sp [.ref a] H (λv _=>v=.bl true) λ_ _ _=>False)
  (hCX:∀H e s',CX [] H s₁ (λ_ _ _=>False) e s'->False):
  codeAny (model P w) callerA (.call (.ref fa) ⟨[.ref a],[]⟩) (λr s'=>r=.ok (.ret (.bool true))/\OldK s₁.heap s'.heap/\s'.os=s₁.os/\AllBare s'.gens) s₁:=by
 have rv:=HY hi
 have lenV:=hi.length
 have haT:a≠T:=λz=>by rw[z,hT]at ha;cases ha
 have core:∀H:Hp,H T=some (.tbl #[])->(∀b,b≠T->H b=none\/∃o xs,H b=some (.frz o (.lst xs)))->SqL K H a (ns.map V.int)->HOk P w H s₁.heap->(∀b,H b≠none->b=a\/b=T)->(H a≠none->K.lookup a=none)->
   codeAny (model P w) callerA (.call (.ref fa) ⟨[.ref a],[]⟩) (λr s'=>r=.ok (.ret (.bool true))/\OldK s₁.heap s'.heap/\s'.os=s₁.os/\AllBare s'.gens) s₁:=by
  intro H hTt hO hS hok hA hK
  have base_of:∀{b:Addr}{o:Obj},s₁.heap.get? b=some o->H b=none->(hidT s₁.heap H).get? b=some o:=λe n=>O3 e n
  have noA0:∀{b:Addr}{o:Obj},s₁.heap.get? b=some o->(∀n,o.data≠.seq vs.toArray n)->(∀ps,o.data≠.fields ps)->H b=none:=λ{b o} e d1 d2=>by
   cases q:H b with
   |none=>rfl
   |some u=>
    rcases hA b (by rw[q];simp)with e'|e'
    .subst e'
     rw[ha]at e;cases e
     exact(d1 _ rfl).elim
    .subst e'
     rw[hT]at e;cases e
     exact(d2 _ rfl).elim
  have nsK:∀{b:Addr}{m:Str->Option Value},s₁.heap.Ns b m->(hidT s₁.heap H).Ns b m:=λ{b m} ⟨o,es,ep,e,d,r⟩=>⟨o,es,ep,base_of e (noA0 e (λn z=>by rw[d]at z;cases z) λps z=>by rw[d]at z;cases z),d,r⟩
  have hKb:K.In (hidT s₁.heap H):=λb o e=>base_of (KX b o e) (by
   cases q:H b with
   |none=>rfl
   |some u=>
    rcases hA b (by rw[q];simp)with e'|e'
    .subst e'
     rw[hK (by rw[q];simp)]at e;cases e
    .subst e'
     rw[hKT]at e;cases e)
  have hM:Mod K mg (hidT s₁.heap H):=⟨hKb,nsK hns,⟨mb,nsK hb,hbb⟩,let⟨mc,h1,h2⟩:=hlim;⟨mc,nsK h1,h2⟩⟩
  have hB:(hidT s₁.heap H).BuiltinsAt mg T:=by
   obtain⟨bm,ob,b1,b2,b3,b4,b5,b6⟩:=bmain
   refine⟨bm,ob,b1,b2,λz=>?_,λz=>?_,base_of b3 (noA0 b3 (λn z=>by rw[b6]at z;cases z) λps z=>by rw[b6]at z;cases z),b4,b5,b6⟩
   .obtain⟨o,es,ep,e,d,_⟩:=hns
    rw[z,e]at b3;cases b3
    rw[b6]at d;cases d
   .rw[z,hT]at b3;cases b3
    cases b6
  have e0:Env0 P w K mg (hidT s₁.heap H) callerA [] s₁ H:=⟨rfl,hM,λb o e=>QI e,Nat.le_of_eq (No _ _),trivial,λb hb=>absurd (show b∈([]:List Addr)from hb) (by simp),hok,.of_eq hg⟩
  refine codeAny_mono ((F _ hKb (nsK hns) hB).run callerA [] s₁ H ⟨[.ref a],[]⟩ [.ref a] [.ref a] _ _ hr e0 (hbind s₁ (.ref a)) (.cons rfl .nil) (hsp H hTt hS haT)) λr s' h=>?_
  cases r with
  |error e=>exact(hCX H e s' h).elim
  |ok fl=>
   cases fl with
   |next=>exact False.elim h
   |brk=>exact False.elim h
   |cont=>exact False.elim h
   |ret u=>
    obtain⟨v,H',os,bare,un,hok',r',q⟩:=h
    have q':v=.bl true:=q
    subst q'
    obtain rfl:u=Value.bool true:=r'
    obtain⟨more,hm⟩:=un.tbls T _ hTt
    have hT':s'.heap.get? T=some {cls:=.none,data:=.fields (#[]++more)}:=hok' T _ hm
    have key:∀b o,b≠T->s₁.heap.get? b=some o->s'.heap.get? b=some o:=λb o hbT e=>by
     cases q:H b with
     |none=>exact un.keep b o e q (by intro z;exact absurd (show b∈([]:List Addr)from z) (by simp)) (by simp)
     |some u=>
      rcases hO b hbT with z|⟨ob,xs,z⟩
      .rw[q]at z;cases z
      .have z2:=un.frzs b ob _ z
       obtain⟨e1,_⟩:=hok b _ z
       obtain⟨e2,_⟩:=hok' b _ z2
       rw[e]at e1;cases e1
       exact e2
    refine⟨rfl,⟨λb o e=>?_,λb o e=>?_⟩,os,bare⟩
    .by_cases hbT:b=T
     .subst hbT
      rw[hT]at e;cases e
      exact .inr (.inl ⟨(hC.tab hT).isCodeTable,rfl,#[],more,rfl,hT'⟩)
     .exact .inl (key b o hbT e)
    .by_cases hbT:b=T
     .exact⟨_,hbT▸hT'⟩
     .exact⟨o,key b o hbT e⟩
 cases hk:K.lookup a with
 |some o=>
  have e:=KX a o hk
  rw[ha]at e
  cases e
  refine core (λb=>if b=T then some (.tbl #[])else none) (if_pos rfl) (λb hb=>.inl (if_neg hb)) (.inr ⟨_,vs.toArray,_,hk,rfl,rfl,rfl,by rw[size_toArray,lenV];exact hl,by simpa using rv⟩) (λb u z=>?_) (λb z=>?_) λz=>absurd (if_neg haT) z
  .by_cases hbT:b=T
   .have z':=(if_pos hbT).symm.trans z
    cases z'
    subst hbT
    exact hT
   .have z':=(if_neg hbT).symm.trans z
    cases z'
  .by_cases hbT:b=T
   .exact .inr hbT
   .exact absurd (if_neg hbT) z
 |none=>
  refine core (λb=>if b=T then some (.tbl #[])else if b=a then some (.frz {cls:=.type "list",data:=.seq vs.toArray} (.lst (ns.map V.int)))else none) (if_pos rfl) (λb hb=>?_) (.inl (.inr ⟨{cls:=.type "list",data:=.seq vs.toArray},(if_neg haT).trans (if_pos rfl)⟩)) (λb u z=>?_) (λb z=>?_) λ_=>hk
  .by_cases hba:b=a
   .exact .inr ⟨_,_,(if_neg hb).trans (if_pos hba)⟩
   .exact .inl ((if_neg hb).trans (if_neg hba))
  .by_cases hbT:b=T
   .have z':=(if_pos hbT).symm.trans z
    cases z'
    subst hbT
    exact hT
   .have z:=(if_neg hbT).symm.trans z
    by_cases hba:b=a
    .have z':=(if_pos hba).symm.trans z
     cases z'
     subst hba
     exact⟨ha,by rw[length_map];exact hl,vs,_,rv,ha⟩
    .have z':=(if_neg hba).symm.trans z
     cases z'
  .by_cases hbT:b=T
   .exact .inr hbT
   .by_cases hba:b=a
    .exact .inl hba
    .exact absurd ((if_neg hbT).trans (if_neg hba)) z
theorem walk_T{l:PySem.W.OpenLaw}{k:Nat}{q:Program}{loose:List Str}{XP:(Str->Option Value)->Heap->Prop}{YP:World->Heap->Prop}{d:DefRec}{K:Params->Frag}{CX:World->CXT}{sp:World->Sp}{T c:Addr}
  (hn:l.most=some n)(hn2:n<=sizeLine)(hdf:d.params.defaults=[])(hr:Room k callerA)
  (hY:∀(w:World) (h:Heap),YP w h->(K w.params).In h/\h.get? T=some (tabObj #[]))(hKT:∀w:World,(K w.params).lookup T=none)(hC:∀w:World,codeHdIn (K w.params) c T=true)
  (F:∀(w:World) (mg:Str->Option Value) (fa:Addr) (h:Heap),(K w.params).In h->h.Ns mainGlobals mg->mg d.name=some (.ref fa)->
   ∃fd:FuncData,(∀(s:Shared) (u:Value),BindsTo s fd ⟨[u],[]⟩ [(x,u)])/\
    ∀base:Heap,(K w.params).In base->base.Ns mainGlobals mg->base.BuiltinsAt mg T->FnOk l.prog w (K w.params) mg base (CX w) k fa fd [x] (sp w))
  (hsp:∀(w:World) (H:Hp) (a:Addr) (ns:List Int),ns.length<=n->H T=some (.tbl #[])->SqL (K w.params) H a (ns.map V.int)->a≠T->sp w [.ref a] H (λv _=>v=.bl true) λ_ _ _=>False)
  (hCX:∀(w:World) (H:Hp) (s:Shared) (e:Value) (s':Shared),CX w [] H s (λ_ _ _=>False) e s'->False):
  PySem.W.WalkO q loose XP YP l.row.toRowW d [] (λf vs=>PySem.call f vs):=by
 refine Att.attach_call hn hdf λw s₀ s₁ mg mb fa o pm cd doc a vs ns G Y ho hd hcd hmg hobj hints hlen hg=>?_
 obtain⟨KX,hT⟩:=hY w _ Y
 obtain⟨fd,hb,hF⟩:=F w mg fa _ KX G.T.g hmg
 exact Nd KX G.T.g G.T.b G.T.builtins G.T.nolimit hg G.T.bmain hT (codeHd_of_K KX (hC w)) (hKT w) hobj hints (le_trans hlen hn2) hr hF hb (λH hO hS hn=>hsp w H a ns hlen hO hS hn) λH e s'=>hCX w H s₁ e s'
def codφ(c':Addr)(qual:Str):Heap->Prop:=λh=>h.CodeRec (.ref c') qual
def lamφ(f c':Addr)(qual:Str)(params:Arguments)(body:Expr)(lsc:Scope)(clos:List (Str×Addr))(pm:Value):Heap->Prop:=λh=>∃ctv,h.get? f=some (kla_obj "<lambda>" qual params body lsc clos pm c' ctv)
def TbI(T:Addr)(pos:Pos)(qual:Str)(o:Option Addr)(H:Hp):Prop:=match o with
 |none=>H T=some (.tbl #[])
 |some c'=>c'≠T/\H T=some (.tbl #[rawInt pos.line,rawInt pos.col,.ref c'])/\H c'=some (.ext (codφ c' qual))
def tL(T:Addr)(o:Option Addr):List Addr:=T::o.toList
theorem Ti{c':Addr}(x:h.CodeRec (.ref c') qual):ObjOk P w H h c' (.ext (codφ c' qual)):=by
 refine⟨x,?_,λh1 h2 y k=>?_⟩
 .obtain⟨c,o,vs,t,e,ho,_⟩:=x
  cases e
  exact⟨o,ho⟩
 .obtain⟨c,o,vs,t,e,ho,r⟩:=y
  cases e
  exact⟨_,o,vs,t,rfl,k _ ho,r⟩
variable{params:Arguments}
theorem OA{f c':Addr}{body:Expr}{lsc:Scope}{clos:List (Str×Addr)}{pm ctv:Value}(x:h.get? f=some (kla_obj "<lambda>" qual params body lsc clos pm c' ctv)):ObjOk P w H h f (.ext (lamφ f c' qual params body lsc clos pm)):=
 ⟨⟨ctv,x⟩,⟨_,x⟩,λh1 h2 ⟨ctv,y⟩ k=>⟨ctv,k _ y⟩⟩
theorem HOk.stays{h':Heap}{a:Addr}{o:HO}{T:Addr}(x:HOk P w H h)(e:H a=some o)(ha:a≠T)(hT:∃ps,H T=some (.tbl ps))(k:∀b u,b≠T->h.get? b=some u->h'.get? b=some u)(hH:∀b u,b≠T->H b=some u->H' b=some u):ObjOk P w H' h' a o:=by
 obtain⟨ps,hT⟩:=hT
 refine(x a o e).stay (λb u hb q=>k b u (λz=>?_) q) (λb q=>hH b _ (λz=>?_) q) λb xs q=>hH b _ (λz=>?_) q
 .rcases hb with hb|hb
  .exact ha (hb▸z)
  .rw[z,hT]at hb;cases hb
 .rw[z,hT]at q;cases q
 .rw[z,hT]at q;cases q
variable{o:Option Addr}{lsc:Scope}{clos:List (Str×Addr)}
section
variable{T c:Addr}{body:Expr}
def tLam(T:Addr)(pos:Pos)(qual:Str)(params:Arguments)(body:Expr)(lsc:Scope)(clos:List (Str×Addr))(pm:Value)(o:Option Addr):TE:=λσ H Q=>TbI T pos qual o H/\∀f c' H',H f=none->f∉tL T (some c')->TbI T pos qual (some c') H'->Same (lef (tL T o) H) (lef (tL T (some c')) H')->H' f=some (.ext (lamφ f c' qual params body lsc clos pm))->Q (.ref f) H'
theorem TQ(hcode:X.env.code=.ref c)(hC:CodeHd X.base c T)(hB:X.base.BuiltinsAt X.mg T)(hcl:closureFor lsc X.env=pure clos)(hdef:defaultsOf params X.env=([],[]))(hq:X.env.qual++"<lambda>"=qual):
  PE X (.Lambda params body lsc pos) (tLam T pos qual params body lsc clos ((X.mg "__name__").getD .none) o):=by
 intro pins s σ H Q I ⟨hT,q⟩
 have hgs:s.heap.Ns mainGlobals X.mg:=I.mod.glob.keeps I.bk
 have hBs:s.heap.BuiltinsAt X.mg T:=let⟨bm,ob,b1,b2,b3,b4,b5,b6⟩:=hB;⟨bm,ob,b1,b2,b3,b4,I.bk _ _ b5,b6⟩
 have hCs:CodeHd s.heap c T:=hC.keeps I.bk
 refine PySem.W.kla_eval hdef ?_
 rw[hq]
 cases o with
 |none=>
  have hT:H T=some (.tbl #[]):=hT
  have hTs:s.heap.get? T=some (tabObj #[]):=I.hok T _ hT
  have hgT:mainGlobals≠T:=λz=>by
   obtain⟨o,es,ep,e,d,_⟩:=hgs
   rw[z,hTs]at e;cases e;cases d
  refine PySem.W.kla_makeFunction (mg:=X.mg) hcl I.ok.glob hgs hcode hCs hTs trivial rfl hgT hBs λc' ctv h' tk hx hge hlt hrec htb=>?_
  have htb:h'.get? T=some (tabObj #[rawInt pos.line,rawInt pos.col,.ref c']):=by simpa using htb
  have hcn:H c'=none:=I.hok.fresh hge
  have hfn:H h'.objs.size=none:=I.hok.fresh (le_trans hge (le_of_lt hlt))
  have hTl:T<s.heap.objs.size:=lt_size hTs
  have hcT:c'≠T:=λz=>by rw[z]at hge;exact absurd hTl (not_lt_of_le hge)
  have hfT:h'.objs.size≠T:=λz=>by rw[z]at hlt;exact absurd (lt_trans hlt hTl) (not_lt_of_le hge)
  have hfc:h'.objs.size≠c':=λz=>by rw[z]at hlt;exact lt_irrefl _ hlt
  generalize hob:kla_obj "<lambda>" qual params body lsc clos ((X.mg "__name__").getD .none) c' ctv=ob at*
  have kk:∀b u,b≠T->s.heap.get? b=some u->(h'.push ob).get? b=some u:=λb u hb e=>get?_push_of_some _ (hx b u hb e)
  have hT2:(h'.push ob).get? T=some (tabObj #[rawInt pos.line,rawInt pos.col,.ref c']):=get?_push_of_some _ htb
  have hf2:(h'.push ob).get? h'.objs.size=some ob:=get?_push_size _ (by rw[<-hob];rfl)
  have hr2:(h'.push ob).CodeRec (.ref c') qual:=let⟨c0,o,vs,t,e,ho,r⟩:=hrec;⟨c0,o,vs,t,e,get?_push_of_some _ ho,r⟩
  obtain⟨H',eH⟩:∃H':Hp,H'=upd (upd (upd H c' (.ext (codφ c' qual))) T (.tbl #[rawInt pos.line,rawInt pos.col,.ref c'])) h'.objs.size (.ext (lamφ h'.objs.size c' qual params body lsc clos ((X.mg "__name__").getD .none))):=⟨_,rfl⟩
  have e1:H' h'.objs.size=some (.ext (lamφ h'.objs.size c' qual params body lsc clos ((X.mg "__name__").getD .none))):=by rw[eH,Ah]
  have e2:H' T=some (.tbl #[rawInt pos.line,rawInt pos.col,.ref c']):=by rw[eH,Ag (symm hfT),Ah]
  have e3:H' c'=some (.ext (codφ c' qual)):=by rw[eH,Ag (symm hfc),Ag hcT,Ah]
  have e4:∀b,b≠h'.objs.size->b≠T->b≠c'->H' b=H b:=λb h1 h2 h3=>by rw[eH,Ag h1,Ag h2,Ag h3]
  have hH:∀b u,b≠T->H b=some u->H' b=some u:=λb u hb e=>by rw[e4 b (Ao e hfn) hb (Ao e hcn)];exact e
  have hok':HOk X.prog X.w H' (h'.push ob):=λa o e=>by
   by_cases h1:a=h'.objs.size
   .subst h1
    rw[e1]at e;cases e
    exact OA (ctv:=ctv) (by rw[hob];exact hf2)
   by_cases h2:a=T
   .subst h2
    rw[e2]at e;cases e
    exact hT2
   by_cases h3:a=c'
   .subst h3
    rw[e3]at e;cases e
    exact Ti hr2
   rw[e4 a h1 h2 h3]at e
   exact I.hok.stays e h2 ⟨_,hT⟩ kk hH
  have un:Un X.fs [] H H' s.heap (h'.push ob):=by
   refine⟨λb o e n _ _=>kk b o (λz=>by rw[z,hT]at n;cases n) e,λb o e n _ _=>⟨o.slots,kk b o (λz=>by rw[z,hT]at n;cases n) e⟩,λb o e n _=>?_,λb o e _=>?_,λb xs e=>hH b _ (λz=>by rw[z,hT]at e;cases e) e,λb o u e=>hH b _ (λz=>by rw[z,hT]at e;cases e) e,λb ps e=>?_⟩
   .have hl:=lt_size e
    rw[e4 b (λz=>by rw[z]at hl;exact absurd (lt_trans (Nat.lt_of_le_of_lt hge hlt) hl) (lt_irrefl _)) (λz=>by rw[z,hT]at n;cases n) (λz=>by rw[z]at hl;exact absurd hl (not_lt_of_le hge))]
    exact n
   .by_cases hb:b=T
    .exact⟨_,hb▸hT2⟩
    .exact⟨o,kk b o hb e⟩
   .by_cases hb:b=T
    .subst hb
     rw[hT]at e;cases e
     exact⟨#[rawInt pos.line,rawInt pos.col,.ref c'],by rw[e2];rfl⟩
    .exact⟨#[],by rw[hH b _ hb e];simp⟩
  refine⟨.ref h'.objs.size,H',I.un un hok',rfl,q h'.objs.size c' H' hfn (by simp[tL,hfT,hfc]) ⟨hcT,e2,e3⟩ (λb o e=>?_) e1⟩
  have hb:b≠T:=λz=>by rw[A5 (by rw[z];exact mem_cons_self)]at e;cases e
  rw[An (by simpa[tL]using hb)]at e
  have hbc:b≠c':=Ao e hcn
  rw[An (by simp[tL,hb,hbc])]
  exact hH b o hb e
 |some c'=>
  obtain⟨hcT,hT,hc'⟩:=hT
  have hTs:s.heap.get? T=some (tabObj #[rawInt pos.line,rawInt pos.col,.ref c']):=I.hok T _ hT
  have hrec:s.heap.CodeRec (.ref c') qual:=(I.hok c' _ hc').1
  refine PySem.W.kla_makeFunctionHit (mg:=X.mg) (cv:=.ref c') hcl I.ok.glob hgs hcode hCs hTs (by unfold rawInt;exact trivial) (by simp[codeAmong,rawInt]) hBs λctv h' tk hk hsz=>?_
  have hfn:H h'.objs.size=none:=I.hok.fresh hsz
  change EP X pins σ Q (.ref h'.objs.size) {s with heap:=h'.push (kla_obj "<lambda>" qual params body lsc clos ((X.mg "__name__").getD .none) c' ctv),toks:=tk}
  generalize hob:kla_obj "<lambda>" qual params body lsc clos ((X.mg "__name__").getD .none) c' ctv=ob at*
  have kk:∀b u,s.heap.get? b=some u->(h'.push ob).get? b=some u:=λb u e=>get?_push_of_some _ (hk b u e)
  have hf2:(h'.push ob).get? h'.objs.size=some ob:=get?_push_size _ (by rw[<-hob];rfl)
  have hok':HOk X.prog X.w (upd H h'.objs.size (.ext (lamφ h'.objs.size c' qual params body lsc clos ((X.mg "__name__").getD .none)))) (h'.push ob):=λa o e=>by
   by_cases h1:a=h'.objs.size
   .subst h1
    rw[Ah]at e;cases e
    exact OA (ctv:=ctv) (by rw[hob];exact hf2)
   .rw[Ag h1]at e
    refine(I.hok a o e).stay (λb u _ q=>kk b u q) (λb q=>?_) λb xs q=>?_
    .rw[Ag (Ao q hfn)];exact q
    .rw[Ag (Ao q hfn)];exact q
  have sn:Same H (upd H h'.objs.size (.ext (lamφ h'.objs.size c' qual params body lsc clos ((X.mg "__name__").getD .none)))):=Same.new hfn
  have hfT:h'.objs.size≠T:=λz=>by rw[z,hT]at hfn;cases hfn
  have hfc:h'.objs.size≠c':=λz=>by rw[z,hc']at hfn;cases hfn
  exact⟨.ref h'.objs.size,_,I.un (Un.laid kk hsz hfn) hok',rfl,q h'.objs.size c' _ hfn (by simp[tL,hfT,hfc]) ⟨hcT,sn _ _ hT,sn _ _ hc'⟩ sn.lef Ah⟩
end
theorem TbI.kind{T:Addr}(h:TbI T pos qual o H):∀b∈tL T o,(∃ps,H b=some (.tbl ps))\/∃φ,H b=some (.ext φ):=λb hb=>by
 cases o with
 |none=>
  have hb:b=T:=by simpa[tL]using hb
  exact .inl ⟨_,hb▸h⟩
 |some c'=>
  have hb:b=T\/b=c':=by simpa[tL]using hb
  rcases hb with rfl|rfl
  .exact .inl ⟨_,h.2.1⟩
  .exact .inr ⟨_,h.2.2⟩
theorem tb_ok{T:Addr}:ZOk (tL T o) (TbI T pos qual o)where
 step:=λh s=>by
  cases o with
  |none=>exact s _ _ h
  |some c'=>exact⟨h.1,s _ _ h.2.1,s _ _ h.2.2⟩
 notup:=λh b hb xs=>by
  rcases h.kind b hb with⟨ps,e⟩|⟨φ,e⟩
  .exact L_ e (λ_ z=>by cases z) (λ_ _ z=>by cases z) xs
  .exact L_ e (λ_ z=>by cases z) (λ_ _ z=>by cases z) xs
 free:=λh hp hm=>by
  rcases h.kind _ hm with⟨ps,e⟩|⟨φ,e⟩<;>(rw[e]at hp;cases hp)
theorem Ma:∀l:List Int,noLs (l.map int)=true
 |[]=>rfl
 |_::l=>by rw[map_cons,noLs,Ma l];rfl
theorem PY{T:Addr}(hT:TbI T pos qual o H)(h:DV K H v (.list (ns.map int))):DV K (lef (tL T o) H) v (.list (ns.map int)):=by
 obtain⟨l,ys,rfl,hq,dys⟩:=h.of_lst
 have hn:∀u:HO,H l=some u->(∀ps,u≠.tbl ps)->(∀φ,u≠.ext φ)->l∉tL T o:=λu e n1 n2 hm=>by
  rcases hT.kind l hm with⟨ps,z⟩|⟨φ,z⟩
  .rw[e]at z;exact n1 _ (Option.some.inj z)
  .rw[e]at z;exact n2 _ (Option.some.inj z)
 refine .lst ?_ (DVs.lef (tb_ok.notup hT) dys (Ma _))
 rcases hq with(hq|⟨ob,hq⟩)|hq
 .exact .inl (.inl (by rw[An (hn _ hq (λ_ z=>by cases z) (λ_ z=>by cases z))];exact hq))
 .exact .inl (.inr ⟨ob,by rw[An (hn _ hq (λ_ z=>by cases z) (λ_ z=>by cases z))];exact hq⟩)
 .exact .inr hq
def tTb(K:Frag)(T:Addr)(pos:Pos)(qual:Str)(o:Option Addr)(rs:List (Nat×Addr))(G:Gam)(d:PyData):TE:=λσ H Q=>RZ K (tL T o) (TbI T pos qual o) rs G σ H/\∀o' v H',TbI T pos qual o' H'->Same (lef (tL T o) H) (lef (tL T o') H')->DV K (lef (tL T o') H') v d->Q v H'
def Dk(o:Option Int):PyData:=match o with
 |none=>.none
 |some z=>.int z
theorem excI(m:List (Int×Int)):excC (dI m)=none:=by cases m<;>rfl
variable{cc:Addr}
section
variable{T c:Addr}{p kp2 dp:Pos}{m:List (Int×Int)}{vs:Int->Int}{jy jd:Nat}
theorem NH(hcalm:X.calm=true)(hr:Room 1 X.A)(ha:EV X G a (.list (ns.map int)))(hg:Gl X "max")(hm:X.mg "max"=none)
  (hcode:X.env.code=.ref c)(hC:CodeHd X.base c T)(hB:X.base.BuiltinsAt X.mg T)(hcl:closureFor lsc X.env=pure [(y,cc)])(hdef:defaultsOf params X.env=([],[]))(hq:X.env.qual++"<lambda>"=qual)
  (hN:X.N[jy]?=some y)(hGy:G[jy]?=some (some (.dict (dI m))))(hvis:Vis X.env.scope y)(hky:X.env.kindOf y=some .cell)(hcc:X.env.cells.lookup y=some cc)(hlk:∀z∈ns,m.lookup z=some (vs z))
  (hbind:∀pm c' ctv u,bindArgs (kla_fn "<lambda>" qual params (.Subscript (.Name y p1) (.Name x p2) p3) lsc [(y,cc)] pm (.ref c') ctv) ⟨[u],[]⟩=pure [(x,u)])
  (hk:lsc.kind=.function)(hco:lsc.isCoroutine=false)(hgen:lsc.isGenerator=false)(hnc:∀z∈lsc.names,z.2≠.cell)(hxl:lsc.names.lookup x=some .local)
  (hx:∀L' f c',(envX qual lsc L' f (.ref c') [(y,cc)]).kindOf x=some .local)(hy:∀L' f c',(envX qual lsc L' f (.ref c') [(y,cc)]).kindOf y=some .free)
  (hdx:(x==("__debug__":Str))=false:=by decide)(hdy:(y==("__debug__":Str))=false:=by decide)(hcy:(y==("__classdict__":Str))=false:=by decide)
  (hs:starEach [a] X.env=(false,eval a X.env)::starEach [] X.env:=by rfl)
  (hbk:backTo cpos (starEach [a] X.env)=(false,eval a X.env)::backTo cpos (starEach [] X.env):=by rfl)(hpl:(backTo cpos (starEach [a] X.env)).any (·.1)=false:=by rfl)
  (hall:(backToKw cpos (keywordEach [⟨some "key",.Lambda params (.Subscript (.Name y p1) (.Name x p2) p3) lsc pos,kp⟩,⟨some "default",.Constant .none jd dp,kp2⟩] X.env)).all (·.1.isSome)=true:=by rfl)(hkw:(backToKw cpos (keywordEach [⟨some "key",.Lambda params (.Subscript (.Name y p1) (.Name x p2) p3) lsc pos,kp⟩,⟨some "default",.Constant .none jd dp,kp2⟩] X.env)).any (·.1.isNone)=false:=by rfl)
  (hks:(backToKw cpos (keywordEach [⟨some "key",.Lambda params (.Subscript (.Name y p1) (.Name x p2) p3) lsc pos,kp⟩,⟨some "default",.Constant .none jd dp,kp2⟩] X.env)).filterMap (·.1)=[("key":Str),"default"]:=by rfl):
  PE X (.Call (.Name "max" p) [a] [⟨some "key",.Lambda params (.Subscript (.Name y p1) (.Name x p2) p3) lsc pos,kp⟩,⟨some "default",.Constant .none jd dp,kp2⟩] cpos) (tTb X.K T pos qual o rs G (Dk (FG ns vs))):=by
 intro pins s σ H Q I ⟨r,q⟩
 refine wpAny_Call_Name_kw (Dw I hg hm boot_max (PyProof.Rows.callWith_kw (thn (Aa ha Ac hs cpos pins s σ H _ I ⟨r.sd,λvs H' s' dv=>(⟨s',dv⟩:Same H H'/\DVs X.K H' vs [.list (ns.map int)])⟩) λus s1 ⟨vs1,H1,I1,r1,sm,dv⟩=>?_) hbk hpl hall hkw))
 obtain⟨v1,rfl,d1⟩:=dv.one
 have rz1:=r.step tb_ok sm
 refine thn (Lv (nm:=some "key") (kpos:=kp) (TQ hcode hC hB hcl hdef hq) (Lv (nm:=some "default") (kpos:=kp2) pe_non TU) cpos pins s1 σ H1 (λzs H'=>∃f c',zs=[V.ref f,V.non]/\TbI T pos qual (some c') H'/\Same (lef (tL T o) H1) (lef (tL T (some c')) H')/\H' f=some (.ext (lamφ f c' qual params (.Subscript (.Name y p1) (.Name x p2) p3) lsc [(y,cc)] ((X.mg "__name__").getD .none)))) I1 ⟨rz1.2.1,λf c' H' hfn hfT hT hS e1=>⟨f,c',rfl,hT,hS,e1⟩⟩) λks s2 ⟨zs,H2,I2,r2,f,c',ez,hT2,hS2,e1⟩=>?_
 have e2:=hT2.2.2
 subst ez
 have d2:DV X.K H2 v1 (.list (ns.map int)):=((PY rz1.2.1 d1).mono hS2).mono lef_same
 obtain⟨l,ys,rfl,hq2,dys⟩:=d2.of_lst
 obtain⟨u1,rfl,ru⟩:=vals1 r1
 have ru:u1=Value.ref l:=ru
 subst ru
 obtain⟨its,rv,pl,_⟩:=I2.list hq2
 have hkv:ks=[Value.ref f,Value.none]:=by
  cases r2 with
  |cons a1 t1=>cases t1 with
   |cons a2 t2=>cases t2 with
    |nil=>
     have b1:_=Value.ref f:=a1
     have b2:_=Value.none:=a2
     rw[b1,b2]
 subst hkv
 rw[hks]
 show wpAny _ _ (call (.builtin "max") [.ref l] [("key",.ref f),("default",.none)]) _ _ s2
 have sd2:SD X.K (lef (tL T (some c')) H2) σ G:=rz1.2.2.mono hS2
 obtain⟨vy,ey,dy⟩:=sd2.2 jy _ hGy
 obtain⟨dd,kvs,rfl,hdk,dk⟩:=dy.of_dct (excI m)
 have hdk2:H2 dd=some (.dK kvs):=lef_same _ _ hdk
 obtain⟨_,_,ws,rel,dof⟩:=JT I2.hok (.inl hdk2)
 obtain⟨ctv,hfo⟩:=(I2.hok f _ e1).1
 have hcr:s2.heap.CodeRec (.ref c') qual:=(I2.hok c' _ e2).1
 obtain⟨mm,hnn,hll⟩:=I2.loc
 obtain⟨uy,ry,lk⟩:=hll jy y (.ref dd) hN ey hvis
 have ry:uy=Value.ref dd:=ry
 subst ry
 have hcell:s2.heap.IsCell cc (some (.ref dd)):=by
  rcases lk with⟨k1,_⟩|⟨_,c0,k2,k3⟩
  .rw[hky]at k1;cases k1
  .rw[hcc]at k2;cases k2;exact k3
 refine QH (vs:=vs) (I2.ok.hd hcalm) pl.isList (Gj dys rv) (λj t s' Q' E' hj hg' hq'=>?_) λu h' tk hu kp'=>?_
 .have hz:ns.getD j 0∈ns:=by
   rw[getD_eq_getElem?_getD,getElem?_eq_getElem hj]
   exact getElem_mem hj
  have hv:=hlk _ hz
  obtain⟨w',hw,rw'⟩:=RelO.some_of (v:=V.int (vs (ns.getD j 0))) (o:=valueAt ws (.inl (ns.getD j 0))) (by
   have:=rel.val (.inl (ns.getD j 0))
   rw[dk.valI,hv]at this
   exact this)
  obtain⟨tw,rfl⟩:=rw'
  exact QR (by have:=hr.dp;show X.A.depth<_;omega) (hg' _ _ hfo) (let⟨c0,o,vs0,t0,z1,z2,z3⟩:=hcr;⟨c0,o,vs0,t0,z1,hg' _ _ z2,z3⟩) (I2.nolimit.keeps hg') (let⟨o,z1,z2⟩:=hcell;⟨o,hg' _ _ z1,z2⟩) (let⟨o,es,ep,z1,z2⟩:=dof.mapOf;⟨o,es,ep,hg' _ _ z1,z2⟩) hw (hbind _ _ _) hk hco hgen hnc hxl (λL'=>hx L' f c') (λL'=>hy L' f c') hdx hdy hcy λh' tk kk=>hq' tw h' tk kk
 .have I3:=I2.kept (t':=tk) kp'
  cases hbk:FG ns vs with
  |none=>
   rw[hbk]at hu
   have hu:u=Value.none:=hu
   subst hu
   exact⟨.non,H2,I3,rfl,q (some c') _ H2 hT2 ((sm.lef).trans hS2) (by rw[hbk];exact .non)⟩
  |some z=>
   rw[hbk]at hu
   obtain⟨tz,rfl⟩:=hu
   exact⟨.int z,H2,I3,⟨_,rfl⟩,q (some c') _ H2 hT2 ((sm.lef).trans hS2) (by rw[hbk];exact .int z)⟩
end
section
variable{KK:Type}[DecidableEq KK]{knd:KeyKind prog w KK}
theorem PP{d:Addr}{kvs:List (KK×Value)}{k:KK}{key dflt:Value}{Q:Value->Shared->Prop}(hkey:knd.is k key=true)(hm:s.heap.DictOf knd d kvs)
  (hthere:∀v,valueAt kvs k=some v->Q v {s with toks:=s.toks+1})
  (hnew:valueAt kvs k=none->∀h',h'.DictOf knd d (stored kvs k dflt)->SameBut d s.heap h'->Q dflt {s with heap:=h',toks:=s.toks+1})(hsz:kvs.length<=sizeLine):
  wpAny (model prog w) A (dictSetDefault d key dflt) Q E s:=by
 have hmap:=hm.mapOf
 obtain⟨o,es,ep,ho,hc,hd,hk,hp,hn⟩:=hm
 have hf:∀x,findBy knd.is es x=valueAt kvs x:=by
  obtain⟨o2,es2,ep2,ho2,_,hd2,_,hf⟩:=hmap
  rw[ho]at ho2;cases ho2
  rw[hd]at hd2;cases hd2
  exact hf
 have hes:es.size<=sizeLine:=by have e1:=hp.length;have e2:es.toList.length=es.size:=by simp
                                omega
 unfold dictSetDefault
 try with_reducible refine wpAny_holding ?_
 refine wpAny_bind (knd.pyHash hkey ?_)
 refine wpAny_bind (wpAny_dictFind_of (s:={s with toks:=s.toks+1}) hkey ho hd hk ?_)
 have hidx:(es.findIdx? λe=>knd.is k e.key)=kvs.findIdx? λkv=>decide (kv.1=k):=by
  rw[<-hp.findIdx k];obtain⟨l⟩:=es;simp
 cases hi:es.findIdx? λe=>knd.is k e.key with
 |some i=>
  have hfk:valueAt kvs k=(es[i]?).map (·.val):=by rw[<-hf k,findBy_of_findIdx?,hi]
  refine wpAny_bind (wpAny_dictEntries (s:={s with toks:=s.toks+1}) ho hd ?_)
  cases he:es[i]? with
  |none=>
   exfalso
   have:=Array.findIdx?_eq_some_iff_findIdx_eq.mp hi
   have hlt:i<es.size:=this.1
   rw[Array.getElem?_eq_getElem hlt]at he
   exact nomatch he
  |some e=>
   rw[he]at hfk
   exact wpAny_bind (wpAny_rule (wpAny_pure (hthere e.val hfk)))
 |none=>
  have hfk:valueAt kvs k=none:=by rw[<-hf k,findBy_of_findIdx?,hi]
  have hnot:k∉kvs.map (·.1):=not_mem_of_findIdx_none (hidx▸hi)
  have hany:¬(kvs.any λkv=>decide (kv.1=k))=true:=by
   rw[any_eq_true];rintro⟨kv,hkv,he⟩
   exact hnot (mem_map.mpr ⟨kv,hkv,of_decide_eq_true he⟩)
  refine wpAny_bind (wpAny_rule (wpAny_bind (wpAny_updateDictKeys (hz:=hes) (s:={s with toks:=s.toks+1}) ho hd (wpAny_pure (hnew hfk _ ⟨_,_,ep+1,get?_update_self _ ho (Obj.isFreed_of_dict (Obj.data_mapDictKeys hd _)),
   hc.mapDictKeys _,Obj.data_mapDictKeys hd _,hk.push hkey _,?_,?_⟩ (Heap.SameBut.update ..))))))
  .rw[stored,if_neg hany]
   have:=hp.append hkey (knd.hash k) dflt
   obtain⟨l⟩:=es
   simpa using this
  .rw[stored,if_neg hany,map_append,nodup_append]
   refine⟨hn,by simp,?_⟩
   intro a ha b hb
   simp only[map_cons,map_nil,mem_singleton]at hb
   subst hb
   exact λe=>hnot (e▸ha)
theorem NY{d:Addr}{k:KK}{key:Value}(hkey:knd.is k key=true)(hd:(d==sysModules)=false)(dflt:Value):
  MeetsIn prog w (Builtin.«dict.setdefault» ⟨[.ref d,key,dflt],[]⟩) (λ_ R s=>∃kvs,s.heap.DictOf knd d kvs/\kvs.length<=sizeLine/\
   (∀v,valueAt kvs k=some v->R (.ok (.ret v)) {s with toks:=s.toks+1})/\
   (valueAt kvs k=none->∀h',h'.DictOf knd d (stored kvs k dflt)->SameBut d s.heap h'->R (.ok (.ret dflt)) {s with heap:=h',toks:=s.toks+1})):=
 .of_wp λA R s ⟨kvs,hm,hz,h1,h2⟩=>by
  unfold Builtin.«dict.setdefault»
  refine wpAny_bind ?_
  unfold Builtin.Dict.keyAndDefault
  refine wpAny_bind (wpAny_notOrdered_dict hm.typeIs ?_)
  show wpAny _ _ (pure (d,key,some dflt)) _ _ s
  refine wpAny_pure ?_
  show wpAny _ _ (if(d==sysModules)=true then _ else(dictSetDefault d key dflt>>=_)) _ _ s
  rw[if_neg (by rw[hd];exact Bool.false_ne_true)]
  exact wpAny_bind (PP hkey hm (λv hv=>wpAny_pure ⟨v,rfl,h1 v hv⟩) (λhn h' hm' hs'=>wpAny_pure ⟨dflt,rfl,h2 hn h' hm' hs'⟩) hz)
end
def tDSd(td ty tx:TE):TE:=λσ H Q=>td σ H λx H1=>∃a,x=.ref a/\IsD H1 a/\ty σ H1 λy H2=>tx σ H2 λz H3=>∃kvs k,H3 a=some (.dK kvs)/\y=kV k/\kvs.length<sizeLine/\
 (∀v,valV kvs k=some v->Q v H3)/\(valV kvs k=none->Q z (upd H3 a (.dK (putK kvs k z))))
section
variable{o f:Expr}{td ty tx:TE}
theorem Lb(ho:PE X o td)(he:PE X e ty)(hf:PE X f tx)(m:M2 X o "setdefault" apos e f cpos):PE X (.Call (.Attribute o "setdefault" apos) [e,f] [] cpos) (tDSd td ty tx):=by
 intro pins s σ H Q I h
 refine wpAny_Call_method m.base m.few m.line PySem.F.plainAttrs_dict PySem.F.slot_dict_setdefault PySem.F.type_dict_setdefault (thn (ho pins s σ H _ I h) λu s1 ⟨x,H1,I1,rx,a,ex,d,q1⟩=>?_)
 subst ex
 obtain rfl:u=Value.ref a:=rx
 obtain⟨t1,t2,_⟩:=K7 I1 d
 refine⟨t1,t2,?_⟩
 rw[m.trees]
 refine Calls.callWith_builtin rfl (Calls.evalArgs_plain (Calls.spliced_cons (thn (he pins s1 σ H1 _ I1 q1) λiv s2 ⟨y,H2,I2,ry,q2⟩=>
  Calls.spliced_cons (thn (hf pins s2 σ H2 _ I2 q2) λfv s3 ⟨z,H3,I3,rz,kvs,k,ea,ey,hl,q3,q4⟩=>Calls.spliced_nil ?_))))
 subst ey
 obtain⟨zz,hd,vs,rel,dd⟩:=Pe I3.hok ea
 have hz:vs.length<=sizeLine:=by rw[<-rel.length];exact zz
 refine call_meetsIn PySem.F.slot_dict_setdefault dd.typeIs PySem.F.entry_dict_setdefault (PySem.F.args_dict_setdefault_3 _ _ _) (NY (knd:=AC X.prog X.w) (Ji ry) hd fv) ⟨vs,dd,hz,λv hv=>?_,λhn h' dd' hs=>?_⟩
 .have r1:=rel.val k
  rw[hv]at r1
  cases e0:valV kvs k with
  |none=>rw[e0]at r1;exact r1.elim
  |some v0=>
   rw[e0]at r1
   exact⟨v0,H3,I3.tok _,r1,q3 v0 e0⟩
 .have r1:=rel.val k
  rw[hn]at r1
  cases e0:valV kvs k with
  |some v0=>rw[e0]at r1;exact r1.elim
  |none=>
   have hl2:(putK kvs k z).length<=sizeLine:=by have:=DB kvs k z;omega
   have heo:∃q,h'.get? a=some q:=let⟨q,_,_,hq,_⟩:=dd';⟨q,hq⟩
   exact⟨z,_,IU I3 (by rw[ea];exact True.intro) hs heo (Pm hl2 hd (rel.put k rz) dd'),rz,q4 e0⟩
end
structure CoT where
 T:Addr
 pos:Pos
 qual:Str
abbrev CoT.L(t:CoT)(o:Option Addr):List Addr:=tL t.T o
abbrev CoT.I(t:CoT)(o:Option Addr):Hp->Prop:=TbI t.T t.pos t.qual o
def spTb(K:Frag)(t:CoT)(F:List PyData->PyData->Prop):Sp:=λvs H Q _=>∃(o:Option Addr) (ds:List PyData) (d:PyData),t.I o H/\DVs K (lef (t.L o) H) vs ds/\F ds d/\
 ∀o' v H',t.I o' H'->Same (lef (t.L o) H) (lef (t.L o') H')->DV K (lef (t.L o') H') v d->Q v H'
def TbM(P:Program)(w:World)(K:Frag)(mg:Str->Option Value)(base:Heap)(k:Nat)(t:CoT)(C:Addr)(m:Str)(F:List PyData->PyData->Prop):Prop:=
 ∃f fd ps,FnOk P w K mg base CX0 k f fd ps (spTb K t F)/\Meth K C m f/\Binds K fd ps []
abbrev RtT(K:Frag)(t:CoT)(d:PyData):List Addr->V->Hp->Prop:=λL' v H'=>∃o',L'=t.L o'/\t.I o' H'/\DV K (lef L' H') v d
theorem tbOk{f:Addr}{k:Nat}{t:CoT}{F:List PyData->PyData->Prop}(F0:Fun K x qual st f fd)(S:FnScope N ps (Ad st))(len:∀ds d,F ds d->ds.length=ps.length)
  (hbody:∀(cdv:Value) (A:Around) (outer:List Env) (s:Shared) (H:Hp) (E:XK) (o:Option Addr) (ds:List PyData) (d:PyData),fd.code=cdv->Room k (A.deeper (envOfC qual (Ad st) s.heap.objs.size f cdv))->F ds d->
   PSs (cxOf CX0 P w K mg base N qual (Ad st) f cdv A outer s H E).nox (AB st) (zV K (t.L o) (t.I o) [] (AT N ds) (λ_ _ _=>False) (RtT K t d))):FnOk P w K mg base CX0 (k+1) f fd ps (spTb K t F):=by
 obtain⟨oc,od,kV,doc,pm,an,cdv,ct,osl,rfl,lk,hcd⟩:=F0.ex
 refine RX lk hcd S (λvs H Q E ⟨o,ds,d,_,h2,h3,_⟩=>h2.length.trans (len ds d h3)) λA outer s H vs Q E hr ⟨o,ds,d,h1,h2,h3,q⟩=>?_
 refine⟨_,(hbody cdv A outer s H E o ds d rfl hr h3).nox,⟨(λ_ h=>by cases h),h1,SD.start h2⟩,λ_ _ _ f=>f.elim,λL' v H' ⟨o',e,i',dv⟩ s'=>by subst e;exact q o' v H' i' s' dv⟩
section
variable{t:CoT}{k:Nat}
abbrev tCo(K:Frag)(t:CoT)(o:Option Addr)(rs:List (Nat×Addr))(G:Gam)(d:PyData):TE:=tTb K t.T t.pos t.qual o rs G d
theorem OX(h:PE X e (tCo X.K t o rs G d)):PSs X (.Return (some e) pos::sts) (zV X.K (t.L o) (t.I o) rs G Nx (RtT X.K t d)):=
 (As (Ek h) (A2 (sts:=sts))).imp λD σ H ⟨r,_,q⟩=>⟨r,λo' v H' i' s' dv=>q _ v H' ⟨o',rfl,i',dv⟩ s'⟩
end
section
variable{L:List Addr}{T:α}
end
abbrev Led:=List (Int×List (Int×Int))
def inn(m:Led)(p:Int):List (Int×Int):=(m.lookup p).getD []
def ledD(m:Led):List (PyData×PyData):=m.map λq=>(.int q.1,.dict (dI q.2))
abbrev ctD(C:Addr)(m:Led):PyData:=objD C [(.str "led",.dict (ledD m))]
theorem R5(m:Led):excC (ledD m)=none:=by cases m<;>rfl
theorem DVk.valLed(z:Int):∀{kvs:List (Key×V)}{m:Led},DVk K H kvs (ledD m)->(m.lookup z=none->valV kvs (.inl z)=none)/\∀l,m.lookup z=some l->∃v,valV kvs (.inl z)=some v/\DV K H v (.dict (dI l))
 |_,[],h=>by
  cases h
  exact⟨λ_=>rfl,λl e=>by cases e⟩
 |_,q::m,h=>by
  unfold ledD at h
  rw[List.map_cons]at h
  generalize hk:PyData.int q.1=kd at h
  cases h with
  |cons dv t=>
   rename_i k x xs
   have ek:k=.inl q.1:=by
    cases k with
    |inl i=>injection hk with e;rw[e]
    |inr s=>cases hk
   subst ek
   have ih:=DVk.valLed z (m:=m) t
   by_cases hz:q.1=z
   .subst hz
    refine⟨λe=>?_,λl e=>?_⟩
    .rw[List.lookup_cons]at e
     simp at e
    .rw[List.lookup_cons]at e
     simp at e
     subst e
     exact⟨x,by simp[valV],dv⟩
   .have e1:List.lookup z (q::m)=m.lookup z:=by
     rw[List.lookup_cons]
     simp[show(z==q.1)=false from by simpa using Ne.symm hz]
    have e2:valV ((.inl q.1,x)::xs) (.inl z)=valV xs (.inl z):=by
     simp[valV,hz]
    rw[e1,e2]
    exact ih
section
variable{L:List Addr}{I:Hp->Prop}{m:Led}{dpos:Pos}
theorem Ia(ok:ZOk L I)(hu:X.A.units+1<cLine)(cl:Cls X.K C)(na:NoAttr X.K C "led")(hv:PE X (.Name x pos2) (tVar i))(hG:G[i]?=some (some (ctD C m)))(hi:EV X G a (.int z))
  (m2:M2 X (.Attribute (.Name x pos2) "led" p5) "get" apos a (.Dict [] [] dpos) pos)(hb:attributeBase (.Name x pos2) "led" X.env (eval (.Name x pos2) X.env)=eval (.Name x pos2) X.env:=by rfl):
  ZE X L I rs G (.Call (.Attribute (.Attribute (.Name x pos2) "led" p5) "get" apos) [a,.Dict [] [] dpos] [] pos) (.dict (dI (inn m z))) I:=
 (DL hu (GJ hv hb) hi GP m2).imp λσ H Q ⟨r,q⟩=>by
  obtain⟨v,ev,dv⟩:=r.2.2.2 i _ hG
  obtain⟨ad,dx,fs,rfl,ho,hf,_⟩:=dv.of_objN
  obtain⟨u,eu,du⟩:=hf.get mem_cons_self
  obtain⟨D,kvs,rfl,hD,dk⟩:=du.of_dct (R5 m)
  refine⟨.ref ad,ev,ad,C,dx,fs,.ref D,rfl,lef_same _ _ ho,cl,na,eu,D,rfl,.inl ⟨kvs,.inl (lef_same _ _ hD)⟩,r.sd,λw H1 s1 d1 p hp=>?_⟩
  have e1:=d1.of_int
  subst e1
  have sn:Same H1 (upd H1 p (.dK [])):=Same.new hp
  have r1:=r.step ok s1
  have hpL:p∉L:=ok.free r1.2.1 hp
  have r2:=r1.step ok sn
  have dk2:=(dk.mono s1.lef).mono sn.lef
  obtain⟨h1,h2⟩:=dk2.valLed z
  refine⟨_,DGet.k (k:=.inl z) (sn _ _ (s1 _ _ (lef_same _ _ hD))),?_⟩
  cases e:m.lookup z with
  |none=>
   rw[h1 e]
   refine q _ _ r2.2.1 (s1.lef.trans sn.lef) ?_
   unfold inn
   rw[e]
   exact .dct (by rw[An hpL];exact Ah) .nil
  |some l=>
   obtain⟨vl,ev,dvl⟩:=h2 l e
   rw[ev]
   refine q _ _ r2.2.1 (s1.lef.trans sn.lef) ?_
   unfold inn
   rw[e]
   exact dvl
end
structure CtR where
 a:Addr
 dx:Addr
 D:Addr
 ins:List Addr
abbrev CtR.L(R:CtR):List Addr:=R.a::R.dx::R.D::R.ins
def intK(l:List (Int×Int)):List (Key×V):=l.map λq=>((.inl q.1:Key),V.int q.2)
inductive InK(H:Hp):List (Key×V)->Led->List Addr->Prop where
 |nil:InK H [] [] []
 |cons {p:Int}{l:List (Int×Int)}{kvs:List (Key×V)}{m:Led}{b:Addr}{ins:List Addr}:H b=some (.dK (intK l))->InK H kvs m ins->InK H ((.inl p,.ref b)::kvs) ((p,l)::m) (b::ins)
def CtZ(C:Addr)(R:CtR)(m:Led)(H:Hp):Prop:=H R.a=some (.ins C R.dx [("led",.ref R.D)])/\H R.dx=some (.own R.a)/\R.L.Nodup/\∃kvs,H R.D=some (.dK kvs)/\InK H kvs m R.ins
theorem InK.mono:∀{kvs:List (Key×V)}{m:Led}{ins:List Addr},InK H kvs m ins->(∀b∈ins,∀o,H b=some o->H' b=some o)->InK H' kvs m ins
 |_,_,_,.nil,_=>.nil
 |_,_,_,.cons h t,k=>.cons (k _ List.mem_cons_self _ h) (t.mono λb hb=>k b (List.mem_cons_of_mem _ hb))
theorem InK.isD:∀{kvs:List (Key×V)}{m:Led}{ins:List Addr},InK H kvs m ins->∀b∈ins,∃l,H b=some (.dK l)
 |_,_,_,.nil,b,hb=>by cases hb
 |_,_,_,.cons h t,b,hb=>by
  rcases List.mem_cons.mp hb with rfl|hb
  .exact⟨_,h⟩
  .exact t.isD b hb
theorem InK.len:∀{kvs:List (Key×V)}{m:Led}{ins:List Addr},InK H kvs m ins->kvs.length=m.length
 |_,_,_,.nil=>rfl
 |_,_,_,.cons _ t=>by rw[List.length_cons,List.length_cons,t.len]
theorem InK.val(z:Int):∀{kvs:List (Key×V)}{m:Led}{ins:List Addr},InK H kvs m ins->(m.lookup z=none->valV kvs (.inl z)=none)/\∀l,m.lookup z=some l->∃b,b∈ins/\valV kvs (.inl z)=some (.ref b)/\H b=some (.dK (intK l))
 |_,_,_,.nil=>⟨λ_=>rfl,λl e=>by cases e⟩
 |_,_,_,.cons (p:=p) (l:=l0) (m:=m) (kvs:=kvs) (b:=b) h t=>by
  have ih:=t.val z
  by_cases hz:p=z
  .subst hz
   refine⟨λe=>?_,λl e=>?_⟩
   .rw[List.lookup_cons]at e;simp at e
   .rw[List.lookup_cons]at e;simp at e;subst e
    exact⟨b,List.mem_cons_self,DE rfl,h⟩
  .have e1:List.lookup z ((p,l0)::m)=m.lookup z:=by
    rw[List.lookup_cons]
    simp[show(z==p)=false from by simpa using Ne.symm hz]
   have e2:valV ((.inl p,V.ref b)::kvs) (.inl z:Key)=valV kvs (.inl z):=Di λe=>hz (Sum.inl.inj e)
   rw[e1,e2]
   exact⟨ih.1,λl e=>let⟨b,h1,h2,h3⟩:=ih.2 l e;⟨b,List.mem_cons_of_mem _ h1,h2,h3⟩⟩
theorem CtZ.kind{R:CtR}{m:Led}(h:CtZ C R m H):∀b∈R.L,(∃fs,H b=some (.ins C R.dx fs))\/(∃x,H b=some (.own x))\/∃kvs,H b=some (.dK kvs):=λb hb=>by
 obtain⟨h1,h2,_,kvs,h3,h4⟩:=h
 rcases List.mem_cons.mp hb with rfl|hb
 .exact .inl ⟨_,h1⟩
 rcases List.mem_cons.mp hb with rfl|hb
 .exact .inr (.inl ⟨_,h2⟩)
 rcases List.mem_cons.mp hb with rfl|hb
 .exact .inr (.inr ⟨_,h3⟩)
 .exact .inr (.inr (h4.isD b hb))
theorem CtZ.move{R:CtR}{m:Led}(h:CtZ C R m H)(k:∀b∈R.L,∀o,H b=some o->H' b=some o):CtZ C R m H':=by
 obtain⟨h1,h2,h5,kvs,h3,h4⟩:=h
 exact⟨k _ List.mem_cons_self _ h1,k _ (List.mem_cons_of_mem _ List.mem_cons_self) _ h2,h5,kvs,k _ (List.mem_cons_of_mem _ (List.mem_cons_of_mem _ List.mem_cons_self)) _ h3,h4.mono λb hb=>k b (List.mem_cons_of_mem _ (List.mem_cons_of_mem _ (List.mem_cons_of_mem _ hb)))⟩
theorem ct_ok{R:CtR}{m:Led}:ZOk R.L (CtZ C R m)where
 step:=λh s=>h.move λb _ o e=>s _ _ e
 notup:=λh b hb xs=>by
  rcases h.kind b hb with⟨_,e⟩|⟨_,e⟩|⟨_,e⟩<;>exact L_ e (λ_ z=>by cases z) (λ_ _ z=>by cases z) xs
 free:=λh hp hm=>by
  rcases h.kind _ hm with⟨_,e⟩|⟨_,e⟩|⟨_,e⟩<;>(rw[e]at hp;cases hp)
theorem UA{R:CtR}{m:Led}{M:List Addr}(h:CtZ C R m H)(dj:Dj M R.L):CtZ C R m (lef M H):=h.move λb hb o e=>by
 rw[An λz=>dj b z hb]
 exact e
theorem InK.dvk:∀{kvs:List (Key×V)}{m:Led}{ins:List Addr},InK H kvs m ins->DVk K H kvs (ledD m)
 |_,_,_,.nil=>.nil
 |_,_,_,.cons (l:=l) h t=>.cons (.dct h (DVk.intsK l)) t.dvk
theorem CtZ.dv{R:CtR}{m:Led}(h:CtZ C R m H):DV K H (.ref R.a) (ctD C m):=by
 obtain⟨h1,h2,_,kvs,h3,h4⟩:=h
 refine .obj h1 (λf hf=>?_) (.cons (show List.lookup ("led":Str) [("led",V.ref R.D)]=some (.ref R.D) by simp) (.dct h3 h4.dvk) .nil)
 have hn:f≠"led":=λe=>hf (by rw[e];decide)
 rw[List.lookup_cons,show(f==("led":Str))=false from by simpa using hn]
 rfl
def putL(m:Led)(p:Int)(l:List (Int×Int)):Led:=if(m.lookup p).isSome=true then m.map (λq=>if q.1=p then(q.1,l)else q)else m++[(p,l)]
def B5(m:Led)(p t:Int):Led:=putL m p (putI (inn m p) t (getI (inn m p) t+1))
theorem Ke(l:List (Int×Int))(t n:Int):putK (intK l) (.inl t) (.int n)=intK (putI l t n):=by
 have hany:((intK l).any λkv=>decide (kv.1=(.inl t:Key)))=hasI l t:=by
  unfold intK hasI
  rw[any_map]
  refine congrArg (List.any l) (funext λq=>?_)
  show decide ((Sum.inl q.1:Key)=.inl t)=decide (q.1=t)
  by_cases h:q.1=t
  .rw[decide_eq_true h,decide_eq_true (by rw[h])]
  .rw[decide_eq_false h,decide_eq_false λe=>h (Sum.inl.inj e)]
 unfold putK putI
 rw[hany]
 by_cases h:hasI l t=true
 .rw[if_pos h,if_pos h]
  unfold intK
  rw[map_map,map_map]
  refine map_congr_left λq _=>?_
  show(if(Sum.inl q.1:Key)=.inl t then _ else _)=((.inl (if q.1=t then(q.1,n)else q).1:Key),V.int (if q.1=t then(q.1,n)else q).2)
  by_cases hq:q.1=t
  .rw[if_pos (by rw[hq]),if_pos hq]
  .rw[if_neg λe=>hq (Sum.inl.inj e),if_neg hq]
 .rw[if_neg h,if_neg h]
  unfold intK
  rw[map_append]
  rfl
structure Ge(it:Zt):Prop where
 ok:ZOk it.1 it.2
 ap:∀{H:Hp}{M:List Addr},it.2 H->Dj M it.1->(∀b∈M,∀xs,¬Rd H b (.tup xs))->it.2 (lef M H)
abbrev Ges(its:List Zt):Prop:=∀it∈its,Ge it
theorem Ges.ok(g:Ges its):ZOk (LZ its) (TZ its):=UK λit h=>(g it h).ok
theorem Fp{A:List Zt}(g:Ges (A++it::B))(t:TZ (A++it::B) H)(s:Same (lef it.1 H) (lef it'.1 H'))(i':it'.2 H'):TZ (A++it'::B) H'/\Same (lef (LZ (A++it::B)) H) (lef (LZ (A++it'::B)) H'):=by
 obtain⟨dj,i,p,al⟩:=TZ.mid.mp t
 have gi:=g it (mem_mid.mpr (.inl rfl))
 have key:∀z∈A++B,z.2 (lef it'.1 H'):=λz hz=>by
  have gz:=g z (mem_mid.mpr (.inr hz))
  exact gz.ok.step (gz.ap (al z hz) (dj z hz) λb hb xs=>gi.ok.notup i b hb xs) s
 refine⟨TZ.mid.mpr ⟨λz hz b hb hbz=>(g z (mem_mid.mpr (.inr hz))).ok.free (key z hz) (A5 hb) hbz,i',p,λz hz=>(g z (mem_mid.mpr (.inr hz))).ok.step (key z hz) lef_same⟩,λb o e=>?_⟩
 have nb:b∉LZ (A++it::B):=λz=>by rw[A5 z]at e;cases e
 rw[An nb]at e
 have e2:=s b o (by rw[An λz=>nb (mem_LZ.mpr ⟨it,mem_mid.mpr (.inl rfl),z⟩)];exact e)
 have n2:b∉it'.1:=λz=>by rw[A5 z]at e2;cases e2
 rw[An n2]at e2
 rw[An]
 .exact e2
 .intro z
  obtain⟨y,hy,hb⟩:=mem_LZ.mp z
  rcases mem_mid.mp hy with rfl|hy
  .exact n2 hb
  .exact nb (mem_LZ.mpr ⟨y,mem_mid.mpr (.inr hy),hb⟩)
theorem QC{A:List Zt}(g:Ges (A++B))(t:TZ (A++B) H)(s:Same H (lef it'.1 H'))(i':it'.2 H'):TZ (A++it'::B) H'/\Same (lef (LZ (A++B)) H) (lef (LZ (A++it'::B)) H'):=by
 have key:∀z∈A++B,z.2 (lef it'.1 H'):=λz hz=>(g z hz).ok.step (t.2 z hz) s
 refine⟨TZ.mid.mpr ⟨λz hz b hb hbz=>(g z hz).ok.free (key z hz) (A5 hb) hbz,i',t.1,λz hz=>(g z hz).ok.step (key z hz) lef_same⟩,λb o e=>?_⟩
 have nb:b∉LZ (A++B):=λz=>by rw[A5 z]at e;cases e
 rw[An nb]at e
 have e2:=s b o e
 have n2:b∉it'.1:=λz=>by rw[A5 z]at e2;cases e2
 rw[An n2]at e2
 rw[An]
 .exact e2
 .intro z
  obtain⟨y,hy,hb⟩:=mem_LZ.mp z
  rcases mem_mid.mp hy with rfl|hy
  .exact n2 hb
  .exact nb (mem_LZ.mpr ⟨y,hy,hb⟩)
theorem T_{it2:Zt}{A:List Zt}(e:its=A++it::B)(t:TZ its H)(g:Ges its)(h2:it2∈A++B):it2.2 (lef it.1 H):=by
 subst e
 obtain⟨dj,i,p,al⟩:=TZ.mid.mp t
 exact(g it2 (mem_mid.mpr (.inr h2))).ap (al it2 h2) (dj it2 h2) λb hb xs=>(g it (mem_mid.mpr (.inl rfl))).ok.notup i b hb xs
theorem S_{R:CtR}{m:Led}:Ge (R.L,CtZ C R m):=⟨ct_ok,λh dj _=>UA h dj⟩
theorem PQ{t:CoT}:Ge (t.L o,t.I o):=⟨tb_ok,λ{H M} h dj _=>by
 have k:∀b∈t.L o,∀u,H b=some u->lef M H b=some u:=λb hb u e=>by rw[An λz=>dj b z hb];exact e
 cases o with
 |none=>exact k t.T mem_cons_self _ h
 |some c'=>exact⟨h.1,k _ mem_cons_self _ h.2.1,k _ (mem_cons_of_mem _ mem_cons_self) _ h.2.2⟩⟩
def Pz(d:Addr)(nm:List ((Int×Int)×Int))(H:Hp):Prop:=H d=some (.dT (ppK nm))
variable{nm:List ((Int×Int)×Int)}
theorem To{d:Addr}:Ge ([d],Pz d nm)where
 ok:=⟨λh s=>s _ _ h,λh b hb xs=>by rw[mem_singleton.mp hb];exact L_ h (λ_ z=>by cases z) (λ_ _ z=>by cases z) xs,λh hp hm=>by rw[mem_singleton.mp hm,show _=_ from h]at hp;cases hp⟩
 ap:=λh dj nt=>by
  show lef _ _ d=_
  rw[An λz=>dj d z mem_cons_self]
  exact h
variable{Go:β->Gam}
theorem Ps(W:Nat->β->Prop)(y0:β)(ok:∀y,ZOk (Lo y) (Io y))(hp:PassesOwn (model X.prog X.w) X.A X.env X.xe)(hcalm:X.calm=true)(hj:∀q∈rs,q.1≠j)(hg:PG X tg (BI j))(v:Sees X.K (Lo y0) (Io y0) rs (Go y0) Gv)(ha:EVF X Gv a ds)(hnl:noLs ds=true)(h0:W 0 y0)
  (hs:∀k d y,ds[k]?=some d->W k y->PSs X body (zV X.K (Lo y) (Io y) rs ((Go y).set j (some d)) (λL' σ' H'=>∃y',W (k+1) y'/\L'=Lo y'/\RZ X.K (Lo y') (Io y') rs (Go y') σ' H') Rt))
  (hd:∀y,W ds.length y->PSs X sts (zV X.K (Lo y) (Io y) rs (Go y) Nx Rt))
  (hfs:∀y,foldedSetIterable a X.env y=pure y:=by intro _;rfl):
  PSs X (.For tg a body [] pos::sts) (zV X.K (Lo y0) (Io y0) rs (Go y0) Nx Rt):=by
 have hbody:PSs X body (λD σ H=>∃(k:Nat) (d:PyData) (y:β),ds[k]?=some d/\W k y/\zV X.K (Lo y) (Io y) rs ((Go y).set j (some d)) (λL' σ' H'=>∃y',W (k+1) y'/\L'=Lo y'/\RZ X.K (Lo y') (Io y') rs (Go y') σ' H') Rt D σ H):=λpins s σ H D I ⟨k,d,y,hk,hW,q⟩=>hs k d y hk hW pins s σ H D I q
 have h2:PSs X sts (λD σ H=>∃(y:β),W ds.length y/\zV X.K (Lo y) (Io y) rs (Go y) Nx Rt D σ H):=λpins s σ H D I ⟨y,hW,q⟩=>hd y hW pins s σ H D I q
 refine(As (Ep hp hcalm (Gg ha) hg hbody hfs) h2).imp λD σ H ⟨r,q1,q2⟩=>⟨v σ H r,λp us H1 hp s1 hl dv=>?_⟩
 have r1:=r.step (ok _) s1
 have hpL:p∉Lo y0:=(ok _).free r.2.1 hp
 have hlL:SqL X.K (lef (Lo y0) H1) p us:=SqL.of (by rw[An hpL];exact hl)
 have dL:DVs X.K (lef (Lo y0) H1) us ds:=DVs.lef ((ok _).notup r1.2.1) dv hnl
 have hul:us.length=ds.length:=dL.length
 refine⟨p,rfl,⟨us,SqL.of hl⟩,?_⟩
 refine J6 (K:=X.K) (a:=p) (xs:=us) (g:=BI j) (tb:=λD σ H=>∃(k:Nat) (d:PyData) (y:β),ds[k]?=some d/\W k y/\zV X.K (Lo y) (Io y) rs ((Go y).set j (some d)) (λL' σ' H'=>∃y',W (k+1) y'/\L'=Lo y'/\RZ X.K (Lo y') (Io y') rs (Go y') σ' H') Rt D σ H)
  (λk σ2 H2=>∃y,W k y/\RZ X.K (Lo y) (Io y) rs (Go y) σ2 H2/\Same (lef (Lo y0) H1) (lef (Lo y) H2)) ⟨y0,h0,r1,Same.refl _⟩ (λi σ2 H2 _ ⟨_,_,_,sm⟩=>lef_same.seq (sm.seq hlL)) (λk z σ2 H2 hz ⟨y,hW,r2,sm⟩=>?_) (λσ2 H2 ⟨y,hW,r2,sm⟩=>?_)
 .obtain⟨d0,ed,dz⟩:=dL.get' hz
  refine⟨k,d0,y,ed,hW,⟨λq hq=>?_,r2.2.1,r2.2.2.set (dz.mono sm)⟩,λL' σ3 H3 ⟨y',hW3,el,r3⟩ s3=>⟨y',hW3,r3,sm.trans (el▸s3)⟩,λL' v H3 n3 s3=>q2 L' v H3 n3 ((s1.lef.trans sm).trans s3)⟩
  rw[getElem?_set_ne (hj q hq).symm]
  exact r2.1 q hq
 .rw[hul]at hW
  exact⟨y,hW,r2,λL' σ' H' n s=>q1 L' σ' H' n ((s1.lef.trans sm).trans s),λL' v H' n s=>q2 L' v H' n ((s1.lef.trans sm).trans s)⟩
theorem Nq(W:Nat->β->Prop)(y0:β)(ok:∀y,ZOk (Lo y) (Io y))(hp:PassesOwn (model X.prog X.w) X.A X.env X.xe)(hcalm:X.calm=true)(hj:∀q∈rs,q.1≠j)(hg:PG X tg (BI j))(v:Sees X.K (Lo y0) (Io y0) rs (Go y0) Gv)(hc:EV X Gv c (.int n))(hn:n<1000)(hgr:Gl X "range")(hmr:X.mg "range"=none)(h0:W 0 y0)
  (hs:∀k y,k<n->W k y->PSs X body (zV X.K (Lo y) (Io y) rs ((Go y).set j (some (.int (k:Int)))) (λL' σ' H'=>∃y',W (k+1) y'/\L'=Lo y'/\RZ X.K (Lo y') (Io y') rs (Go y') σ' H') Rt))
  (hd:∀y,W n y->PSs X sts (zV X.K (Lo y) (Io y) rs (Go y) Nx Rt))
  (hsr:starEach [c] X.env=[(false,eval c X.env)]:=by rfl)(hfs:∀y,foldedSetIterable (.Call (.Name "range" p2) [c] [] p3) X.env y=pure y:=by intro _;rfl):
  PSs X (.For tg (.Call (.Name "range" p2) [c] [] p3) body [] pos::sts) (zV X.K (Lo y0) (Io y0) rs (Go y0) Nx Rt):=by
 have hbody:PSs X body (λD σ H=>∃(k:Nat) (y:β),k<n/\W k y/\zV X.K (Lo y) (Io y) rs ((Go y).set j (some (.int (k:Int)))) (λL' σ' H'=>∃y',W (k+1) y'/\L'=Lo y'/\RZ X.K (Lo y') (Io y') rs (Go y') σ' H') Rt D σ H):=λpins s σ H D I ⟨k,y,hk,hW,q⟩=>hs k y hk hW pins s σ H D I q
 have h2:PSs X sts (λD σ H=>∃(y:β),W n y/\zV X.K (Lo y) (Io y) rs (Go y) Nx Rt D σ H):=λpins s σ H D I ⟨y,hW,q⟩=>hd y hW pins s σ H D I q
 refine(As (Ep hp hcalm (HW hgr hmr (Aa hc Ac hsr) hsr) hg hbody hfs) h2).imp λD σ H ⟨r,q1,q2⟩=>⟨v σ H r,λvs H1 s1 d1=>?_⟩
 obtain⟨v1,rfl,dv1⟩:=d1.one
 refine⟨n,by rw[dv1.of_int],by omega,by omega,?_⟩
 rw[toNat_natCast]
 have r1:=r.step (ok _) s1
 refine HN (lo:=0) (n:=n) (g:=BI j) (tb:=λD σ H=>∃(k:Nat) (y:β),k<n/\W k y/\zV X.K (Lo y) (Io y) rs ((Go y).set j (some (.int (k:Int)))) (λL' σ' H'=>∃y',W (k+1) y'/\L'=Lo y'/\RZ X.K (Lo y') (Io y') rs (Go y') σ' H') Rt D σ H)
  (λk σ2 H2=>∃y,W k y/\RZ X.K (Lo y) (Io y) rs (Go y) σ2 H2/\Same (lef (Lo y0) H1) (lef (Lo y) H2)) ⟨y0,h0,r1,Same.refl _⟩ (λk σ2 H2 hk ⟨y,hW,r2,sm⟩=>?_) (λσ2 H2 ⟨y,hW,r2,sm⟩=>?_)
 .refine⟨k,y,hk,hW,⟨λz hz=>?_,r2.2.1,?_⟩,λL' σ3 H3 ⟨y',hW3,el,r3⟩ s3=>⟨y',hW3,r3,sm.trans (el▸s3)⟩,λL' v H3 n3 s3=>q2 L' v H3 n3 ((s1.lef.trans sm).trans s3)⟩
  .rw[getElem?_set_ne (hj z hz).symm]
   exact r2.1 z hz
  .rw[zero_add];exact r2.2.2.set (.int _)
 .exact⟨y,hW,r2,λL' σ' H3 n3 s3=>q1 L' σ' H3 n3 ((s1.lef.trans sm).trans s3),λL' v H3 n3 s3=>q2 L' v H3 n3 ((s1.lef.trans sm).trans s3)⟩
section
variable{L:List Addr}{I:Hp->Prop}{A:List Stmt}
def zTE(K:Frag)(L:List Addr)(I:Hp->Prop)(rs:List (Nat×Addr))(G:Gam)(k:Bool)(Lo:β->List Addr)(Io:β->Hp->Prop):TT:=λσ H Q=>RZ K L I rs G σ H/\∀y H',Io y H'->Same (lef L H) (lef (Lo y) H')->Q k H'
theorem GX{L':List Addr}(r:RZ K L I rs G σ H)(i':I' H')(s:Same (lef L H) (lef L' H')):RZ K L' I' rs G σ H':=⟨r.1,i',r.2.2.mono s⟩
theorem Re(h:PT X c (zTE X.K L I rs G false Lo Io))(h2:∀y,PSs X sts (zV X.K (Lo y) (Io y) rs G Nx Rt)):PSs X (.If c A [] pos::sts) (zV X.K L I rs G Nx Rt):=by
 have h2':PSs X sts (λD σ H=>∃y,zV X.K (Lo y) (Io y) rs G Nx Rt D σ H):=λpins s σ H D I ⟨y,q⟩=>h2 y pins s σ H D I q
 exact(As (BG h (A2 (sts:=A)) pss_nil) h2').imp λD σ H ⟨r,q1,q2⟩=>⟨r,λy H' i' s'=>iteF ⟨y,GX r i' s',λL2 σ2 H2 n s2=>q1 L2 σ2 H2 n (s'.trans s2),λL2 v H2 n s2=>q2 L2 v H2 n (s'.trans s2)⟩⟩
end
section
variable{P:β->Prop}
def Oe(P:β->Prop)(Lo:β->List Addr)(Io:β->Hp->Prop)(ad:β->Addr):TE:=λσ H Q=>∀w H',P w->Io w H'->Same H (lef (Lo w) H')->Q (.ref (ad w)) H'
theorem DW{A:List Zt}(g:Ges A)(g2:Ges B):Ges (A++B):=λz hz=>(mem_append.mp hz).elim (g z) (g2 z)
theorem Bq(g:Ge it):Ges [it]:=λz hz=>by rw[mem_singleton.mp hz];exact g
theorem QL:PE X (.Dict [] [] pos) (Oe (λ_:Addr=>True) (λd=>[d]) (λd=>Pz d []) id):=pe_dnewT.imp λσ H Q q p hp=>q p _ True.intro (show upd H p _ p=_ from Ah) λc o ec=>by
 rw[An (by simpa using Ao ec hp),Ag (Ao ec hp)]
 exact ec
end
def wF(L:List Addr)(I:Hp->Prop)(b:Addr)(o:HO)(H:Hp):Prop:=I H/\lef L H b=some o
section
variable{A:List Zt}{L:List Addr}{I:Hp->Prop}{d b:Addr}{js:Nat}{ho:HO}{o o2 ek ek2 bx:Expr}{nm':List ((Int×Int)×Int)}
theorem QM{pa pb:Int}(hE:its=A++([d],Pz d nm)::B)(g:Ges its)(hL:L=LZ its)(hu:X.A.units+1<cLine)(h1:PE X o (tAt X.K L (wF L (TZ its) b (.tup [.int pa,.int pb])) rs G (.ref d)))(h2:PE X o2 (tAt X.K L (wF L (TZ its) b (.tup [.int pa,.int pb])) rs G (.ref d)))
  (hi:(i,b)∈rs)(hk:PE X ek (tVar i))(hk2:PE X ek2 (tVar i))(hl:nm.length<1000)
  (hput:putK (ppK nm) [.inl pa,.inl pb] (.int (rdG nm pa pb+1))=ppK nm')(m2:M2 X o2 "get" apos ek2 (.Constant (.int 0) js p5) p6)
  (hsw:swapsWith (.BinOp (.Call (.Attribute o2 "get" apos) [ek2,.Constant (.int 0) js p5] [] p6) .Add (.Constant (.int 1) j p3) p2) (some (.Subscript o ek p1)) p4.line X.env=pure false:=by rfl):
  PS X (.Assign [.Subscript o ek p1] (.BinOp (.Call (.Attribute o2 "get" apos) [ek2,.Constant (.int 0) js p5] [] p6) .Add (.Constant (.int 1) j p3) p2) p4) (zN X.K L (wF L (TZ its) b (.tup [.int pa,.int pb])) rs G G (TZ (A++([d],Pz d nm')::B))):=by
 subst hL
 refine(LQ hu h1 hk (L5 Lk (DL hu h2 hk2 pe_int m2) pe_int) hsw).imp λD σ H ⟨r,q⟩=>?_
 have hin:([d],Pz d nm)∈its:=by rw[hE];exact mem_mid.mpr (.inl rfl)
 have hd:∀H,TZ its H->H d=some (.dT (ppK nm)):=λH t=>t.2 _ hin
 refine⟨r,λH1 r1 s1=>⟨d,rfl,.inr ⟨_,.inl (hd _ r1.2.1.1)⟩,.ref b,r1.1 _ hi,?_⟩⟩
 refine⟨_,DGet.t (k:=[.inl pa,.inl pb]) (hd _ r1.2.1.1) (lef_same _ _ r1.2.1.2),rdG nm pa pb,1,?_,rfl,r1,λH2 r2 s2=>⟨.ref b,r2.1 _ hi,d,_,rfl,DPut.t (k:=[.inl pa,.inl pb]) (hd _ r2.2.1.1) (lef_same _ _ r2.2.1.2) ?_,?_⟩⟩
 .rw[Oo]
  unfold rdG
  cases nm.lookup (pa,pb)<;>rfl
 .show(ppK nm).length<_
  unfold ppK
  rw[length_map,sizeLine_eq]
  omega
 .rw[hput]
  have t2:=r2.2.1.1
  subst hE
  have eL:Same (lef [d] H2) (lef [d] (upd H2 d (.dT (ppK nm')))):=λc u e=>by
   by_cases hc:c=d
   .subst hc;rw[A5 mem_cons_self]at e;cases e
   .rw[An (by simpa using hc)]at e ⊢
    rw[Ag hc];exact e
  obtain⟨t3,s3⟩:=Fp (it:=([d],Pz d nm)) (it':=([d],Pz d nm')) g t2 eL (show upd H2 d _ d=_ from Ah)
  have e2:LZ (A++([d],Pz d nm')::B)=LZ (A++([d],Pz d nm)::B):=KF rfl
  rw[e2]at s3
  have sT:Same (lef (LZ (A++([d],Pz d nm)::B)) H) (lef (LZ (A++([d],Pz d nm)::B)) (upd H2 d (.dT (ppK nm')))):=(s1.trans s2).lef.trans s3
  exact q _ _ ⟨r2.1,t3,r2.2.2.mono s3⟩ sT
end
section
variable{d it v:Addr}{es:Array DictEntry}{o:Obj}
theorem MM(hsys:(d==sysModules)=false):MeetsIn prog w (Builtin.«dict.items» ⟨[.ref d],[]⟩) (λ_ R s=>s.TypeIs (.ref d) "dict"/\
  R (.ok (.ret (.ref s.heap.objs.size))) {s with heap:=s.heap.push {cls:=.type "dict_items",data:=.fields #[.ref d]}}):=
 .of_wp λA R s ⟨ht,h⟩=>by
  unfold Builtin.«dict.items» Builtin.Dict.noArgs
  refine wpAny_bind (wpAny_bind (wpAny_notOrdered_dict ht ?_))
  show wpAny _ _ (pure d) _ _ s
  refine wpAny_pure ?_
  show wpAny _ _ (Builtin.Dict.showsAll d>>=_) _ _ s
  unfold Builtin.Dict.showsAll
  rw[if_neg (by rw[hsys];simp)]
  exact wpAny_bind (wpAny_pure (wpAny_bind (wpAny_newObj_type (wpAny_pure ⟨_,rfl,h⟩))))
theorem NA{Q:Value->Shared->Prop}(hv:s.heap.IsItemsView v d)(ho:s.heap.get? d=some o)(hd:o.data=.dict es ep)
  (hQ:∀h',IsItemIter h' s.heap.objs.size d 0 es.size ep .none .none->(∀b u,s.heap.get? b=some u->h'.get? b=some u)->Q (.ref s.heap.objs.size) {s with heap:=h'}):wpAny (model prog w) A (pyIter (.ref v)) Q E s:=by
 obtain⟨ov,e1,e2,e3⟩:=id hv
 refine wpAny_pyIter_slot hv.typeIs F.slot_dict_items_iter (wpAny_call_entry F.slot_dict_items_iter hv.typeIs F.entry_dict_items_iter ?_ (F.args_dict_items_iter_1 _))
 unfold Builtin.«dict_items.__iter__» Builtin.Dict_items.dictOf Builtin.Dict_items.newIterator
 refine wpAny_bind (wpAny_pure (wpAny_bind (wpAny_bind (wpAny_field e1 e3 (x:=.ref d) rfl (wpAny_pure ?_)))))
 refine wpAny_bind (wpAny_bind (wpAny_dictEntries ho hd (wpAny_bind (wpAny_dictEpoch ho hd ?_))))
 simp only[show Builtin.Dict_items.ownsTuple "dict_itemiterator"=true from by decide,if_true]
 refine wpAny_newObj_type (wpAny_pure ⟨_,rfl,"dict_itemiterator",_,⟨_,get?_push_size _ rfl,rfl⟩,F.slot_dict_itemiterator_next.lookup,?_⟩) (by simp only[sizeOk,Builtin.Dict_items.ownedTupleFields,size_toArray,length_append,length_cons,length_nil,sizeLine_eq];omega)
 refine hQ _ ?_ λb u e=>get?_push_of_some _ e
 have:=get?_push_size s.heap (o:={cls:=.type "dict_itemiterator",data:=.fields #[.none,.bool false,.ref d,.int 0 0,.int es.size 0,.int ep 0,.none,.none]}) rfl
 unfold IsItemIter
 simpa[rawInt,Builtin.Dict_items.ownedTupleFields]using this
theorem Pk{k:Nat}{x:DictEntry}{ok ov:Value}{Q:Option Value->Shared->Prop}(hit:IsItemIter s.heap it d k es.size ep ok ov)(ho:s.heap.get? d=some o)(hd:o.data=.dict es ep)(hx:es[k]?=some x)
  (hQ:∀h',IsItemIterOut h' it d (k+1) es.size ep x.key x.val s.heap.objs.size->h'.get? s.heap.objs.size=some {cls:=.type "tuple",data:=.seq #[x.key,x.val]}->
   (∀b u,b≠it->s.heap.get? b=some u->h'.get? b=some u)->Q (some (.ref s.heap.objs.size)) {s with heap:=h'}):wpAny (model prog w) A (pyNext (.ref it)) Q E s:=by
 obtain⟨hp,g,dr,tk,os⟩:=s
 have ty:Shared.TypeIs ⟨hp,g,dr,tk,os⟩ (.ref it) "dict_itemiterator":=⟨_,hit,rfl⟩
 have lt:k<es.size:=(Array.getElem?_eq_some_iff.mp hx).1
 unfold pyNext
 refine wpAny_bind (wpAny_attempt (wpAny_callSpecial?_slot (name:=Str.ofString "__next__") ty F.slot_dict_itemiterator_next (wpAny_call_entry F.slot_dict_itemiterator_next ty F.entry_dict_itemiterator_next ?_ (F.args_dict_itemiterator_next_1 _))))
 refine wpAny_bind (wpAny_pure (wpAny_bind (wpAny_bind (wpAny_bind (wpAny_typeNameOfWhole_itemiter ty (wpAny_pure (wpAny_bind (wpAny_fieldsOf hit rfl ?_))))))))
 simp only[show Builtin.Dict_items.ownsTuple "dict_itemiterator"=true from by decide,if_true]
 show wpAny _ _ (ite ((Value.ref d==Value.none)=true) _ _) _ _ _
 rw[if_neg (by intro z;cases z)]
 refine wpAny_bind (wpAny_pure (wpAny_bind (wpAny_dictEntries ho hd ?_)))
 rw[if_neg (by simp)]
 refine wpAny_bind (wpAny_pure (wpAny_bind (wpAny_dictEpoch ho hd ?_)))
 rw[if_neg (by simp)]
 refine wpAny_pure ?_
 have ex:es[k]=x:=by rw[Array.getElem?_eq_getElem lt]at hx;exact Option.some.inj hx
 simp only[show ¬((k:Int)<0)from by omega,if_false,toNat_natCast,Array.getElem?_eq_getElem lt,ex]
 refine wpAny_bind (wpAny_bind (wpAny_typeNameOfWhole_itemiter ty (wpAny_pure (wpAny_bind (wpAny_isOneOf_itemiter ty ?_)))))
 show wpAny _ _ (setField (.ref it) 3 (rawInt ((k:Int)+1))>>=_) _ _ ⟨hp,g,dr,tk,os⟩
 refine wpAny_bind (wpAny_setField_rec hit (by simp) λa1 i1 b1=>?_)
 have b1:SameBut it hp a1:=b1
 have i1:IsItemIter a1 it d (k+1) es.size ep ok ov:=by
  unfold IsItemIter
  rw[show((k+1:Nat):Int)=(k:Int)+1 by omega]
  simpa[rawInt]using i1
 have ty1:Shared.TypeIs ⟨a1,g,dr,tk,os⟩ (.ref it) "dict_itemiterator":=⟨_,i1,rfl⟩
 refine wpAny_bind (wpAny_holding (wpAny_bind (wpAny_isOneOf_itemiter ty1 (wpAny_bind (wpAny_isOneOf_itemiter ty1 ?_)))))
 show wpAny _ _ (Builtin.Dict_items.pairFromOwner (.ref it) 6 x.key x.val) _ _ ⟨a1,g,dr,tk,os⟩
 unfold Builtin.Dict_items.pairFromOwner Builtin.Dict_items.ownedTupleIsFree
 refine wpAny_bind (wpAny_newTuple ?_)
 obtain⟨a2,e2⟩:∃a2,a2=a1.push {cls:=.type "tuple",data:=.seq #[x.key,x.val]}:=⟨_,rfl⟩
 have i2:IsItemIter a2 it d (k+1) es.size ep ok ov:=by rw[e2];exact get?_push_of_some _ i1
 have lti:it<hp.objs.size:=lt_size hit
 have t2:a2.get? hp.objs.size=some {cls:=.type "tuple",data:=.seq #[x.key,x.val]}:=by rw[e2,<-b1.1];exact get?_push_size _ rfl
 have k2:∀b u,b≠it->hp.get? b=some u->a2.get? b=some u:=λb u hb e=>by rw[e2];exact get?_push_of_some _ (b1.extBut b u hb e)
 show wpAny _ _ (Builtin.Dict_items.ownedTupleIsFree (.ref it)>>=_) _ _ ⟨a1.push _,g,dr,tk,os⟩
 rw[<-e2,b1.1]
 unfold Builtin.Dict_items.ownedTupleIsFree
 refine wpAny_bind (wpAny_bind (wpAny_field i2 rfl (x:=.none) rfl (wpAny_pure ?_)))
 simp only[if_true]
 refine wpAny_bind (wpAny_field i2 rfl (x:=ok) rfl (wpAny_bind (wpAny_field i2 rfl (x:=ov) rfl ?_)))
 refine wpAny_bind (wpAny_setField_rec i2 (by simp) λa3 i3 b3=>?_)
 have b3:SameBut it a2 a3:=b3
 have i3:IsItemIter a3 it d (k+1) es.size ep x.key ov:=i3
 refine wpAny_bind (wpAny_setField_rec i3 (by simp) λa4 i4 b4=>?_)
 have b4:SameBut it a3 a4:=b4
 have i4:IsItemIter a4 it d (k+1) es.size ep x.key x.val:=i4
 refine wpAny_bind (wpAny_setField_rec i4 (by simp) λa5 i5 b5=>?_)
 have b5:SameBut it a4 a5:=b5
 have i5:IsItemIterOut a5 it d (k+1) es.size ep x.key x.val hp.objs.size:=i5
 refine wpAny_bind (wpAny_setField_rec i5 (by simp) λa6 i6 b6=>?_)
 have b6:SameBut it a5 a6:=b6
 have all:∀b u,b≠it->a2.get? b=some u->a6.get? b=some u:=λb u hb e=>b6.extBut b u hb (b5.extBut b u hb (b4.extBut b u hb (b3.extBut b u hb e)))
 exact wpAny_bind (wpAny_letGo (wpAny_pure (wpAny_pure ⟨_,rfl,wpAny_pure (hQ a6 i6 (all _ _ (ne_of_gt lti) t2) λb u hb e=>all b u hb (k2 b u hb e))⟩)))
theorem R3{ok ov:Value}{Q:Option Value->Shared->Prop}(hh:A.handled=none){k:Nat}(hit:IsItemIter s.heap it d k es.size ep ok ov)(ho:s.heap.get? d=some o)(hd:o.data=.dict es ep)(hx:es.size<=k)
  (hQ:∀h',Heap.ExtBut it s.heap h'->Q none {s with heap:=h'}):wpAny (model prog w) A (pyNext (.ref it)) Q E s:=by
 have ty:s.TypeIs (.ref it) "dict_itemiterator":=⟨_,hit,rfl⟩
 unfold pyNext
 refine wpAny_bind (wpAny_attempt (wpAny_callSpecial?_slot (name:=Str.ofString "__next__") ty F.slot_dict_itemiterator_next (wpAny_call_entry F.slot_dict_itemiterator_next ty F.entry_dict_itemiterator_next ?_ (F.args_dict_itemiterator_next_1 _))))
 refine wpAny_bind (wpAny_pure (wpAny_bind (wpAny_bind (wpAny_bind (wpAny_typeNameOfWhole_itemiter ty (wpAny_pure (wpAny_bind (wpAny_fieldsOf hit rfl ?_))))))))
 simp only[show Builtin.Dict_items.ownsTuple "dict_itemiterator"=true from by decide,if_true]
 show wpAny _ _ (ite ((Value.ref d==Value.none)=true) _ _) _ _ _
 rw[if_neg (by intro z;cases z)]
 refine wpAny_bind (wpAny_pure (wpAny_bind (wpAny_dictEntries ho hd ?_)))
 rw[if_neg (by simp)]
 refine wpAny_bind (wpAny_pure (wpAny_bind (wpAny_dictEpoch ho hd ?_)))
 rw[if_neg (by simp)]
 refine wpAny_pure ?_
 simp only[show ¬((k:Int)<0)from by omega,if_false,toNat_natCast,getElem?_eq_none hx]
 refine wpAny_bind (wpAny_bind (wpAny_typeNameOfWhole_itemiter ty (wpAny_pure ?_)))
 show wpAny _ _ (setField (.ref it) 2 .none>>=_) _ _ s
 refine wpAny_bind (wpAny_setField hit rfl (by simp) ?_)
 show wpAny _ _ (newExc (.type "StopIteration") []>>=_) _ _ _
 simp only[newExc,newTuple]
 refine wpAny_bind (wpAny_bind (wpAny_newObj_type (wpAny_bind (m:=firstArgMember _ _) (wpAny_of_eq (a:=Value.none) (by first|rfl|(simp only[firstArgMember];rfl)) (wpAny_newObj_type ?_ (by size_fits)))) (by size_fits)))
 simp only[raiseNew]
 refine wpAny_bind (wpAny_handled ?_)
 rw[show A.in1.handled=none from hh]
 refine wpAny_bind (wpAny_pure (wpAny_throw ?_))
 exact wpAny_bind (wpAny_isInstance (T:="StopIteration") (b:=true) ⟨_,get?_push_size _ rfl,rfl⟩ isSubtype_stop (wpAny_pure (hQ _ (((Heap.SameBut.update ..).extBut.push _).push _))))
end
variable{u:HO}{ob:Obj}{kvs:List (List Key×V)}
section
variable{d:Addr}{v:HO}
theorem Inv.swp(I:Inv X pins σ H s)(e:H d=some v)(n1:∀xs,v≠.tup xs)(n2:∀x,v≠.own x)(n3:∀ps,v≠.tbl ps)(hf:∀q z,X.H₀ d≠some (.frz q z))(hn:ObjOk X.prog X.w (upd H d u) s.heap d u):Inv X pins σ (upd H d u) s:=by
 have hne:∀{b:Addr},H b=none->b≠d:=λ{b} h z=>by rw[z,e]at h;cases h
 refine⟨I.ok,I.os,I.bare,⟨I.base.keep,I.base.slot,λb o h1 h2 h3=>?_,I.base.there,λb xs h=>?_,λb o z h=>?_,λb ps h=>?_⟩,I.loc,I.cell,?_,λx c h=>?_,λp hp=>?_,λa o h=>?_,I.len⟩
 .have h4:=I.base.free b o h1 h2 h3
  rw[Ag (hne h4)];exact h4
 .have h4:=I.base.tups b xs h
  rw[Ag λz=>by rw[z,e]at h4;exact n1 _ (Option.some.inj h4)];exact h4
 .rw[Ag λw=>hf o z (by rw[<-w];exact h)]
  exact I.base.frzs b o z h
 .obtain⟨more,h4⟩:=I.base.tbls b ps h
  exact⟨more,by rw[Ag λz=>by rw[z,e]at h4;exact n3 _ (Option.some.inj h4)];exact h4⟩
 .rw[Ag (hne I.free)];exact I.free
 .rw[Ag (hne (I.freeC x c h))];exact I.freeC x c h
 .obtain⟨p1,p2,p3⟩:=I.pin p hp
  exact⟨p1,by rw[Ag (hne p2)];exact p2,p3⟩
 .by_cases ha:a=d
  .subst ha
   rw[Ah]at h;cases h
   exact hn
  .rw[Ag ha]at h
   refine(I.hok a o h).stay (λb w _ q=>q) (λb q=>?_) λb xs q=>?_
   .rw[Ag λz=>by rw[z,e]at q;exact n2 _ (Option.some.inj q)];exact q
   .rw[Ag λz=>by rw[z,e]at q;exact n1 _ (Option.some.inj q)];exact q
theorem Sd(I:Inv X pins σ H s)(e:H d=some v)(n1:∀xs,v≠.tup xs)(x:ObjOk X.prog X.w H s.heap d (.dT kvs)):ObjOk X.prog X.w (upd H d u) s.heap d (.dT kvs):=by
 obtain⟨z,y,xs,r,c⟩:=x
 refine⟨z,y,xs,Paired.mapP r λp q z=>⟨z.1,?_,z.2.2⟩,c⟩
 have h4:=z.2.1
 rw[Ag λw=>by rw[w,e]at h4;exact n1 _ (Option.some.inj h4)];exact h4
theorem Inv.freeze(I:Inv X pins σ H s)(e:H d=some (.dT kvs)):∃ob,s.heap.get? d=some ob/\Inv X pins σ (upd H d (.frz ob (.dT kvs))) s/\∀q z,X.H₀ d≠some (.frz q z):=by
 have x:=I.hok d _ e
 obtain⟨z,y,xs,r,ob,es,ep,h1,c⟩:=id x
 have hf:∀q z,X.H₀ d≠some (.frz q z):=λq z h=>by rw[I.base.frzs d q z h]at e;cases e
 exact⟨ob,h1,I.swp e (λ_ z=>by cases z) (λ_ z=>by cases z) (λ_ z=>by cases z) hf ⟨h1,Sd I e (λ_ z=>by cases z) x⟩,hf⟩
theorem Inv.thaw(I:Inv X pins σ H s)(e:H d=some (.frz ob (.dT kvs)))(hf:∀q z,X.H₀ d≠some (.frz q z)):Inv X pins σ (upd H d (.dT kvs)) s:=
 I.swp e (λ_ z=>by cases z) (λ_ z=>by cases z) (λ_ z=>by cases z) hf (Sd I e (λ_ z=>by cases z) (I.hok d _ e).2)
theorem PR{t:TS}(h:PSs X sts t):PSs X sts (λD σ H=>∃ob,H d=some (.frz ob (.dT kvs))/\(∀q z,X.H₀ d≠some (.frz q z))/\t D σ (upd H d (.dT kvs))):=λpins s σ H D I ⟨ob,e,hf,q⟩=>h pins s σ _ D (I.thaw e hf) q
end
theorem L3{α β:Type}{F:α->β->Prop}:∀{l1:List α}{l2:List β},Paired F l1 l2->∀{k:Nat}{x:α},l1[k]?=some x->∃y,l2[k]?=some y/\F x y
 |_,_,.cons r t,0,x,e=>by cases e;exact⟨_,rfl,r⟩
 |_,_,.cons r t,k+1,x,e=>L3 t e
def Md(d:Addr)(ob:Obj)(kvs:List (List Key×V)):It:=
 ⟨λk H=>H d=some (.frz ob (.dT kvs))/\k<kvs.length,λk H x H'=>∃r b ky y,H r=none/\x=.ref r/\H'=upd H r (.tup [.ref b,y])/\kvs[k]?=some (ky,y)/\H b=some (.tup (ky.map kV)),λk H=>H d=some (.frz ob (.dT kvs))/\kvs.length<=k⟩
theorem Ku{elts:List Expr}{x1}{it d:Addr}{es:Array DictEntry}(hob:ob.data=.dict es ep):
  Turn P w K (.Tuple elts x1 tpos) (Md d ob kvs) [it] it (λk h=>∃ok ov,IsItemIter h it d k es.size ep ok ov)where
 mem:=by simp
 obj:=λk h ⟨ok,ov,st⟩ c hc=>by
  rw[mem_singleton.mp hc]
  exact⟨_,st,λv z=>by cases z⟩
 keep:=λk h h' ⟨ok,ov,st⟩ kk=>⟨ok,ov,kk it (by simp) _ st⟩
 item:=λX eP eW eK hcalm k pins s σ H E I hf ⟨ok,ov,st⟩ ⟨hd,hk⟩=>by
  subst eP eW eK
  obtain⟨ho,z,y,xs,r,o,es',ep',e1,e2,e3,e4,e5⟩:=I.hok d _ hd
  rw[ho]at e1;cases e1
  rw[hob]at e3;cases e3
  have hkv:kvs[k]?=some kvs[k]:=getElem?_eq_getElem hk
  obtain⟨q,eq,p1,p2,p3⟩:=L3 r hkv
  obtain⟨kq,bq,vq⟩:=q
  simp only at p1 p2 p3
  have hx:es[k]?=some (entryOfKey (tupleKind (AC X.prog X.w)) (kq,bq,vq)):=by
   rw[<-Array.getElem?_toList,e4,getElem?_map,eq];rfl
  have hp:H s.heap.objs.size=none:=I.hok.fresh (le_refl _)
  have hil:it<s.heap.objs.size:=lt_size st
  refine Pk st ho hob hx λh' ho' hT hk'=>⟨_,rfl,?_⟩
  refine wpAny_letOwnedTupleGo_items ho' λg' z' s'=>?_
  have s':SameBut it h' g':=s'
  have k':∀c o,c∉[it]->s.heap.get? c=some o->g'.get? c=some o:=λc o hc e1=>by
   have hc:c≠it:=by simpa using hc
   exact s'.extBut _ _ hc (hk' c o hc e1)
  have hT2:=s'.extBut _ _ (ne_of_gt hil) hT
  have I1:Inv X pins σ (upd H s.heap.objs.size (.tup [.ref bq,kvs[k].2])) {s with heap:=g'}:=I.turnedNew (ch:=[it]) (t':=s.toks) hf k' (λc hc=>by rw[mem_singleton.mp hc];exact⟨_,z'⟩) (le_refl _) (us:=[.ref bq,vq]) (.cons rfl (.cons p3 .nil)) (by rw[sizeLine_eq];show 2<=16777216;decide) ⟨⟨_,hT2,rfl,_,rfl⟩,_,hT2,rfl⟩
  refine⟨.ref s.heap.objs.size,_,I1,rfl,⟨_,bq,kvs[k].1,kvs[k].2,hp,rfl,rfl,hkv,p2⟩,⟨_,_,z'⟩,λc hc=>?_⟩
  rw[mem_singleton.mp hc,Ag (ne_of_lt hil)]
  exact(hf it (by simp)).1
 done:=λX eP eW eK hcalm k pins s σ H E I hf ⟨ok,ov,st⟩ ⟨hd,hk⟩=>by
  subst eP eW eK
  obtain⟨ho,z,y,xs,r,o,es',ep',e1,e2,e3,e4,e5⟩:=I.hok d _ hd
  rw[ho]at e1;cases e1
  rw[hob]at e3;cases e3
  have hsz:es.size=kvs.length:=by rw[<-length_toList,e4,length_map,Paired.length r]
  exact R3 (I.ok.hd hcalm) st ho hob (by rw[hsz];exact hk) λg kk=>⟨rfl,I.turnedMany (t':=s.toks) (ch:=[it]) hf λc o hc e=>kk c o (by simpa using hc) e⟩
 self:=λA k s Q E ⟨ok,ov,st⟩ hQ=>PySem.W.kcp_self st hQ
section
variable{o:Expr}
theorem PD{elts:List Expr}{x1}(ho:PE X o ta)(hbase:attributeBase o "items" X.env (eval o X.env)=eval o X.env:=by rfl)(hline:(apos.endLine==cpos.line)=true:=by rfl):
  PI X (.Tuple elts x1 tpos) (.Call (.Attribute o "items" apos) [] [] cpos) (λσ H R=>ta σ H λv H1=>∃d kvs,v=.ref d/\H1 d=some (.dT kvs)/\∀ob,(∀q z,X.H₀ d≠some (.frz q z))->R (Md d ob kvs) (upd H1 d (.frz ob (.dT kvs)))):=by
 intro pins s σ H R I hta
 refine wpAny_Call_method0_late hbase hline (thn (ho pins s σ H _ I hta) λv s1 ⟨x,H1,I1,r1,d,kvs,ev,hd,q⟩=>?_)
 subst ev
 have ty:tyV X.K "dict" (.ref d) H1:=.inr (.inr (.inl ⟨rfl,.inr ⟨kvs,hd⟩⟩))
 obtain⟨h1,h2⟩:=P9 I1 r1 ty
 cases r1
 obtain⟨ob,hob,I2,hf⟩:=I1.freeze hd
 obtain⟨z,y,xs,r,ob',es,ep,e1,e2,e3,e4⟩:=I1.hok d _ hd
 rw[hob]at e1;cases e1
 refine⟨"dict","dict.items",F.plainAttrs_dict,F.slot_dict_items,F.type_dict_items,h1,h2,Calls.callWith_builtin rfl (PySem.evalArgs_none ?_)⟩
 refine call_meetsIn F.slot_dict_items h1 F.entry_dict_items (F.args_dict_items_1 _) (MM y) ⟨h1,?_⟩
 have k1:∀b u,s1.heap.get? b=some u->(s1.heap.push {cls:=.type "dict_items",data:=.fields #[.ref d]}).get? b=some u:=λb u e=>get?_push_of_some _ e
 refine NA (v:=s1.heap.objs.size) ⟨_,get?_push_size _ rfl,rfl,rfl⟩ (k1 _ _ hob) e3 λh' hit hk'=>?_
 have kk:∀b u,s1.heap.get? b=some u->h'.get? b=some u:=λb u e=>hk' b u (k1 b u e)
 have hlt:s1.heap.objs.size<=(s1.heap.push {cls:=.type "dict_items",data:=.fields #[.ref d]}).objs.size:=by rw[size_push];omega
 refine⟨_,_,_,_,_,rfl,I2.kept (t':=s1.toks) kk,Ku e3,⟨_,_,hit⟩,λc hc=>?_,q ob hf⟩
 rw[mem_singleton.mp hc]
 exact I2.fpOk hlt (I2.hok.fresh hlt)
end
def Fz(d:Addr)(ob:Obj)(nm:List ((Int×Int)×Int))(H:Hp):Prop:=H d=some (.frz ob (.dT (ppK nm)))
theorem Rp{d:Addr}:Ge ([d],Fz d ob nm)where
 ok:=by
  refine⟨λh s=>s _ _ h,λ{H} h b hb xs r=>?_,λ{H p} h hp hm=>?_⟩
  .have h:H d=some (.frz ob (.dT (ppK nm))):=h
   rw[mem_singleton.mp hb]at r
   rcases r with r|⟨o,r⟩
   .rw[h]at r;cases r
   .rw[h]at r;cases r
  .have h:H d=some (.frz ob (.dT (ppK nm))):=h
   rw[mem_singleton.mp hm,h]at hp;cases hp
 ap:=λh dj nt=>by
  show lef _ _ d=_
  rw[An λz=>dj d z mem_cons_self]
  exact h
theorem II{A:List Zt}(g:Ges (A++it::B))(g':Ge it'):Ges (A++it'::B):=λz hz=>by
 rcases mem_mid.mp hz with rfl|hz
 .exact g'
 .exact g z (mem_mid.mpr (.inr hz))
theorem Mf{d:Addr}:Same (lef [d] H) (lef [d] (upd H d u)):=λc o e=>by
 by_cases hc:c=d
 .subst hc;rw[A5 mem_cons_self]at e;cases e
 .rw[An (by simpa using hc)]at e ⊢
  rw[Ag hc];exact e
section
variable{A:List Zt}{o:Expr}{d:Addr}
theorem J2{elts:List Expr}{x1}(g:Ges (A++([d],Pz d nm)::B))(W:Nat->Gam->Prop)(hp:PassesOwn (model X.prog X.w) X.A X.env X.xe)(hcalm:X.calm=true)(hj:∀q∈rs,q.1∉[j1,j2])(hg:PG X (.Tuple elts x1 tpos) (gTup X.K 2 (C4 [j1,j2])))(ho:PE X o (tVar i))(hi:(i,d)∈rs)(h0:W 0 G)
  (hs:∀ob k p t v G,nm[k]?=some ((p,t),v)->W k G->PSs X body (zV X.K (LZ (A++([d],Pz d nm)::B)) (TZ (A++([d],Fz d ob nm)::B)) rs ((G.set j1 (some (.tuple [.int p,.int t]))).set j2 (some (.int v))) (λL' σ' H'=>L'=LZ (A++([d],Pz d nm)::B)/\∃G',W (k+1) G'/\RZ X.K L' (TZ (A++([d],Fz d ob nm)::B)) rs G' σ' H') noRt))
  (hd:∀G,W nm.length G->PSs X sts (zV X.K (LZ (A++([d],Pz d nm)::B)) (TZ (A++([d],Pz d nm)::B)) rs G Nx Rt))
  (hbase:attributeBase o "items" X.env (eval o X.env)=eval o X.env:=by rfl)(hline:(apos.endLine==cpos.line)=true:=by rfl)
  (hfs:∀y,foldedSetIterable (.Call (.Attribute o "items" apos) [] [] cpos) X.env y=pure y:=by intro _;rfl):
  PSs X (.For (.Tuple elts x1 tpos) (.Call (.Attribute o "items" apos) [] [] cpos) body [] pos::sts) (zV X.K (LZ (A++([d],Pz d nm)::B)) (TZ (A++([d],Pz d nm)::B)) rs G Nx Rt):=by
 obtain⟨L,eL⟩:∃L,L=LZ (A++([d],Pz d nm)::B):=⟨_,rfl⟩
 have eF:∀ob,LZ (A++([d],Fz d ob nm)::B)=L:=λob=>by rw[eL];exact KF rfl
 rw[<-eL]at hs hd ⊢
 have okF:∀ob,ZOk L (TZ (A++([d],Fz d ob nm)::B)):=λob=>by rw[<-eF ob];exact(II g Rp).ok
 have hdF:∀{ob H},TZ (A++([d],Fz d ob nm)::B) H->H d=some (.frz ob (.dT (ppK nm))):=λ{ob H} t=>t.2 ([d],Fz d ob nm) (mem_mid.mpr (.inl rfl))
 have hbody:PSs X body (λD σ H=>∃(ob:Obj) (k:Nat) (p t v:Int) (G:Gam),nm[k]?=some ((p,t),v)/\W k G/\zV X.K L (TZ (A++([d],Fz d ob nm)::B)) rs ((G.set j1 (some (.tuple [.int p,.int t]))).set j2 (some (.int v))) (λL' σ' H'=>L'=L/\∃G',W (k+1) G'/\RZ X.K L' (TZ (A++([d],Fz d ob nm)::B)) rs G' σ' H') noRt D σ H):=λpins s σ H D I ⟨ob,k,p,t,v,G,hk,hW,q⟩=>hs ob k p t v G hk hW pins s σ H D I q
 have h2:PSs X sts (λD σ H=>∃(G:Gam),W nm.length G/\zV X.K L (TZ (A++([d],Pz d nm)::B)) rs G Nx Rt D σ H):=λpins s σ H D I ⟨G,hW,q⟩=>hd G hW pins s σ H D I q
 refine(As (Ep hp hcalm (PD ho hbase hline) hg hbody hfs) (PR (d:=d) (kvs:=ppK nm) h2)).imp λD σ H ⟨r,q1,q2⟩=>?_
 have t0:=r.2.1
 have hd0:H d=some (.dT (ppK nm)):=t0.2 ([d],Pz d nm) (mem_mid.mpr (.inl rfl))
 refine⟨.ref d,r.1 _ hi,d,ppK nm,rfl,hd0,λob hf=>?_⟩
 obtain⟨t1,s1⟩:=Fp (it:=([d],Pz d nm)) (it':=([d],Fz d ob nm)) g t0 Mf (show upd H d (.frz ob (.dT (ppK nm))) d=_ from Ah)
 rw[eF ob,<-eL]at s1
 have r1:RZ X.K L (TZ (A++([d],Fz d ob nm)::B)) rs G σ (upd H d (.frz ob (.dT (ppK nm)))):=GX r t1 s1
 have hlen:(ppK nm).length=nm.length:=by unfold ppK;rw[length_map]
 refine⟨λk m σ2 H2=>m=nm.length-k/\k<=nm.length/\∃G,W k G/\RZ X.K L (TZ (A++([d],Fz d ob nm)::B)) rs G σ2 H2/\Same (lef L (upd H d (.frz ob (.dT (ppK nm))))) (lef L H2),⟨_,rfl,zero_le _,G,h0,r1,Same.refl _⟩,?_⟩
 rintro k m σ2 H2 ⟨rfl,hk,G2,hW,r2,sm⟩
 by_cases hlt:k<nm.length
 .refine .inr ⟨⟨hdF r2.2.1,by rw[hlen];exact hlt⟩,λσ' H'=>∃G,W (k+1) G/\RZ X.K L (TZ (A++([d],Fz d ob nm)::B)) rs G σ' H'/\Same (lef L (upd H d (.frz ob (.dT (ppK nm))))) (lef L H'),λσ' H' hx=>⟨nm.length- (k+1),by omega,rfl,hlt,hx⟩,λx H' ⟨r0,b,ky,yv,hr,ev,eH,ek,eb⟩=>?_⟩
  subst ev eH
  obtain⟨p,t,v,hnk⟩:∃p t v,nm[k]?=some ((p,t),v):=⟨nm[k].1.1,nm[k].1.2,nm[k].2,getElem?_eq_getElem hlt⟩
  have ek2:(ppK nm)[k]?=some ([.inl p,.inl t],V.int v):=by unfold ppK;rw[getElem?_map,hnk];rfl
  rw[ek2]at ek;cases ek
  have eb:H2 b=some (.tup [.int p,.int t]):=eb
  have sn:Same H2 (upd H2 r0 (.tup [.ref b,.int v])):=Same.new hr
  have r3:=r2.step (okF ob) sn
  have hbL:b∉L:=λhm=>(okF ob).notup r2.2.1 b hm _ (.inl eb)
  have eb3:lef L (upd H2 r0 (.tup [.ref b,.int v])) b=some (.tup [.int p,.int t]):=by rw[An hbL];exact sn _ _ eb
  refine⟨r0,[.ref b,.int v],rfl,SqT.of Ah,rfl,?_⟩
  refine Ih (Hb:=lef L (upd H2 r0 (.tup [.ref b,.int v]))) [j1,j2] [.tuple [.int p,.int t],.int v] [.ref b,.int v] σ2 G2 _ rfl r3.2.2 (.cons (.tup (.inl (.inl eb3)) (.cons (.int _) (.cons (.int _) .nil))) (.cons (.int _) .nil)) λσ3 h3 hm=>?_
  exact⟨ob,k,p,t,v,G2,hnk,hW,⟨λq hq=>by rw[hm q.1 (hj q hq)];exact r2.1 q hq,r3.2.1,h3⟩,λL' σ4 H4 ⟨el,G4,hW4,r4⟩ s4=>by subst el;exact⟨G4,hW4,r4,(sm.trans sn.lef).trans s4⟩,λL' v H4 n4 s4=>n4.elim⟩
 .have e:k=nm.length:=by omega
  subst e
  refine .inl ⟨⟨hdF r2.2.1,by rw[hlen];exact le_refl _⟩,ob,hdF r2.2.1,hf,G2,hW,?_⟩
  obtain⟨t4,s4⟩:=Fp (it:=([d],Fz d ob nm)) (it':=([d],Pz d nm)) (II g Rp) r2.2.1 Mf (show upd H2 d (.dT (ppK nm)) d=_ from Ah)
  rw[eF ob,<-eL]at s4
  exact⟨GX r2 t4 s4,λL' σ' H' n s=>q1 L' σ' H' n (((s1.trans sm).trans s4).trans s),λL' v H' n s=>q2 L' v H' n (((s1.trans sm).trans s4).trans s)⟩
end
theorem OM{ms:List Int}(hu:X.A.units<cLine):OD X (compareOp .Lt) (.tuple (ns.map int)) (.tuple (ms.map int)) (.bool (HT.lexLt ns ms)):=by
 intro pins s σ H x y v u Q I rx ry ⟨h1,h2,q⟩
 obtain⟨l,us,rfl,hl,d1⟩:=h1.of_tup
 obtain⟨m,ws,rfl,hm,d2⟩:=h2.of_tup
 cases rx
 cases ry
 obtain⟨its,r,ht,_⟩:=I.tuple hl
 obtain⟨its2,r2,ht2,_⟩:=I.tuple hm
 exact HT.lt_tupInts ht ht2 (by simpa using Gj d1 r) (by simpa using Gj d2 r2) hu ⟨.bl _,H,I,rfl,q _ H (Same.refl H) (.bl _)⟩
section
variable{A:List Zt}{L:List Addr}{I:Hp->Prop}
theorem J7(g:Ges (A++(L,I)::B))(g':Ge (L,I'))(hrs:∀q∈rs1,q∈rs)(hn:noL d=true)(h:ZE X L I rs1 G e d I'):ZE X (LZ (A++(L,I)::B)) (TZ (A++(L,I)::B)) rs G e d (TZ (A++(L,I')::B)):=h.imp λσ H Q ⟨r,q⟩=>by
 have hm:∀b∈L,b∈LZ (A++(L,I)::B):=λb hb=>mem_LZ.mpr ⟨(L,I),mem_mid.mpr (.inl rfl),hb⟩
 refine⟨⟨λz hz=>r.1 z (hrs z hz),r.2.1.2 (L,I) (mem_mid.mpr (.inl rfl)),r.2.2.mono (QY hm)⟩,λv H' i' s dv=>?_⟩
 obtain⟨t',s'⟩:=Fp (it:=(L,I)) (it':=(L,I')) g r.2.1 s i'
 have eL:LZ (A++(L,I')::B)=LZ (A++(L,I)::B):=KF rfl
 have nt:=(II g g').ok.notup t'
 rw[eL]at s' nt
 exact q v H' t' s' (DV.lef nt (dv.mono lef_same) hn)
theorem HX(hi:(i,p)∈rs)(hv:PE X (.Name x pos) (tVar i)):PE X (.Name x pos) (tAt X.K L I rs G (.ref p)):=hv.imp λσ H Q ⟨r,q⟩=>⟨.ref p,r.1 _ hi,q H r (Same.refl H)⟩
theorem RG(okI:ZOk L I)(v:Sees X.K L I rs G G')(h:AV X G' es ds){vs0:List V}(hvs:∀{H:Hp}{vs:List V},DVs X.K H vs ds->vs=vs0)(hds:∀H:Hp,DVs X.K H vs0 ds)(hz:ds.length<=sizeLine)(hN:X.N.Nodup)(hj:X.N[j]?=some x)(hj0:j∉rs.map (·.1))(hx:Loc X.env.scope x)(hlen:j<G.length){kt}
  (hs:swapsWith (.Tuple es kt pos) (some (.Name x p1)) pos2.line X.env=pure false:=by rfl)
  (hfn:Zlo X x:=by first|exact .inl rfl|exact .inr rfl|assumption):
  PS X (.Assign [.Name x p1] (.Tuple es kt pos) pos2) (zV X.K L I rs G (λL' σ' H'=>∃b,True/\L'=L/\RZ X.K L (wF L I b (.tup vs0)) ((j,b)::rs) (G.set j (some (.tuple ds))) σ' H') noRt):=by
 refine(Bn hN hj hx (KD h) hs hfn).imp λD σ H ⟨r,q1,_⟩=>⟨v σ H r,λvs H1 s1 dv=>⟨by rw[dv.length];exact hz,λb hb=>?_⟩⟩
 have e:=hvs dv
 subst e
 have sn:Same H1 (upd H1 b (.tup vs)):=Same.new hb
 have r1:=(r.step okI s1).step okI sn
 have hbL:b∉L:=λhm=>okI.notup r1.2.1 b hm _ (.inl Ah)
 have hb2:lef L (upd H1 b (.tup vs)) b=some (.tup vs):=by rw[An hbL];exact Ah
 refine q1 L _ _ ⟨b,True.intro,rfl,λz hz=>?_,⟨r1.2.1,hb2⟩,r1.2.2.set (.tup (.inl (.inl hb2)) (hds _))⟩ (s1.trans sn).lef
 rcases mem_cons.mp hz with e|hz
 .subst e
  exact getElem?_set_self (by rw[r.2.2.1];exact hlen)
 .rw[getElem?_set_ne λw=>hj0 (mem_map.mpr ⟨z,hz,w.symm⟩)]
  exact r.1 z hz
end
theorem HR(W:Nat->β->Prop)(cb:Nat->β->Bool)(y0:β)(hp:PassesOwn (model X.prog X.w) X.A X.env X.xe)(h0:W 0 y0)
  (hc:∀k y,W k y->ZT X (Lo y) (Io y) rs (Go y) c (cb k y))(hn:∀k y,W k y->cb k y=true->k<n)
  (hb:∀k y,W k y->cb k y=true->PSs X body (zV X.K (Lo y) (Io y) rs (Go y) (λL' σ' H'=>∃y',W (k+1) y'/\L'=Lo y'/\RZ X.K (Lo y') (Io y') rs (Go y') σ' H') Rt))
  (hd:∀k y,W k y->cb k y=false->PSs X sts (zV X.K (Lo y) (Io y) rs (Go y) Nx Rt)):
  PSs X (.While c body [] pos::sts) (zV X.K (Lo y0) (Io y0) rs (Go y0) Nx Rt):=by
 have hT:PT X c (λσ H Q=>∃(k:Nat) (y:β),W k y/\zT X.K (Lo y) (Io y) rs (Go y) (cb k y) σ H Q):=λpins s σ H Q I ⟨k,y,hW,q⟩=>hc k y hW pins s σ H Q I q
 have hbody:PSs X body (λD σ H=>∃(k:Nat) (y:β),W k y/\cb k y=true/\zV X.K (Lo y) (Io y) rs (Go y) (λL' σ' H'=>∃y',W (k+1) y'/\L'=Lo y'/\RZ X.K (Lo y') (Io y') rs (Go y') σ' H') Rt D σ H):=λpins s σ H D I ⟨k,y,hW,hk,q⟩=>hb k y hW hk pins s σ H D I q
 have h2:PSs X sts (λD σ H=>∃(k:Nat) (y:β),W k y/\cb k y=false/\zV X.K (Lo y) (Io y) rs (Go y) Nx Rt D σ H):=λpins s σ H D I ⟨k,y,hW,hk,q⟩=>hd k y hW hk pins s σ H D I q
 refine(As (Px hp hT hbody) h2).imp λD σ H ⟨r,q1,q2⟩=>?_
 refine⟨λm σ2 H2=>∃(k:Nat) (y:β),m=n-k/\W k y/\RZ X.K (Lo y) (Io y) rs (Go y) σ2 H2/\Same (lef (Lo y0) H) (lef (Lo y) H2),⟨n,0,y0,rfl,h0,r,Same.refl _⟩,?_⟩
 rintro m σ2 H2 ⟨k,y,rfl,hW,r2,sm⟩
 refine⟨k,y,hW,r2,λH3 r3 s3=>?_⟩
 cases hcb:cb k y with
 |true=>
  have hlt:=hn k y hW hcb
  exact iteT ⟨λσ' H'=>∃y',W (k+1) y'/\RZ X.K (Lo y') (Io y') rs (Go y') σ' H'/\Same (lef (Lo y0) H) (lef (Lo y') H'),λσ' H' ⟨y',w',r',s'⟩=>⟨n- (k+1),by omega,k+1,y',rfl,w',r',s'⟩,k,y,hW,hcb,r3,λL' σ' H' ⟨y',w',el,r'⟩ s'=>⟨y',w',r',(sm.trans s3).trans (el▸s')⟩,λL' v H' i s'=>q2 L' v H' i ((sm.trans s3).trans s')⟩
 |false=>exact iteF ⟨k,y,hW,hcb,r3,λL' σ' H' i s'=>q1 L' σ' H' i ((sm.trans s3).trans s'),λL' v H' i s'=>q2 L' v H' i ((sm.trans s3).trans s')⟩
theorem C6{L:List Addr}(hp:∀b∈L,∃ps,H b=some (.tbl ps)){a:Addr}(e:H a=some u)(hu:∀ps,u≠.tbl ps):L2.lef L H a=some u:=by
 rw[An λz=>by
  obtain⟨ps,e2⟩:=hp a z
  rw[e]at e2
  exact hu _ (Option.some.inj e2)]
 exact e
section
variable{L:List Addr}
mutual
theorem DV.unT(hp:∀b∈L,∃ps,H b=some (.tbl ps)):∀{v:V}{d:PyData},DV K H v d->DV K (L2.lef L H) v d
 |_,_,.non=>.non
 |_,_,.bl b=>.bl b
 |_,_,.int i=>.int i
 |_,_,.str x=>.str x
 |_,_,.tup h t=>by
  refine .tup ?_ (DVs.unT hp t)
  rcases h with(h|⟨o,h⟩)|h
  .exact .inl (.inl (C6 hp h λ_ z=>by cases z))
  .exact .inl (.inr ⟨o,C6 hp h λ_ z=>by cases z⟩)
  .exact .inr h
 |_,_,.lst h t=>by
  refine .lst ?_ (DVs.unT hp t)
  rcases h with(h|⟨o,h⟩)|h
  .exact .inl (.inl (C6 hp h λ_ z=>by cases z))
  .exact .inl (.inr ⟨o,C6 hp h λ_ z=>by cases z⟩)
  .exact .inr h
 |_,_,.dct h t=>.dct (C6 hp h λ_ z=>by cases z) (DVk.unT hp t)
 |_,_,.exc h=>.exc (C6 hp h λ_ z=>by cases z)
 |_,_,.exr h h2=>.exr (C6 hp h λ_ z=>by cases z) (C6 hp h2 λ_ z=>by cases z)
 |_,_,.obj h n t=>.obj (C6 hp h λ_ z=>by cases z) n (DVf.unT hp t)
 |_,_,.dtt h=>.dtt (C6 hp h λ_ z=>by cases z)
theorem DVs.unT(hp:∀b∈L,∃ps,H b=some (.tbl ps)):∀{vs:List V}{ds:List PyData},DVs K H vs ds->DVs K (L2.lef L H) vs ds
 |_,_,.nil=>.nil
 |_,_,.cons h t=>.cons (DV.unT hp h) (DVs.unT hp t)
theorem DVk.unT(hp:∀b∈L,∃ps,H b=some (.tbl ps)):∀{kvs:List (Key×V)}{es:List (PyData×PyData)},DVk K H kvs es->DVk K (L2.lef L H) kvs es
 |_,_,.nil=>.nil
 |_,_,.cons h t=>.cons (DV.unT hp h) (DVk.unT hp t)
theorem DVf.unT(hp:∀b∈L,∃ps,H b=some (.tbl ps)):∀{fs:List (Str×V)}{es:List (PyData×PyData)},DVf K H fs es->DVf K (L2.lef L H) fs es
 |_,_,.nil=>.nil
 |_,_,.cons e h t=>.cons e (DV.unT hp h) (DVf.unT hp t)
end
end
def tDTb(K:Frag)(T:Addr)(G:Gam):TS:=λD σ H=>SD K H σ G/\H T=some (.tbl #[])/\∀H',D.rt (.bl true) H'
section
variable{T:Addr}{t:CoT}
theorem TC(hN:X.N.Nodup)(hi:X.N[i]?=some x)(hx:Loc X.env.scope x)(h:EV X G e d)(h2:PSs X sts (tDTb X.K T (G.set i (some d))))(hs:swapsWith e (some (.Name x p1)) p4.line X.env=pure false:=by rfl)
  (hf:Zlo X x:=by first|exact .inl rfl|exact .inr rfl|assumption):PSs X (.Assign [.Name x p1] e p4::sts) (tDTb X.K T G):=
 (As (Bn hN hi hx h hs hf) h2).imp λD σ H ⟨h,hT,q⟩=>⟨h,λv H1 s1 dv=>⟨(h.mono s1).set dv,s1 _ _ hT,q⟩⟩
theorem RJ{R:PyData->Prop}(h:EVR X G e R)(hg:PG X tg (gTup X.K is.length (C4 is)))(hR:∀d,R d->∃ds,d=.tuple ds/\is.length=ds.length)(h2:∀ds,R (.tuple ds)->is.length=ds.length->PSs X sts (tDTb X.K T (Gr is ds G)))
  (hs:swapsWithSole [tg] e pos.line X.env=pure false:=by rfl)(hw:swappedStores [tg] e X.env=pure none:=by rfl)(h1:(assignEach [tg] X.env).map (·.2)=[assign tg X.env]:=by rfl):PSs X (.Assign [tg] e pos::sts) (tDTb X.K T G):=by
 have hr:PSs X sts (λD σ H=>∃ds:List PyData,(R (.tuple ds)/\is.length=ds.length)/\tDTb X.K T (Gr is ds G) D σ H):=λpins s σ H D I ⟨ds,r,q⟩=>h2 ds r.1 r.2 pins s σ H D I q
 refine(As (Ez h hg hs hw h1) hr).imp λD σ H ⟨h,hT,q⟩=>⟨h,λd v H1 r s1 d1=>?_⟩
 obtain⟨ds,rfl,hl⟩:=hR d r
 exact(K_ (k:=0) is ds hl).to v σ H1 G _ (h.mono s1) d1 λσ2 h2=>⟨ds,⟨r,hl⟩,h2,s1 _ _ hT,q⟩
theorem Ru(h:PSs X sts (zV X.K (t.L none) (t.I none) [] G (λ_ _ _=>False) (λ_ v _=>v=.bl true))):PSs X sts (tDTb X.K t.T G):=h.imp λD σ H ⟨hσ,hT,q⟩=>by
 refine⟨⟨(λ_ h=>by cases h),hT,hσ.1,λi d e=>?_⟩,λ_ _ _ f=>f.elim,λL' v H' e _=>by rw[e];exact q H'⟩
 obtain⟨v,e1,dv⟩:=hσ.2 i d e
 exact⟨v,e1,DV.unT (λb hb=>⟨#[],by rw[show b=t.T from by simpa[CoT.L,tL]using hb];exact hT⟩) dv⟩
end
section
variable{P:β->Prop}
theorem Ov(h:PE X e (Oe P Lo Io ad)){L:List Addr}{I:Hp->Prop}:PE X e (tNeu X.K L I rs G P Lo Io ad):=h.imp λσ H Q ⟨_,q⟩ w H' hw iw s=>q w H' hw iw s
end
theorem LN{A M M':List Zt}(g:Ges (A++(M++B)))(t:TZ (A++(M++B)) H)(s:Same (lef (LZ M) H) (lef (LZ M') H'))(t':TZ M' H'):TZ (A++(M'++B)) H'/\Same (lef (LZ (A++(M++B))) H) (lef (LZ (A++(M'++B))) H'):=by
 obtain⟨dj,tM,p,al⟩:=TZ.mid2.mp t
 have key:∀z∈A++B,z.2 (lef (LZ M') H'):=λz hz=>by
  have gz:=g z (mem_mid2.mpr (.inr hz))
  refine gz.ok.step (gz.ap (al z hz) (λb hb=>?_) λb hb xs=>?_) s
  .obtain⟨y,hy,h⟩:=mem_LZ.mp hb
   exact dj y hy z hz b h
  .obtain⟨y,hy,h⟩:=mem_LZ.mp hb
   exact(g y (mem_mid2.mpr (.inl hy))).ok.notup (tM.2 y hy) b h xs
 refine⟨TZ.mid2.mpr ⟨λy hy z hz b hb hbz=>(g z (mem_mid2.mpr (.inr hz))).ok.free (key z hz) (A5 (mem_LZ.mpr ⟨y,hy,hb⟩)) hbz,t',p,λz hz=>(g z (mem_mid2.mpr (.inr hz))).ok.step (key z hz) lef_same⟩,λb o e=>?_⟩
 have nb:b∉LZ (A++(M++B)):=λz=>by rw[A5 z]at e;cases e
 rw[An nb]at e
 have e2:=s b o (by rw[An λz=>nb (by obtain⟨y,hy,h⟩:=mem_LZ.mp z;exact mem_LZ.mpr ⟨y,mem_mid2.mpr (.inl hy),h⟩)];exact e)
 have n2:b∉LZ M':=λz=>by rw[A5 z]at e2;cases e2
 rw[An n2]at e2
 rw[An]
 .exact e2
 .intro z
  obtain⟨y,hy,hb⟩:=mem_LZ.mp z
  rcases mem_mid2.mp hy with hy|hy
  .exact n2 (mem_LZ.mpr ⟨y,hy,hb⟩)
  .exact nb (mem_LZ.mpr ⟨y,mem_mid2.mpr (.inr hy),hb⟩)
section
variable{A:List Zt}{P:β->Prop}
theorem EO(g:Ges (A++B))(hN:X.N.Nodup)(hj:X.N[j]?=some y)(hj0:j∉rs.map (·.1))(hy:Loc X.env.scope y)(hG:G[j]?=some none)(h:PE X e (tNeu X.K (LZ (A++B)) (TZ (A++B)) rs G P Lo Io ad))
  (hs:swapsWith e (some (.Name y p1)) p4.line X.env=pure false:=by rfl)
  (hfn:Zlo X y:=by first|exact .inl rfl|exact .inr rfl|assumption):
  PS X (.Assign [.Name y p1] e p4) (zV X.K (LZ (A++B)) (TZ (A++B)) rs G (λL' σ' H'=>∃q:β,P q/\L'=LZ (A++(Lo q,Io q)::B)/\RZ X.K (LZ (A++(Lo q,Io q)::B)) (TZ (A++(Lo q,Io q)::B)) ((j,ad q)::rs) G σ' H') noRt):=by
 refine(Bn hN hj hy h hs hfn).imp λD σ H ⟨r,q,_⟩=>⟨r,λw H1 hw iw s1=>?_⟩
 obtain⟨t1,s1'⟩:=QC (it':=(Lo w,Io w)) g r.2.1 s1 iw
 refine q _ _ _ ⟨w,hw,rfl,λz hz=>?_,t1,QB (r.2.2.mono s1') hG⟩ s1'
 rcases mem_cons.mp hz with e|hz
 .subst e
  exact getElem?_set_self (by rw[r.2.2.1];exact(List.getElem?_eq_some_iff.mp hG).1)
 .rw[getElem?_set_ne λw=>hj0 (mem_map.mpr ⟨z,hz,w.symm⟩)]
  exact r.1 z hz
end
end L2
namespace My
open PySem L2
local macro_rules|`(tactic|walk_at"b1")=>`(tactic|exact Fun.binds (by assumption) λ_ _ _ _ _ _ us hl=>match us,hl with|[_],_=>rfl)
local macro_rules|`(tactic|walk_at"b2")=>`(tactic|exact Fun.binds (by assumption) λ_ _ _ _ _ _ us hl=>match us,hl with|[_,_],_=>rfl)
local macro_rules|`(tactic|walk_at"b3")=>`(tactic|exact Fun.binds (by assumption) λ_ _ _ _ _ _ us hl=>match us,hl with|[_,_,_],_=>rfl)
local macro_rules| `(tactic|walk_at"s")=>`(tactic|exact⟨rfl,rfl,rfl,by decide+kernel,rfl,by decide+kernel,by decide+kernel⟩)
local macro_rules| `(tactic|walk_at"dn")=>`(tactic|first|decide|omega)
local macro_rules| `(tactic|walk_at"od")=>`(tactic|first
 |exact A7|exact Hk|exact Tg|exact O9|exact FA|exact J4|exact U7
 |exact AA (by walk_at"dn")|exact L6 ⟨by walk_at"dn",by walk_at"dn"⟩
 |exact DH (by first|exact inl ⟨by walk_at"dn",by walk_at"dn"⟩|exact inr ⟨by walk_at"dn",by walk_at"dn"⟩)
 |exact SL ⟨by decide,by decide,by decide⟩
 |exact EF (by walk_at"sz")|exact LV (by simp) (by walk_at"sz")
 |exact GQ (.inl rfl) (by rfl) (by rfl) (by rfl)|exact GQ (.inr rfl) (by rfl) (by rfl) (by rfl)
 |exact Hj (.inl rfl) (by rfl) (by rfl) (by rfl)|exact Hj (.inr rfl) (by rfl) (by rfl) (by rfl)
 |exact AZ (by walk_at"un") (by walk_at"cl") (by walk_at"cl") (by walk_at"dp") (by rfl)
 |exact Ct (by walk_at"un") (by walk_at"cl") (by walk_at"cl") (by walk_at"dp") (by rfl))
local macro_rules| `(tactic|walk_at"sz")=>`(tactic|first|decide|(rw[sizeLine_eq];decide)|(rw[sizeLine_eq];simp;done)|(rw[sizeLine_eq];simp;omega)|(rw[sizeLine_eq];omega))
local macro_rules| `(tactic|walk_at"bf")=>`(tactic|(intro h;first|rfl|cases h))
local macro_rules| `(tactic|walk_at"rm")=>`(tactic|exact Room.mono (by assumption) (by decide))
local macro_rules| `(tactic|walk_at"un")=>`(tactic|exact Room.units (by assumption))
local macro_rules| `(tactic|walk_at"cl")=>`(tactic|first|rfl|decide+kernel|(simp[canLay0,canLayAll0];done))
local macro_rules| `(tactic|walk_at"dp")=>`(tactic|first|(simp[depth,depthAll];done)|decide)
local macro_rules| `(tactic|walk_at"rg")=>`(tactic|first|decide|omega)
local macro_rules| `(tactic|walk_at"at")=>`(tactic|first|rfl|exact Bi (by walk_at"dn") (by rfl)|exact AX (by walk_at"dn") (by walk_at"dn"))
local macro_rules| `(tactic|walk_at"cd")=>`(tactic|first|exact Bt|exact QQ|exact Mj (by decide)|exact K3 rfl|exact HJ|exact Pw|exact Pi|exact Ml|exact Tk rfl|exact S5 rfl|exact Pf rfl)
local macro_rules| `(tactic|walk_at"fn")=>`(tactic|first|exact⟨_,rfl,rfl⟩|exact⟨_,_,rfl,rfl⟩|exact⟨_,_,_,rfl,rfl⟩)
def top(i:Nat):Stmt:=PySem.Challenge.pw_likewise_k55_steps_followed.main.body.getD i (.Pass ⟨0,0,0,0⟩)
abbrev Eu:Stmt:=top 8
abbrev Fn:Stmt:=top 9
abbrev CF:Stmt:=top 12
abbrev DK:Stmt:=top 13
abbrev CA:Stmt:=top 14
abbrev Dg:Stmt:=top 15
abbrev Eh:Stmt:=top 16
abbrev DG:Stmt:=top 17
abbrev Fk:Stmt:=top 18
abbrev Ha:Stmt:=top 24
abbrev Dc:Stmt:=top 25
abbrev DJ:Stmt:=top 26
abbrev Hn:Stmt:=top 27
abbrev CY:Stmt:=top 28
abbrev E1:Stmt:=top 29
abbrev E6:Stmt:=top 32
abbrev Cv:Stmt:=top 33
abbrev CS:Stmt:=top 34
abbrev C1:Stmt:=top 35
abbrev C8:Stmt:=top 38
abbrev Dx:Stmt:=top 39
abbrev C9:Stmt:=top 40
abbrev Ew:Stmt:=top 41
abbrev Ey:Stmt:=top 42
abbrev AL:Stmt:=top 43
abbrev El:Stmt:=top 44
abbrev Du:Stmt:=top 45
abbrev Ev:Stmt:=top 46
abbrev Bo:Stmt:=top 47
abbrev Ff:Stmt:=top 48
abbrev Dl:Stmt:=top 49
abbrev PN:Stmt:=top 50
theorem JW:FnScope ["thing","bound"] ["thing","bound"] (Ad Eu):=by walk_at"s"
theorem Lc:FnScope ["thing"] ["thing"] (Ad Fn):=by walk_at"s"
theorem GF:FnScope ["pages"] ["pages"] (Ad CF):=by walk_at"s"
theorem ID:FnScope ["things","many"] ["things","many"] (Ad DK):=by walk_at"s"
theorem GO:FnScope ["pages","cells","boxes","place"] ["pages","cells","boxes","place"] (Ad CA):=by walk_at"s"
theorem Iq:FnScope ["pages","cell","right"] ["pages","cell","right"] (Ad Dg):=by walk_at"s"
theorem Jd:FnScope ["pages","cell"] ["pages","cell"] (Ad Eh):=by walk_at"s"
theorem IR:FnScope ["pages","cell"] ["pages","cell"] (Ad DG):=by walk_at"s"
theorem Lg:FnScope ["pages","cell"] ["pages","cell"] (Ad Fk):=by walk_at"s"
theorem sc_is_row:FnScope ["row","parts","numbers"] ["row"] (Ad Ha):=by walk_at"s"
theorem sc_first_word:FnScope ["row","name","counted"] ["row"] (Ad Dc):=by walk_at"s"
theorem IY:FnScope ["part","first","second"] ["part","first","second"] (Ad DJ):=by walk_at"s"
theorem sc_row_in:FnScope ["first","second","name","row"] ["first","second"] (Ad Hn):=by walk_at"s"
theorem sc_cells_from:FnScope ["first","row"] ["first"] (Ad CY):=by walk_at"s"
theorem Ki:FnScope ["row"] ["row"] (Ad E1):=by walk_at"s"
theorem sc_row_at:FnScope ["pages","cells","place","many","second"] ["pages","cells","place"] (Ad E6):=by walk_at"s"
theorem Iu:FnScope ["name","x","y"] ["name","x","y"] (Ad Cv):=by walk_at"s"
theorem Ll:FnScope ["name","x","y"] ["name","x","y"] (Ad CS):=by walk_at"s"
theorem sc_branch_goes:FnScope ["kind","truths","zero","less"] ["kind","truths"] (Ad C1):=by walk_at"s"
theorem Gy:FnScope ["script","k"] ["script","k"] (Ad C8):=by walk_at"s"
theorem Ix:FnScope ["found"] ["found"] (Ad Dx):=by walk_at"s"
theorem sc_law_numbers:FnScope ["script","at","many","cells","found","cell","rest","turn","k","near"] ["script","at","many"] (Ad C9):=by walk_at"s"
theorem sc_law_kind:FnScope ["number","kinds"] ["number"] (Ad Ew):=by walk_at"s"
theorem JU:FnScope ["word"] ["word"] (Ad Ey):=by walk_at"s"
theorem sc_law_row_words:FnScope ["word","number","to","names","op","x","y","m"] ["word","number","to"] (Ad AL):=by walk_at"s"
theorem sc_law_goal:FnScope ["word","number","places","size","here","some"] ["word","number","places","size"] (Ad El):=by walk_at"s"
theorem sc_law_pages:FnScope ["numbers","many","pages","k","draw"] ["numbers","many"] (Ad Du):=by walk_at"s"
theorem sc_law_laid:FnScope ["numbers","base","size","places","kinds","at","number","word","words"] ["numbers","base","size"] (Ad Ev):=by walk_at"s"
theorem sc_law_program:FnScope ["script","at","numbers","head","many","size","cells","k","draw","base","places","words","boxes","place"] ["script","at"] (Ad Bo):=by walk_at"s"
theorem sc_law_led:FnScope ["machine","most","noted","many","word","place","pair"] ["machine","most","noted"] (Ad Ff):=by walk_at"s"
theorem sc_law_guess:FnScope ["noted","place","best","step","many"] ["noted","place"] (Ad Dl):=by walk_at"s"
theorem sc_law:FnScope ["script","lead","pages","cells","boxes","place","machine","other","counts","noted","most","found","due","step","many","here"] ["script"] (Ad PN):=by walk_at"s"
abbrev Cl:Stmt:=inClass (top 36) 0
theorem FU:FnScope ["self","pages","cells","boxes","place"] ["self","pages","cells","boxes","place"] (Ad Cl):=by walk_at"s"
abbrev BO:Stmt:=inClass (top 36) 1
theorem Fe:FnScope ["self"] ["self"] (Ad BO):=by walk_at"s"
abbrev BN:Stmt:=inClass (top 36) 2
theorem Fs:FnScope ["self"] ["self"] (Ad BN):=by walk_at"s"
abbrev BJ:Stmt:=inClass (top 36) 3
theorem Fl:FnScope ["self"] ["self"] (Ad BJ):=by walk_at"s"
abbrev B6:Stmt:=inClass (top 36) 4
theorem ER:FnScope ["self"] ["self"] (Ad B6):=by walk_at"s"
abbrev BM:Stmt:=inClass (top 36) 5
theorem Fv:FnScope ["self"] ["self"] (Ad BM):=by walk_at"s"
abbrev Cf:Stmt:=inClass (top 36) 6
theorem FK:FnScope ["self"] ["self"] (Ad Cf):=by walk_at"s"
abbrev B_:Stmt:=inClass (top 36) 8
theorem FP:FnScope ["self"] ["self"] (Ad B_):=by walk_at"s"
abbrev BQ:Stmt:=inClass (top 36) 9
theorem Fa:FnScope ["self"] ["self"] (Ad BQ):=by walk_at"s"
abbrev Ck:Stmt:=inClass (top 36) 10
theorem sc_Machine_twin:FnScope ["self","other"] ["self"] (Ad Ck):=by walk_at"s"
abbrev C2:Stmt:=inClass (top 36) 11
theorem Hl:FnScope ["self","boxes","truths","place","more"] ["self","boxes","truths","place","more"] (Ad C2):=by walk_at"s"
abbrev BX:Stmt:=inClass (top 36) 12
theorem FQ:FnScope ["self","cell"] ["self","cell"] (Ad BX):=by walk_at"s"
abbrev BV:Stmt:=inClass (top 36) 13
theorem FL:FnScope ["self","cell","word"] ["self","cell","word"] (Ad BV):=by walk_at"s"
abbrev Ce:Stmt:=inClass (top 36) 14
theorem FS:FnScope ["self","word"] ["self","word"] (Ad Ce):=by walk_at"s"
abbrev Cm:Stmt:=inClass (top 36) 15
theorem sc_Machine_step:FnScope ["self","word","row"] ["self"] (Ad Cm):=by walk_at"s"
abbrev B2:Stmt:=inClass (top 36) 17
theorem Er:FnScope ["self","row"] ["self","row"] (Ad B2):=by walk_at"s"
abbrev Bm:Stmt:=inClass (top 36) 18
theorem DD:FnScope ["self","row"] ["self","row"] (Ad Bm):=by walk_at"s"
abbrev C_:Stmt:=inClass (top 36) 19
theorem sc_Machine_do:FnScope ["self","row","behind"] ["self","row"] (Ad C_):=by walk_at"s"
abbrev Bg:Stmt:=inClass (top 36) 20
theorem Df:FnScope ["self","row","behind"] ["self","row","behind"] (Ad Bg):=by walk_at"s"
abbrev B9:Stmt:=inClass (top 36) 21
theorem sc_Machine_reckon:FnScope ["self","row","name","x","y","one","two","result"] ["self","row"] (Ad B9):=by walk_at"s"
abbrev Cd:Stmt:=inClass (top 36) 22
theorem FR:FnScope ["self","row","behind"] ["self","row","behind"] (Ad Cd):=by walk_at"s"
abbrev C7:Stmt:=inClass (top 1) 0
theorem GB:FnScope ["self"] ["self"] (Ad C7):=by walk_at"s"
abbrev BA:Stmt:=inClass (top 1) 1
theorem sc_Counts_note:FnScope ["self","place","to","led"] ["self","place","to"] (Ad BA):=by walk_at"s"
abbrev Cb:Stmt:=inClass (top 1) 2
theorem FT:FnScope ["self","place","to"] ["self","place","to"] (Ad Cb):=by walk_at"s"
abbrev Ch:Stmt:=inClass (top 1) 3
theorem sc_Counts_guess:FnScope ["self","place","led"] ["self","place"] (Ad Ch):=by walk_at"s"
abbrev BK:Stmt:=inClass (top 1) 4
theorem sc_Counts_follow:FnScope ["self","machine","most","count","here","word"] ["self","machine","most"] (Ad BK):=by walk_at"s"
structure Txt(mg:Str->Option Value):Prop where
 b_len:mg "len"=none
 b_isinstance:mg "isinstance"=none
 b_int:mg "int"=none
 b_bool:mg "bool"=none
 b_all:mg "all"=none
 b_zip:mg "zip"=none
 b_sum:mg "sum"=none
 b_tuple:mg "tuple"=none
 b_list:mg "list"=none
 b_range:mg "range"=none
 b_sorted:mg "sorted"=none
 b_max:mg "max"=none
 c_page_cells:∃t,mg "PAGE_CELLS"=some (.int 16 t)
variable{X:Cx}{G:Gam}{pos:Pos}
theorem Txt.g_page_cells(T:Txt X.mg)(hg:Gl X "PAGE_CELLS"):EV X G (.Name "PAGE_CELLS" pos) (.int 16):=by
 obtain⟨t,h⟩:=T.c_page_cells
 exact Oa hg h
def kinds:List (Str×Str):=[("stop",""),("set","xn"),("move","xy"),("add","xy"),("sub","xy"),("mul","xy"),("and","xy"),("xor","xy"),("cmp","xy"),("load","xym"),("store","xym"),("jump","n"),("branch","kn"),("call","xn"),("back","x"),("out","x")]
def nameL:List Str:=kinds.map (·.1)
def OU:List (Str×PyData):=kinds.map λq=>(q.1,.str q.2)
def B1(c:Nat):Int:=if c=120 then 4 else if c=121 then 4 else if c=107 then 4 else if c=109 then 16 else 4096
def Bx(c:Nat):Int:=if c=120 then 64 else if c=121 then 16 else if c=107 then 1 else if c=109 then 1 else 0
abbrev IZ(c:Nat):Prop:=c=120\/c=121\/c=107\/c=109\/c=110
def Kp:List (Str×PyData):=[("x",.int 4),("y",.int 4),("k",.int 4),("m",.int 16),("n",.int 4096)]
def IC:List (Str×PyData):=[("x",.int 64),("y",.int 16),("k",.int 1),("m",.int 1),("n",.int 0)]
variable{c:Nat}
theorem HL(h:IZ c):((⟨#[c]⟩:Str),int (B1 c))∈Kp:=by
 rcases h with rfl|rfl|rfl|rfl|rfl
 .exact mem_of_getElem? (i:=0) rfl
 .exact mem_of_getElem? (i:=1) rfl
 .exact mem_of_getElem? (i:=2) rfl
 .exact mem_of_getElem? (i:=3) rfl
 .exact mem_of_getElem? (i:=4) rfl
theorem Gq(h:IZ c):((⟨#[c]⟩:Str),int (Bx c))∈IC:=by
 rcases h with rfl|rfl|rfl|rfl|rfl
 .exact mem_of_getElem? (i:=0) rfl
 .exact mem_of_getElem? (i:=1) rfl
 .exact mem_of_getElem? (i:=2) rfl
 .exact mem_of_getElem? (i:=3) rfl
 .exact mem_of_getElem? (i:=4) rfl
theorem Db:∀q∈kinds,∀c∈q.2.cps.toList,IZ c:=by decide+kernel
theorem Dy:∀q∈kinds,strIterType q.2=Co:=by decide+kernel
theorem Dh:∀q∈kinds,q.2.cps.size<=3:=by decide+kernel
variable{q:Str×Str}
theorem Dt(h:q∈kinds):(q.1,str q.2)∈OU:=mem_map.mpr ⟨q,h,rfl⟩
theorem EL:0<=Bx c/\Bx c<=64:=by unfold Bx;repeat' split<;>omega
def BY(ps:Str)(nums:List Int):Bool:=(ps.cps.toList.zip nums).all λq=>decide (0<=q.2)&&decide (q.2<B1 q.1)
def B8(ps:Str)(nums:List Int):Int:=((ps.cps.toList.zip nums).map λq=>Bx q.1*q.2).sum
def rowD(name:Str)(nums:List Int):PyData:=.tuple (.str name::nums.map int)
theorem JR{s:Str}:∀{l:List Str},s∈l->((l.map str).any λe=>eqv e (.str s))=true
 |a::r,h=>by
  rw[map_cons,any_cons]
  rcases mem_cons.mp h with e|e
  .subst e;simp[eqv]
  .rw[JR e,Bool.or_true]
theorem JJ:∀(l:List Str),(l.map str).all CK=true
 |[]=>rfl
 |_::r=>by rw[map_cons,all_cons,JJ r];rfl
structure TxtR(K:Frag)(mg:Str->Option Value)(P:Params):Prop extends Txt mg where
 t_names:GTup K mg "NAMES" nameL
 t_parts:FE K mg P "PARTS" OU
 t_bounds:FE K mg P "BOUNDS" Kp
 t_weights:FE K mg P "WEIGHTS" IC
 t_reck:GTup K mg "RECKONING" ["add","sub","mul","and","xor","cmp"]
variable{P:Program}{w:World}{K:Frag}{mg:Str->Option Value}{base:Heap}{f:Addr}{fd:FuncData}
section
def DM:PyData->Int->Bool
 | .int i,b=>decide (0<=i)&&decide (i<b)
 |_,_=>false
def Cp(ds:List PyData)(d:PyData):Prop:=∃(i b:Int),ds=[.int i,.int b]/\d=.bool (DM (.int i) b)
theorem K9(T:Txt mg)(F:Fun K "is_below" "is_below" Eu f fd)(hm:mg "is_below"=some (.ref f)):DFn P w K mg base 1 "is_below" Cp:=by
 refine F.data hm (by walk_at"b2") JW (λds d ⟨_,_,e,_⟩=>by rw[e];rfl) λcdv A outer s H E ds d hr ⟨t,b,e,e2⟩=>?_
 subst e e2
 exact Af (Ap (Do (Hm (n:="int") (evv 0) rfl T.b_isinstance rfl T.b_int (by decide+kernel) (by rfl)) (λ_=>(Do (I_ (Hm (n:="bool") (evv 0) rfl T.b_isinstance rfl T.b_bool (by decide+kernel) (by rfl))) (λ_=>(Fj (Nj Ab (evv 0) (by walk_at"od") (evv 1) (by walk_at"od")))) (by walk_at"bf"))) (by walk_at"bf")))
def DT(ds:List PyData)(d:PyData):Prop:=∃i:Int,ds=[.int i]/\d=.bool (DM (.int i) 4096)
theorem Sh{tg e:Expr}{ds ds':List PyData}(h:IV X G tg e ds)(q:ds=ds'):IV X G tg e ds':=q▸h
def pairD(q:Nat×Int):PyData:=.tuple [.str ⟨#[q.1]⟩,.int q.2]
theorem Kf(l:List Nat)(nums:List Int):(l.zip (nums.map int)).map zipD=(l.zip nums).map pairD:=by
 rw[List.zip_map_right,map_map]
 rfl
def E8(ds:List PyData)(d:PyData):Prop:=∃q nums,q∈kinds/\nums.length=q.2.cps.size/\ds=[rowD q.1 nums]/\d=.bool (BY q.2 nums)
theorem Lz(name:Str)(nums:List Int):cutD (.str name::nums.map int) (some 1) none=nums.map int:=by
 unfold cutD
 simp[HT.sIx]
 exact take_of_length_le (by simp)
theorem EA(name:Str)(nums:List Int):¬(HT.sIx (str name::nums.map int).length 0 (some 1)=0/\HT.sIx (str name::nums.map int).length (str name::nums.map int).length none=(str name::nums.map int).length):=by
 intro h
 have:=h.1
 simp[HT.sIx]at this
theorem Qs(T:TxtR K mg w.params)(D_is_below:DFn P w K mg base 1 "is_below" Cp)(F:Fun K "is_row" "is_row" Ha f fd)(hm:mg "is_row"=some (.ref f)):DFn P w K mg base 2 "is_row" E8:=by
 refine F.data hm (by walk_at"b1") sc_is_row (λds d ⟨_,_,_,_,e,_⟩=>by rw[e];rfl) λcdv A outer s H E ds d hr ⟨q,nums,hq,hl,e,e2⟩=>?_
 subst e e2
 have hn:q.1∈nameL:=mem_map.mpr ⟨q,hq,rfl⟩
 refine Ai (Av (k:=false) (Aj (AR (B3 (Al (Au "len" (Aa (evv 0) Ac) (by walk_at"cd") rfl T.b_len (by decide+kernel)) Ab (by walk_at"od") (Ak _)) (λ_=>By (Al (A4 (evv 0) Ab (Bi (by decide) rfl)) (IS T.t_names rfl) (Hj (.inr rfl) rfl (JJ _) (by rw[JR hn])) (by with_unfolding_all rfl))))) ?_) nofun (λ_=>At)) ?_
 .simp[eqv]
  omega
 refine Ai (AE (i:=1) sc_is_row.nd rfl (inl rfl) (Bw T.t_parts rfl (A4 (evv 0) Ab (Bi (by decide) rfl)) (Dt hq))) ?_
 refine Ai (AE (i:=2) sc_is_row.nd rfl (inl rfl) (A0 (Kv (evv 0) (BC Ab) FZ (EA q.1 nums)) (by rw[Lz]))) ?_
 have hs:=Dh q hq
 refine Ai (Av (k:=false) (Al (Au "len" (Aa (evv 2) Ac) (by walk_at"cd") rfl T.b_len (by decide+kernel)) (Au "len" (Aa (evv 1) Ac) (Mj (by rw[sizeLine_eq];show q.2.cps.size<=_;omega)) rfl T.b_len (by decide+kernel)) (Ct (by walk_at"un") rfl rfl (by walk_at"dp") ?_) (Ak _)) nofun (λ_=>At)) ?_
 .rw[length_map,hl]
  simp[eqv,Str.length]
 refine Af (Ap (A0 (Au "all" (ds:=[.list (((q.2.cps.toList.zip nums).map λz=>decide (0<=z.2)&&decide (z.2<B1 z.1)).map PyData.bool)]) (Aa (A0 (IP (ix:=[]) (N:=["part","number"]) (B:=PL) (as:=q.2.cps.toList.zip nums) (D:=pairD) (λ_=>true) (λz=>PyData.bool (decide (0<=z.2)&&decide (z.2<B1 z.1))) rfl (of_decide_eq_true (by kernel_rfl)) (Mz (EX (BW (by decide)) (EX (BW (by decide)) Lu)))
  (Sh (P4 (evv 1) (evv 2) (Dy q hq) (by rw[length_map,hl]) rfl T.b_zip) (Kf _ _)) (by rw[length_zip,sizeLine_eq,length_toList];omega) (λ_ _=>Ou _ _) (λ_ _ _ _ _=>Cn rfl (A3 (Ay (i:=0) (show Nodup (["part","number"]:List Str) by decide+kernel) rfl (inl rfl)) (A3 (Ay (i:=1) (show Nodup (["part","number"]:List Str) by decide+kernel) rfl (inl rfl)) Bv))) (λa ha cl C s H fp=>Kn)
  (λa ha hP cl C s H fp=>Aq D_is_below (by walk_at"rm") rfl (Aa (evv 1) (Aa (Bw T.t_bounds rfl (evv 0) (HL (Db q hq a.1 (of_mem_zip ha).1))) Ac)) ⟨_,_,rfl,rfl⟩)) ?_) Ac) (K3 rfl) rfl T.b_all (by decide+kernel)) ?_))
 .rw[Bs,map_map];rfl
 .unfold BY
  rw[all_map]
  rfl
def DR(ds:List PyData)(d:PyData):Prop:=∃(j:Nat) (q:Str×Str) (nums:List Int),kinds[j]?=some q/\nums.length=q.2.cps.size/\ds=[rowD q.1 nums]/\d=.int ((j:Int)*256+B8 q.2 nums)
theorem Ft{j:Nat}(h:kinds[j]?=some q):nameL[j]?=some q.1:=by
 unfold nameL
 rw[getElem?_map,h]
 rfl
theorem names_nodup:nameL.Nodup:=by decide+kernel
theorem JS{j:Nat}{s:Str}(h:nameL[j]?=some s):∀m,m<j->nameL[m]?≠some s:=by
 intro m hm e
 obtain⟨h1,e1⟩:=List.getElem?_eq_some_iff.mp h
 obtain⟨h2,e2⟩:=List.getElem?_eq_some_iff.mp e
 have:=(List.getElem_inj names_nodup).mp (e2.trans e1.symm)
 omega
theorem IE(T:TxtR K mg w.params)(F:Fun K "first_word" "first_word" Dc f fd)(hm:mg "first_word"=some (.ref f)):DFn P w K mg base 1 "first_word" DR:=by
 refine F.data hm (by walk_at"b1") sc_first_word (λds d ⟨_,_,_,_,_,e,_⟩=>by rw[e];rfl) λcdv A outer s H E ds d hr ⟨j,q,nums,hj,hl,e,e2⟩=>?_
 subst e e2
 have hq:q∈kinds:=mem_of_getElem? hj
 have hs:=Dh q hq
 refine Ai (AE (i:=1) sc_first_word.nd rfl (inl rfl) (A4 (evv 0) Ab (Bi (by decide) rfl))) ?_
 refine Ai (G7 (ix:=[]) (N:=["part","number"]) (B:=PL) (as:=q.2.cps.toList.zip nums) (D:=pairD) (λ_=>true) (λz=>int (Bx z.1*z.2)) rfl sc_first_word.nd (i:=2) rfl rfl (of_decide_eq_true (by kernel_rfl)) (Mz (EX (BW (by decide)) (EX (BW (by decide)) Lu)))
  (Sh (P4 (Bw T.t_parts rfl (evv 1) (Dt hq)) (A0 (Kv (evv 0) (BC Ab) FZ (EA q.1 nums)) (by rw[Lz])) (Dy q hq) (by rw[length_map,hl]) rfl T.b_zip) (Kf _ _)) (by rw[length_zip,sizeLine_eq,length_toList];omega) (λ_ _=>Ou _ _) (λ_ _ _ _ _=>Cn rfl (A3 (Ay (i:=0) (show Nodup (["part","number"]:List Str) by decide+kernel) rfl (inl rfl)) (A3 (Ay (i:=1) (show Nodup (["part","number"]:List Str) by decide+kernel) rfl (inl rfl)) Bv))) (λa ha cl C s H fp=>Kn)
  (λa ha hP cl C s H fp=>Ae (Bw T.t_weights rfl (evv 0) (Gq (Db q hq a.1 (of_mem_zip ha).1))) (evv 1) (DH (inl ⟨by have:=EL (c:=a.1);omega,by have:=EL (c:=a.1);omega⟩)))) ?_
 refine Af (Ap (Ae (Ae (Qz T.t_names rfl (evv 1) (Ft hj) (JS (Ft hj))) Ab (by walk_at"od")) (Au "sum" (ds:=[.list (((q.2.cps.toList.zip nums).map λz=>Bx z.1*z.2).map int)]) (Aa (A0 (evv 2) (by rw[Bs,map_map];rfl)) Ac) (Pf rfl) rfl T.b_sum (by decide+kernel)) (by walk_at"od")))
def De(c:Nat)(f s:Int):Int:=if c=110 then s else f/Bx c%B1 c
def Gn(ds:List PyData)(d:PyData):Prop:=∃c f s,IZ c/\ds=[.str ⟨#[c]⟩,.int f,.int s]/\d=.int (De c f s)
theorem Jy(T:TxtR K mg w.params)(F:Fun K "number_in" "number_in" DJ f fd)(hm:mg "number_in"=some (.ref f)):DFn P w K mg base 1 "number_in" Gn:=by
 refine F.data hm (by walk_at"b3") IY (λds d ⟨_,_,_,_,e,_⟩=>by rw[e];rfl) λcdv A outer s H E ds d hr ⟨c,fi,se,hc,e,e2⟩=>?_
 subst e e2
 by_cases h110:c=110
 .subst h110
  exact Af (Av (k:=true) (Al (evv 0) Ar (AZ (by walk_at"un") (by decide+kernel) (by decide+kernel) (by walk_at"dp") (by decide+kernel)) (Ak _)) (λ_=>Af (Ap (A0 (evv 2) rfl))) nofun)
 .have hw:CDiv fi (Bx c):=by
   rcases hc with rfl|rfl|rfl|rfl|rfl
   .exact⟨by decide,by decide⟩
   .exact⟨by decide,by decide⟩
   .exact⟨by decide,by decide⟩
   .exact⟨by decide,by decide⟩
   .exact absurd rfl h110
  have hb:0<B1 c:=by
   rcases hc with rfl|rfl|rfl|rfl|rfl<;>decide
  have hcl:canLay0 (.str ⟨#[c]⟩)=true:=by rcases hc with rfl|rfl|rfl|rfl|rfl<;>decide+kernel
  have hne:eqv (.str ⟨#[c]⟩) (.str "n")=false:=by
   rcases hc with rfl|rfl|rfl|rfl|rfl
   .decide+kernel
   .decide+kernel
   .decide+kernel
   .decide+kernel
   .exact absurd rfl h110
  refine Ai (Av (k:=false) (Al (evv 0) Ar (AZ (by walk_at"un") hcl (by decide+kernel) (by walk_at"dp") hne) (Ak _)) nofun (λ_=>At)) (Af (Ap (A0 (Ae (Ae (evv 1) (Bw T.t_weights rfl (evv 0) (Gq hc)) (L6 hw)) (Bw T.t_bounds rfl (evv 0) (HL hc)) (AA hb)) ?_)))
  unfold De
  rw[if_neg h110]
theorem MR(D_is_below:DFn P w K mg base 1 "is_below" Cp)(F:Fun K "is_word" "is_word" Fn f fd)(hm:mg "is_word"=some (.ref f)):DFn P w K mg base 2 "is_word" DT:=by
 refine F.data hm (by walk_at"b1") Lc (λds d ⟨_,e,_⟩=>by rw[e];rfl) λcdv A outer s H E ds d hr ⟨t,e,e2⟩=>?_
 subst e e2
 exact Af (Ap (Aq D_is_below (by walk_at"rm") rfl (Aa (evv 0) (Aa Ab Ac)) ⟨_,_,rfl,rfl⟩))
def kindOf(f:Int):Str×Str:=kinds.getD (f/256).toNat ("stop","")
def numsOf(f s:Int):List Int:=(kindOf f).2.cps.toList.map λc=>De c f s
def Cz(f s:Int):PyData:=if 0<=f/\f<4096 then(if BY (kindOf f).2 (numsOf f s)=true/\(f/256)*256+B8 (kindOf f).2 (numsOf f s)=f then rowD (kindOf f).1 (numsOf f s)else .none)else .none
def GW(ds:List PyData)(d:PyData):Prop:=∃f s,ds=[.int f,.int s]/\d=Cz f s
theorem GL{f:Int}(h0:0<=f)(h1:f<4096):kinds[(f/256).toNat]?=some (kindOf f):=by
 have h:(f/256).toNat<kinds.length:=by
  have:kinds.length=16:=by decide
  omega
 unfold kindOf
 rw[getD_eq_getElem?_getD,getElem?_eq_getElem h]
 rfl
theorem Pp(T:TxtR K mg w.params)(D_is_word:DFn P w K mg base 2 "is_word" DT)(D_is_row:DFn P w K mg base 2 "is_row" E8)(D_first_word:DFn P w K mg base 1 "first_word" DR)(D_number_in:DFn P w K mg base 1 "number_in" Gn)
  (F:Fun K "row_in" "row_in" Hn f fd)(hm:mg "row_in"=some (.ref f)):DFn P w K mg base 3 "row_in" GW:=by
 refine F.data hm (by walk_at"b2") sc_row_in (λds d ⟨_,_,e,_⟩=>by rw[e];rfl) λcdv A outer s H E ds d hr ⟨fi,se,e,e2⟩=>?_
 subst e e2
 by_cases hw:¬(0<=fi/\fi<4096)
 .have hb:(decide (0<=fi)&&decide (fi<4096))=false:=by
   rw[Bool.eq_false_iff]
   intro z
   rw[and_eq_true]at z
   exact hw ⟨of_decide_eq_true z.1,of_decide_eq_true z.2⟩
  refine Af (Av (k:=true) (Aj (AU (AQ (Aq D_is_word (by walk_at"rm") rfl (Aa (evv 0) Ac) ⟨_,rfl,rfl⟩))) (by rw[show DM (.int fi) 4096=(decide (0<=fi)&&decide (fi<4096))from rfl,hb];rfl)) (λ_=>Af (Ap (A0 DC ?_))) nofun)
  unfold Cz
  rw[if_neg hw]
 obtain⟨h0,h1⟩:=Classical.not_not.mp hw
 have hk:=GL h0 h1
 have hq:kindOf fi∈kinds:=mem_of_getElem? hk
 have hs:=Dh _ hq
 have hll:(numsOf fi se).length=(kindOf fi).2.cps.size:=by unfold numsOf;rw[length_map,length_toList]
 have hjc:(((fi/256).toNat:Nat):Int)=fi/256:=Int.toNat_of_nonneg (by omega)
 refine Ai (Av (k:=false) (Aj (AU (AQ (Aq D_is_word (by walk_at"rm") rfl (Aa (evv 0) Ac) ⟨_,rfl,rfl⟩))) (by rw[show DM (.int fi) 4096=(decide (0<=fi)&&decide (fi<4096))from rfl,decide_eq_true h0,decide_eq_true h1];rfl)) nofun (λ_=>At)) ?_
 refine Ai (AE (i:=2) sc_row_in.nd rfl (by first|exact inl rfl|exact inr rfl) (A4 (IS T.t_names rfl) (Ae (evv 0) Ab (by walk_at"od")) (Bi (d:=.str (kindOf fi).1) (by omega) (by rw[getElem?_map,Ft hk];rfl)))) ?_
 refine Ai (AE (i:=3) sc_row_in.nd rfl (by first|exact inl rfl|exact inr rfl) (A0 (Ae (A9 (Aa (evv 2) Ac) (by walk_at"sz")) (Ex "tuple" (Aa (IP (ix:=[0,1]) (N:=["part","first","second"]) (B:=bind1) (as:=(kindOf fi).2.cps.toList) (D:=Of) (λ_=>true) (λc=>int (De c fi se)) rfl (of_decide_eq_true (by kernel_rfl)) (BW (by decide))
   (Tc (Bw T.t_parts rfl (evv 2) (Dt hq)) (Dy _ hq)) (by rw[sizeLine_eq,length_toList];omega) (λ_ _=>K4 _) (λ_ _ _ _ _=>Ay (i:=0) (show Nodup (["part","first","second"]:List Str) by decide+kernel) rfl (inl rfl)) (λa ha cl C s H fp=>Kn)
   (λa ha hP cl C s H fp=>Aq D_number_in (by walk_at"rm") rfl (Aa (evv 0) (Aa (evv 1) (Aa (evv 2) Ac))) ⟨a,fi,se,Db _ hq a ha,rfl,rfl⟩)) Ac) HJ rfl T.b_tuple (by decide+kernel)) (LV (by simp) (by rw[Bs,sizeLine_eq];simp;omega))) (d':=rowD (kindOf fi).1 (numsOf fi se)) (by rw[Bs];unfold rowD numsOf;rw[map_map];rfl))) ?_
 have hrow:∀ok:Bool,BY (kindOf fi).2 (numsOf fi se)=ok->E8 [rowD (kindOf fi).1 (numsOf fi se)] (.bool ok):=λok h=>⟨_,_,hq,hll,rfl,by rw[h]⟩
 cases hok:BY (kindOf fi).2 (numsOf fi se)with
 |false=>
  refine Af (Av (k:=true) (Aj (AR (B3 (k':=true) (AU (AQ (Aq D_is_row (by walk_at"rm") rfl (Aa (evv 3) Ac) (hrow false hok)))) nofun)) rfl) (λ_=>Af (Ap (A0 DC ?_))) nofun)
  unfold Cz
  rw[if_pos ⟨h0,h1⟩,if_neg (by rw[hok];simp)]
 |true=>
  have hfw:DR [rowD (kindOf fi).1 (numsOf fi se)] (.int (fi/256*256+B8 (kindOf fi).2 (numsOf fi se))):=⟨_,_,_,hk,hll,rfl,by rw[hjc]⟩
  by_cases he:(fi/256)*256+B8 (kindOf fi).2 (numsOf fi se)=fi
  .refine Ai (Av (k:=false) (Aj (AR (B3 (AU (AQ (Aq D_is_row (by walk_at"rm") rfl (Aa (evv 3) Ac) (hrow true hok)))) (λ_=>By (Al (Aq D_first_word (by walk_at"rm") rfl (Aa (evv 3) Ac) hfw) (evv 0) (Ct (k:=false) (by walk_at"un") rfl rfl (by walk_at"dp") (by rw[he];simp[eqv])) (Ak _))))) rfl) nofun (λ_=>At)) (Af (Ap (A0 (evv 3) ?_)))
   unfold Cz
   rw[if_pos ⟨h0,h1⟩,if_pos ⟨hok,he⟩]
  .refine Af (Av (k:=true) (Aj (AR (B3 (AU (AQ (Aq D_is_row (by walk_at"rm") rfl (Aa (evv 3) Ac) (hrow true hok)))) (λ_=>By (Al (Aq D_first_word (by walk_at"rm") rfl (Aa (evv 3) Ac) hfw) (evv 0) (Ct (k:=true) (by walk_at"un") rfl rfl (by walk_at"dp") (by simp[eqv];exact he)) (Ak _))))) rfl) (λ_=>Af (Ap (A0 DC ?_))) nofun)
   unfold Cz
   rw[if_pos ⟨h0,h1⟩,if_neg (λz=>he z.2)]
def hasN(ps:Str):Bool:=ps.cps.toList.any λc=>c==110
theorem LH:∀q∈kinds,(!(Builtin.Str.occurrences q.2 "n" 0 q.2.length 1).isEmpty)=hasN q.2:=by decide+kernel
theorem MW:∀q∈kinds,hasN q.2=true->0<q.2.cps.size:=by decide+kernel
def wordsOf(j:Nat)(ps:Str)(nums:List Int):List Int:=if hasN ps=true then[(j:Int)*256+B8 ps nums,nums.getLastD 0]else[(j:Int)*256+B8 ps nums]
def Jc(ds ws:List PyData):Prop:=∃(j:Nat) (q:Str×Str) (nums:List Int),kinds[j]?=some q/\nums.length=q.2.cps.size/\BY q.2 nums=true/\ds=[rowD q.1 nums]/\ws=(wordsOf j q.2 nums).map int
theorem IH{name:Str}{nums:List Int}(h:0<nums.length):atI (str name::nums.map int) (-1)=some (.int (nums.getLastD 0)):=by
 obtain⟨l,z,rfl⟩:∃l z,nums=l++[z]:=⟨nums.dropLast,nums.getLast (by intro e;rw[e]at h;cases h),(List.dropLast_concat_getLast _).symm⟩
 have e:str name::(l++[z]).map int=(str name::l.map int)++[.int z]:=by simp
 rw[e,Oi]
 simp
theorem K6(T:TxtR K mg w.params)(D_is_row:DFn P w K mg base 2 "is_row" E8)(D_first_word:DFn P w K mg base 1 "first_word" DR)(F:Fun K "cells_of" "cells_of" E1 f fd)(hm:mg "cells_of"=some (.ref f)):FFn P w K mg base 3 "cells_of" Jc:=by
 refine F.dataF hm (by walk_at"b1") Ki (λds d ⟨_,_,_,_,_,_,e,_⟩=>by rw[e];rfl) λcdv A outer s H E ds ws hr ⟨j,q,nums,hj,hl,hok,e,e2⟩=>?_
 subst e e2
 have hq:q∈kinds:=mem_of_getElem? hj
 refine Mp (Av (k:=false) (AU (k:=true) (AQ (Aq D_is_row (by walk_at"rm") rfl (Aa (evv 0) Ac) ⟨_,_,hq,hl,rfl,by rw[hok]⟩))) nofun (λ_=>At)) ?_
 have hfw:DR [rowD q.1 nums] (.int ((j:Int)*256+B8 q.2 nums)):=⟨_,_,_,hj,hl,rfl,rfl⟩
 cases hn:hasN q.2 with
 |true=>
  have hp:=MW q hq hn
  refine T7 (Al Ar (Bw T.t_parts rfl (A4 (evv 0) Ab (Bi (by decide) rfl)) (Dt hq)) (NU ((LH q hq).trans hn)) (by with_unfolding_all rfl)) ?_
  have e:(wordsOf j q.2 nums).map int=[.int ((j:Int)*256+B8 q.2 nums),.int (nums.getLastD 0)]:=by unfold wordsOf;rw[if_pos hn];rfl
  rw[e]
  exact Oy (Aa (Aq D_first_word (by walk_at"rm") rfl (Aa (evv 0) Ac) hfw) (Aa (A4 (evv 0) (Qg Ab) (IH (by omega))) Ac)) (by walk_at"sz")
 |false=>
  refine Mp (Av (k:=false) (Al Ar (Bw T.t_parts rfl (A4 (evv 0) Ab (Bi (by decide) rfl)) (Dt hq)) (NU ((LH q hq).trans hn)) (by with_unfolding_all rfl)) nofun (λ_=>At)) ?_
  have e:(wordsOf j q.2 nums).map int=[.int ((j:Int)*256+B8 q.2 nums)]:=by unfold wordsOf;rw[if_neg (by rw[hn];simp)];rfl
  rw[e]
  exact Oy (Aa (Aq D_first_word (by walk_at"rm") rfl (Aa (evv 0) Ac) hfw) Ac) (by walk_at"sz")
abbrev FD(f s:Int):Prop:=BY (kindOf f).2 (numsOf f s)=true/\(f/256)*256+B8 (kindOf f).2 (numsOf f s)=f
theorem GI{f s:Int}(h0:0<=f)(h1:f<4096)(h:FD f s):Cz f s=rowD (kindOf f).1 (numsOf f s):=by
 unfold Cz
 rw[if_pos ⟨h0,h1⟩,if_pos h]
theorem MU{f s:Int}(h:¬(0<=f/\f<4096/\FD f s)):Cz f s=.none:=by
 unfold Cz
 by_cases hw:0<=f/\f<4096
 .rw[if_pos hw,if_neg λz=>h ⟨hw.1,hw.2,z⟩]
 .rw[if_neg hw]
def C3(f:Int):Int:=if 0<=f/\f<4096/\FD f 0 then(if hasN (kindOf f).2=true then 2 else 1)else 0
def Oj(ds:List PyData)(d:PyData):Prop:=∃f,ds=[.int f]/\d=.int (C3 f)
theorem IN(T:TxtR K mg w.params)(D_row_in:DFn P w K mg base 3 "row_in" GW)(D_cells_of:DFn P w K mg base 3 "cells_of" (λds d=>∃ws,Jc ds ws/\d=.list ws))(F:Fun K "cells_from" "cells_from" CY f fd)(hm:mg "cells_from"=some (.ref f)):DFn P w K mg base 4 "cells_from" Oj:=by
 refine F.data hm (by walk_at"b1") sc_cells_from (λds d ⟨_,e,_⟩=>by rw[e];rfl) λcdv A outer s H E ds d hr ⟨fi,e,e2⟩=>?_
 subst e e2
 refine Ai (AE (i:=1) sc_cells_from.nd rfl (inl rfl) (Aq D_row_in (by walk_at"rm") rfl (Aa (evv 0) (Aa Ab Ac)) ⟨fi,0,rfl,rfl⟩)) ?_
 by_cases hg:0<=fi/\fi<4096/\FD fi 0
 .obtain⟨h0,h1,h2⟩:=id hg
  rw[GI h0 h1 h2]
  have hk:=GL h0 h1
  have hll:(numsOf fi 0).length=(kindOf fi).2.cps.size:=by unfold numsOf;rw[length_map,length_toList]
  refine Ai (Av (k:=false) (CU (evv 1) rfl) nofun (λ_=>At)) (Af (Ap (A0 (Au "len" (Aa (Aq D_cells_of (by walk_at"rm") rfl (Aa (evv 1) Ac) ⟨_,⟨_,_,_,hk,hll,h2.1,rfl,rfl⟩,rfl⟩) Ac) Bt rfl T.b_len (by decide+kernel)) ?_)))
  unfold C3 wordsOf
  rw[if_pos hg,length_map]
  cases hasN (kindOf fi).2<;>rfl
 .rw[MU hg]
  refine Af (Av (k:=true) (CU (evv 1) rfl) (λ_=>Af (Ap (A0 Ab ?_))) nofun)
  unfold C3
  rw[if_neg hg]
def AJ(q:Bool×Bool×Bool):PyData:=.tuple [.bool q.1,.bool q.2.1,.bool q.2.2]
def Sk(q:Bool×Bool×Bool)(r:Int):Bool:=if r=0 then q.1 else if r=1 then q.2.1 else q.2.2
def AK(ps:List (Bool×Bool×Bool))(c r:Int):Bool:=decide (0<=c)&&decide (c<16*(ps.length:Int))&&Sk (ps.getD (c/16).toNat (false,false,false)) r
theorem Ob{ps:List (Bool×Bool×Bool)}{i:Int}(h0:0<=i)(h:i<ps.length):atI (ps.map AJ) i=some (AJ (ps.getD i.toNat (false,false,false))):=by
 have hi:i.toNat<ps.length:=by omega
 exact Bi h0 (by simp[hi])
theorem RF{q:Bool×Bool×Bool}{r:Int}(h0:0<=r)(h1:r<3):atI [PyData.bool q.1,.bool q.2.1,.bool q.2.2] r=some (.bool (Sk q r)):=by
 have h:r=0\/r=1\/r=2:=by omega
 rcases h with rfl|rfl|rfl<;>rfl
def Cw(ds:List PyData)(d:PyData):Prop:=∃ps c r,ds=[.list (ps.map AJ),.int c,.int r]/\ps.length<=8/\0<=r/\r<3/\d=.bool (AK ps c r)
theorem Je(T:Txt mg)(D_is_below:DFn P w K mg base 1 "is_below" Cp)(F:Fun K "has_right" "has_right" Dg f fd)(hm:mg "has_right"=some (.ref f)):DFn P w K mg base 2 "has_right" Cw:=by
 refine F.data hm (by walk_at"b3") Iq (λds d ⟨_,_,_,e,_⟩=>by rw[e];rfl) λcdv A outer s H E ds d hr ⟨ps,c,r,e,hp,h0,h1,e2⟩=>?_
 subst e e2
 have hlm:((map AJ ps).length:Int)=ps.length:=by rw[length_map]
 by_cases hc:0<=c/\c<16*(ps.length:Int)
 .obtain⟨hc0,hc1⟩:=hc
  have i0:0<=c/16:=by omega
  have i1:c/16<ps.length:=by omega
  refine Af (Ap (Do (k:=true) (A0 (Aq D_is_below (by walk_at"rm") rfl (Aa (evv 1) (Aa (Ae (T.g_page_cells rfl) (Au "len" (Aa (evv 0) Ac) (by walk_at"cd") rfl T.b_len (by decide+kernel)) (by walk_at"od")) Ac)) (by walk_at"fn")) (by rw[hlm,show DM (.int c) (16*(ps.length:Int))=(decide (0<=c)&&decide (c<16*(ps.length:Int)))from rfl,decide_eq_true hc0,decide_eq_true hc1];rfl)) (λ_=>Fj ?_) nofun))
  refine A0 (A4 (A0 (A1 (evv 0) (Ae (evv 1) (T.g_page_cells rfl) (by walk_at"od")) (Ob i0 i1)) (show _=tuple [_,_,_]from rfl)) (evv 2) (RF h0 h1)) ?_
  unfold AK
  rw[decide_eq_true hc0,decide_eq_true hc1]
  rfl
 .have hb:(decide (0<=c)&&decide (c<16*(ps.length:Int)))=false:=by
   rw[Bool.eq_false_iff]
   intro z
   rw[and_eq_true]at z
   exact hc ⟨of_decide_eq_true z.1,of_decide_eq_true z.2⟩
  refine Af (Ap (Do (k:=false) (A0 (Aq D_is_below (by walk_at"rm") rfl (Aa (evv 1) (Aa (Ae (T.g_page_cells rfl) (Au "len" (Aa (evv 0) Ac) (by walk_at"cd") rfl T.b_len (by decide+kernel)) (by walk_at"od")) Ac)) (by walk_at"fn")) (by rw[hlm,show DM (.int c) (16*(ps.length:Int))=(decide (0<=c)&&decide (c<16*(ps.length:Int)))from rfl,hb])) nofun (λ_=>?_)))
  unfold AK
  rw[hb]
  rfl
def Gx(r:Int)(ds:List PyData)(d:PyData):Prop:=∃ps c,ds=[.list (ps.map AJ),.int c]/\ps.length<=8/\d=.bool (AK ps c r)
theorem Ln(D_has_right:DFn P w K mg base 2 "has_right" Cw)(F:Fun K "may_read" "may_read" Eh f fd)(hm:mg "may_read"=some (.ref f)):DFn P w K mg base 3 "may_read" (Gx 0):=by
 refine F.data hm (by walk_at"b2") Jd (λds d ⟨_,_,e,_⟩=>by rw[e];rfl) λcdv A outer s H E ds d hr ⟨ps,c,e,hp,e2⟩=>?_
 subst e e2
 exact Af (Ap (Aq D_has_right (by walk_at"rm") rfl (Aa (evv 0) (Aa (evv 1) (Aa Ab Ac))) ⟨ps,c,0,rfl,hp,by decide,by decide,rfl⟩))
theorem Jx(D_has_right:DFn P w K mg base 2 "has_right" Cw)(F:Fun K "may_write" "may_write" DG f fd)(hm:mg "may_write"=some (.ref f)):DFn P w K mg base 3 "may_write" (Gx 1):=by
 refine F.data hm (by walk_at"b2") IR (λds d ⟨_,_,e,_⟩=>by rw[e];rfl) λcdv A outer s H E ds d hr ⟨ps,c,e,hp,e2⟩=>?_
 subst e e2
 exact Af (Ap (Aq D_has_right (by walk_at"rm") rfl (Aa (evv 0) (Aa (evv 1) (Aa Ab Ac))) ⟨ps,c,1,rfl,hp,by decide,by decide,rfl⟩))
theorem MF(D_has_right:DFn P w K mg base 2 "has_right" Cw)(F:Fun K "may_run" "may_run" Fk f fd)(hm:mg "may_run"=some (.ref f)):DFn P w K mg base 3 "may_run" (Gx 2):=by
 refine F.data hm (by walk_at"b2") Lg (λds d ⟨_,_,e,_⟩=>by rw[e];rfl) λcdv A outer s H E ds d hr ⟨ps,c,e,hp,e2⟩=>?_
 subst e e2
 exact Af (Ap (Aq D_has_right (by walk_at"rm") rfl (Aa (evv 0) (Aa (evv 1) (Aa Ab Ac))) ⟨ps,c,2,rfl,hp,by decide,by decide,rfl⟩))
local macro_rules| `(tactic|walk_at"nk")=>`(tactic|first|decide|(simp only[map_append,map_cons,map_nil,List.nil_append,cons_append,length_append,length_cons,length_nil];decide))
def okW(l:List Int):Bool:=l.all λi=>decide (0<=i)&&decide (i<4096)
def Si(ds:List PyData)(d:PyData):Prop:=∃(l:List Int) (m:Int),l.length<=100000/\ds=[.list (l.map int),.int m]/\d=.bool (decide ((l.length:Int)=m)&&okW l)
theorem Bk(i j:Int):eqv (.int i) (.int j)=decide (i=j):=by
 simp only[eqv]
 rfl
theorem JZ(T:Txt mg)(D_is_word:DFn P w K mg base 2 "is_word" DT)(F:Fun K "are_words" "are_words" DK f fd)(hm:mg "are_words"=some (.ref f)):DFn P w K mg base 3 "are_words" Si:=by
 refine F.data hm (by walk_at"b2") ID (λds d ⟨_,_,_,e,_⟩=>by rw[e];rfl) λcdv A outer s H E ds d hr ⟨l,m,hl,e,e2⟩=>?_
 subst e e2
 refine Af (Ap (Do (k:=decide ((l.length:Int)=m)) (A0 (BP (Au "len" (Aa (evv 0) Ac) (by walk_at"cd") rfl T.b_len (by decide+kernel)) (evv 1) (by walk_at"od") (Ak _)) (by rw[Bk,length_map])) (λh=>Fj (A0 (Au "all" (ds:=[.list ((l.map λi=>decide (0<=i)&&decide (i<4096)).map PyData.bool)]) (Aa (A0 (IP (ix:=[]) (N:=["thing"]) (B:=bind1) (as:=l) (D:=int) (λ_=>true) (λi=>PyData.bool (decide (0<=i)&&decide (i<4096))) rfl (of_decide_eq_true (by kernel_rfl)) (BW (by decide)) (Iy (evv 0)) (by rw[sizeLine_eq];omega) (λ_ _=>K4 _) (λ_ _ _ _ _=>Ay (i:=0) (show Nodup (["thing"]:List Str) by decide+kernel) rfl (inl rfl)) (λa ha cl C s H fp=>Kn) (λa ha hP cl C s H fp=>Aq D_is_word (by walk_at"rm") rfl (Aa (evv 0) Ac) ⟨a,rfl,rfl⟩)) (by rw[Bs,map_map];rfl)) Ac) (K3 rfl) rfl T.b_all (by decide+kernel)) ?_)) ?_))
 .rw[h,Bool.true_and,all_map]
  rfl
 .intro h
  rw[h]
  rfl
theorem J9(n:Nat):(decide ((1:Int)<=(n:Int))&&decide ((n:Int)<=8))=decide (1<=n/\n<=8):=by
 by_cases h1:1<=n<;>by_cases h2:n<=8<;>simp[h1,h2]<;>omega
structure MS where
 pg:List (Bool×Bool×Bool)
 mem:List Int
 bx:List Int
 here:Int
 tz:Bool
 tl:Bool
 told:List Int
 sto:List Int
 done:Int
structure MsOk(S:MS):Prop where
 p1:1<=S.pg.length
 p8:S.pg.length<=8
 ml:S.mem.length=16*S.pg.length
 mw:∀z∈S.mem,0<=z/\z<4096
 bl:S.bx.length=4
 bw:∀z∈S.bx,0<=z/\z<4096
 h:0<=S.here/\S.here<4096
def lfM(S:MS):LF:=[("rights",S.pg.map AJ),("memory",S.mem.map int),("box_words",S.bx.map int),("told_words",S.told.map int),("stored_cells",S.sto.map int)]
def dfM(S:MS):DF:=[("here",.int S.here),("truth_pair",.tuple [.bool S.tz,.bool S.tl]),("done_count",.int S.done)]
abbrev mcD(C:Addr)(S:MS):PyData:=objD C (fldD (lfM S) (dfM S))
theorem Og{l:List Int}(h:∀z∈l,0<=z/\z<4096):okW l=true:=by
 unfold okW
 rw[all_eq_true]
 intro z hz
 rw[and_eq_true,decide_eq_true_iff,decide_eq_true_iff]
 exact h z hz
theorem Hu(T:Txt mg)(F:Fun K "check_pages" "check_pages" CF f fd)(hm:mg "check_pages"=some (.ref f)):DFn P w K mg base 1 "check_pages" (λds d=>(∃ps:List PyData,1<=ps.length/\ps.length<=8/\ds=[.list ps])/\d=.none):=by
 refine F.dataN hm (by walk_at"b1") GF (λds ⟨_,_,_,e⟩=>by rw[e];rfl) λcdv A outer s H E ds hr ⟨ps,h1,h8,e⟩=>?_
 subst e
 refine⟨_,Ai (Av (k:=false) (AU (k:=true) (Aj (Nk FA FA Ab (Au "len" (Aa (evv 0) Ac) (by walk_at"cd") rfl T.b_len (by decide+kernel)) Ab) ?_)) nofun (λ_=>At)) At⟩
 rw[J9]
 exact decide_eq_true ⟨h1,h8⟩
def Sj(ds:List PyData):Prop:=∃S:MS,MsOk S/\ds=[.list (S.pg.map AJ),.list (S.mem.map int),.list (S.bx.map int),.int S.here]
theorem HA(T:Txt mg)(D_check_pages:DFn P w K mg base 1 "check_pages" (λds d=>(∃ps:List PyData,1<=ps.length/\ps.length<=8/\ds=[.list ps])/\d=.none))(D_are_words:DFn P w K mg base 3 "are_words" Si)(D_is_word:DFn P w K mg base 2 "is_word" DT)(F:Fun K "check_state" "check_state" CA f fd)(hm:mg "check_state"=some (.ref f)):DFn P w K mg base 4 "check_state" (λds d=>Sj ds/\d=.none):=by
 refine F.dataN hm (F.binds λ_ _ _ _ _ _ us hl=>match us,hl with|[_,_,_,_],_=>rfl) GO (λds ⟨_,_,e⟩=>by rw[e];rfl) λcdv A outer s H E ds hr ⟨S,ok,e⟩=>?_
 subst e
 have hlm:((S.pg.map AJ).length:Int)=S.pg.length:=by rw[length_map]
 have h1:(decide ((S.mem.length:Int)=16*((S.pg.map AJ).length:Int))&&okW S.mem)=true:=by rw[hlm,Og ok.mw,decide_eq_true (by have:=ok.ml;omega)];rfl
 have h2:(decide ((S.bx.length:Int)=4)&&okW S.bx)=true:=by rw[Og ok.bw,decide_eq_true (by have:=ok.bl;omega)];rfl
 have h3:DM (.int S.here) 4096=true:=by simpa[DM]using ok.h
 have l1:S.mem.length<=100000:=by have:=ok.ml;have:=ok.p8;omega
 have l2:S.bx.length<=100000:=by have:=ok.bl;omega
 refine⟨AT ["pages","cells","boxes","place"] [.list (S.pg.map AJ),.list (S.mem.map int),.list (S.bx.map int),.int S.here],Ai (QS (Aq D_check_pages (d:=.none) (by walk_at"rm") rfl (Aa (evv 0) Ac) ⟨⟨_,by rw[length_map];exact ok.p1,by rw[length_map];exact ok.p8,rfl⟩,rfl⟩)) ?_⟩
 refine Ai (Av (k:=false) (AU (k:=true) (AQ (Aq D_are_words (by walk_at"rm") rfl (Aa (evv 1) (Aa (Ae (T.g_page_cells rfl) (Au "len" (Aa (evv 0) Ac) (by walk_at"cd") rfl T.b_len (by decide+kernel)) (by walk_at"od")) Ac)) ⟨S.mem,_,l1,rfl,by rw[h1]⟩))) nofun (λ_=>At)) ?_
 refine Ai (Av (k:=false) (AU (k:=true) (AQ (Aq D_are_words (by walk_at"rm") rfl (Aa (evv 2) (Aa Ab Ac)) ⟨S.bx,_,l2,rfl,by rw[h2]⟩))) nofun (λ_=>At)) ?_
 exact Ai (Av (k:=false) (AU (k:=true) (AQ (Aq D_is_word (by walk_at"rm") rfl (Aa (evv 3) Ac) ⟨_,rfl,by rw[h3]⟩))) nofun (λ_=>At)) At
structure ClsM(K:Frag)(mg:Str->Option Value)(C:Addr):Prop where
 cl:Cls K C
 n0:NoAttr K C "rights"
 n1:NoAttr K C "memory"
 n2:NoAttr K C "box_words"
 n3:NoAttr K C "here"
 n4:NoAttr K C "truth_pair"
 n5:NoAttr K C "told_words"
 n6:NoAttr K C "stored_cells"
 n7:NoAttr K C "done_count"
 at_:mg "Machine"=some (.ref C)
theorem BF:∀l:List Int,noLs (l.map int)=true
 |[]=>rfl
 |x::r=>by rw[map_cons];unfold noLs;rw[BF r];rfl
theorem HH:∀l:List (Bool×Bool×Bool),noLs (l.map AJ)=true
 |[]=>rfl
 |x::r=>by rw[map_cons];unfold noLs;rw[HH r];rfl
def RC(ds:List PyData)(lf:LF)(df:DF):Prop:=∃S:MS,MsOk S/\S.tz=false/\S.tl=false/\S.told=[]/\S.sto=[]/\S.done=0/\ds=[.list (S.pg.map AJ),.list (S.mem.map int),.list (S.bx.map int),.int S.here]/\lf=lfM S/\df=dfM S
theorem SG(T:Txt mg){C:Addr}(CM:ClsM K mg C)(D_check_state:DFn P w K mg base 4 "check_state" (λds d=>Sj ds/\d=.none))(F:Fun K "__init__" "Machine.__init__" Cl f fd)(hm:Mk K C f):OIFn P w K mg base 5 C RC:=by
 refine F.objI hm (F.binds λ_ _ _ _ _ _ us hl=>match us,hl with|[_,_,_,_,_],_=>rfl) FU (λds lf df ⟨_,_,_,_,_,_,_,e,_⟩=>by rw[e];rfl) λcdv A outer s H E a dx H0 ds lf df hr ⟨S,ok,e1,e2,e3,e4,e5,e,e6,e7⟩=>?_
 subst e e6 e7
 have ef:lfM S=([("rights",S.pg.map AJ),("memory",S.mem.map int),("box_words",S.bx.map int),("told_words",[]),("stored_cells",[])]:LF):=by unfold lfM;rw[e3,e4];rfl
 have ed:dfM S=([("here",.int S.here),("truth_pair",.tuple [.bool false,.bool false]),("done_count",.int 0)]:DF):=by unfold dfM;rw[e1,e2,e5]
 rw[ef,ed]
 have l1:S.mem.length<=100000:=by have:=ok.ml;have:=ok.p8;omega
 refine B0 (QD (Aq D_check_state (d:=.none) (by walk_at"rm") rfl (Aa (evv 1) (Aa (evv 2) (Aa (evv 3) (Aa (evv 4) Ac)))) ⟨⟨S,ok,rfl⟩,rfl⟩)) ?_
 refine B0 (G_ CM.cl CM.n0 (pv 0) (AS (evv 1) rfl T.b_list) (HH _) (by walk_at"nk") (by walk_at"nk") (by decide) (by walk_at"nk")) ?_
 refine B0 (G_ CM.cl CM.n1 (pv 0) (AS (evv 2) rfl T.b_list) (BF _) (by walk_at"nk") (by walk_at"nk") (by decide) (by walk_at"nk")) ?_
 refine B0 (G_ CM.cl CM.n2 (pv 0) (AS (evv 3) rfl T.b_list) (BF _) (by walk_at"nk") (by walk_at"nk") (by decide) (by walk_at"nk")) ?_
 refine B0 (Lq CM.cl CM.n3 (pv 0) (evv 4) rfl (by walk_at"nk") (by walk_at"nk") (by decide) (by walk_at"nk")) ?_
 refine B0 (Lq CM.cl CM.n4 (pv 0) (A9 (ds:=[.bool false,.bool false]) (Aa So (Aa So Ac)) (by walk_at"sz")) rfl (by walk_at"nk") (by walk_at"nk") (by decide) (by walk_at"nk")) ?_
 refine B0 (G_ CM.cl CM.n5 (pv 0) (ES (ws:=[]) Ac (by walk_at"sz")) rfl (by walk_at"nk") (by walk_at"nk") (by decide) (by walk_at"nk")) ?_
 refine B0 (G_ CM.cl CM.n6 (pv 0) (ES (ws:=[]) Ac (by walk_at"sz")) rfl (by walk_at"nk") (by walk_at"nk") (by decide) (by walk_at"nk")) ?_
 exact B0 (Lq CM.cl CM.n7 (pv 0) Ab rfl (by walk_at"nk") (by walk_at"nk") (by decide) (by walk_at"nk")) QE
end
variable{C:Addr}{S:MS}{x:Str}{pos2:Pos}{e:Expr}
section
theorem Tz{i j:Int}:OD X (binaryOp .BitAnd) (.int i) (.int j) (.int (Builtin.bitAnd i j)):=DN SE λH=>.int _
theorem JP{α:Type}(l:List Nat)(g:Nat->α)(p:Nat×α->Bool):(l.zip (l.map g)).all p=l.all λc=>p (c,g c):=by
 induction l with
 |nil=>rfl
 |cons x r ih=>rw[map_cons,zip_cons_cons,all_cons,all_cons,ih]
theorem JH{α β:Type}(l:List Nat)(g:Nat->α)(p:Nat×α->β):(l.zip (l.map g)).map p=l.map λc=>p (c,g c):=by
 induction l with
 |nil=>rfl
 |cons x r ih=>rw[map_cons,zip_cons_cons,map_cons,map_cons,ih]
theorem JB{f s:Int}(s0:0<=s)(s1:s<4096)(h:FD f 0):FD f s:=by
 obtain⟨h1,h2⟩:=h
 refine⟨?_,?_⟩
 .rw[<-h1]
  unfold BY numsOf
  rw[JP,JP]
  congr 1
  funext c
  by_cases hc:c=110
  .subst hc
   show(decide (0<=s)&&decide (s<4096))=(decide ((0:Int)<=0)&&decide ((0:Int)<4096))
   rw[decide_eq_true s0,decide_eq_true s1]
   rfl
  .show(decide (0<=De c f s)&&decide (De c f s<B1 c))=(decide (0<=De c f 0)&&decide (De c f 0<B1 c))
   unfold De
   rw[if_neg hc,if_neg hc]
 .have e:B8 (kindOf f).2 (numsOf f s)=B8 (kindOf f).2 (numsOf f 0):=by
   unfold B8 numsOf
   rw[JH,JH]
   congr 1
   refine map_congr_left λc _=>?_
   by_cases hc:c=110
   .subst hc
    show(0:Int)*s=0*0
    omega
   .show Bx c*De c f s=Bx c*De c f 0
    unfold De
    rw[if_neg hc,if_neg hc]
  rw[e]
  exact h2
def Bu(m:List Int)(p:Int):Int:=m.getD p.toNat 0
def Et(pg:List (Bool×Bool×Bool))(m:List Int)(p:Int):PyData:=
 if AK pg p 2=false then .tuple [.str "run",.none]
 else if C3 (Bu m p)=0 then .tuple [.str "row",.none]
 else if C3 (Bu m p)=1 then .tuple [.str "",Cz (Bu m p) 0]
 else if AK pg ((p+1)%4096) 2=false then .tuple [.str "run",.none]
 else .tuple [.str "",Cz (Bu m p) (Bu m ((p+1)%4096))]
theorem Gk{pg:List (Bool×Bool×Bool)}{c r:Int}(h:AK pg c r=true):0<=c/\c<16*(pg.length:Int):=by
 unfold AK at h
 rw[and_eq_true,and_eq_true,decide_eq_true_iff,decide_eq_true_iff]at h
 exact h.1
theorem NP{S:MS}(ok:MsOk S)(p:Int):0<=Bu S.mem p/\Bu S.mem p<4096:=by
 unfold Bu
 rw[getD_eq_getElem?_getD]
 cases e:S.mem[p.toNat]? with
 |none=>exact show(0:Int)<=0/\(0:Int)<4096 by decide
 |some y=>exact ok.mw y (mem_of_getElem? e)
theorem Nf{f:Int}(h:C3 f≠0):0<=f/\f<4096/\FD f 0:=by
 unfold C3 at h
 by_cases g:0<=f/\f<4096/\FD f 0
 .exact g
 .rw[if_neg g]at h;exact absurd rfl h
def IsRow(q:Str×Str)(nums:List Int)(j:Nat):Prop:=kinds[j]?=some q/\nums.length=q.2.cps.size/\BY q.2 nums=true
theorem HQ{S:MS}(ok:MsOk S)(p:Int):(∃wd:Str,(wd="run"\/wd="row")/\Et S.pg S.mem p=.tuple [.str wd,.none])\/∃j q nums,IsRow q nums j/\Et S.pg S.mem p=.tuple [.str "",rowD q.1 nums]:=by
 unfold Et
 split
 .exact .inl ⟨_,.inl rfl,rfl⟩
 .split
  .exact .inl ⟨_,.inr rfl,rfl⟩
  .rename_i hm
   obtain⟨f0,f1,fg⟩:=Nf hm
   have row:∀s,0<=s->s<4096->∃j q nums,IsRow q nums j/\tuple [.str "",Cz (Bu S.mem p) s]=.tuple [.str "",rowD q.1 nums]:=λs s0 s1=>by
    have g:=JB s0 s1 fg
    exact⟨_,_,_,⟨GL f0 f1,by unfold numsOf;rw[length_map,length_toList],g.1⟩,by rw[GI f0 f1 g]⟩
   split
   .exact .inr (row 0 (by decide) (by decide))
   .split
    .exact .inl ⟨_,.inl rfl,rfl⟩
    .exact .inr (row _ (NP ok _).1 (NP ok _).2)
def Sq(ds:List PyData)(d:PyData):Prop:=∃S:MS,MsOk S/\ds=[.list (S.pg.map AJ),.list (S.mem.map int),.int S.here]/\d=Et S.pg S.mem S.here
theorem NS(T:Txt mg)(D_may_run:DFn P w K mg base 3 "may_run" (Gx 2))(D_cells_from:DFn P w K mg base 4 "cells_from" Oj)(D_row_in:DFn P w K mg base 3 "row_in" GW)(F:Fun K "row_at" "row_at" E6 f fd)(hm:mg "row_at"=some (.ref f)):DFn P w K mg base 5 "row_at" Sq:=by
 refine F.data hm (by walk_at"b3") sc_row_at (λds d ⟨_,_,e,_⟩=>by rw[e];rfl) λcdv A outer s H E ds d hr ⟨S,ok,e,e2⟩=>?_
 subst e
 have at_:∀{c:Int},AK S.pg c 2=true->atI (S.mem.map int) c=some (.int (Bu S.mem c)):=λ{c} h=>by
  have hh:=Gk h
  exact AX hh.1 (by have:=ok.ml;omega)
 have may:∀c:Int,∀b:Bool,AK S.pg c 2=b->Gx 2 [.list (S.pg.map AJ),.int c] (.bool b):=λc b h=>⟨S.pg,c,rfl,ok.p8,by rw[h]⟩
 unfold Et at e2
 cases hr1:AK S.pg S.here 2 with
 |false=>
  rw[if_pos hr1]at e2
  subst e2
  exact Af (Av (k:=true) (AU (k:=false) (AQ (Aq D_may_run (by walk_at"rm") rfl (Aa (evv 0) (Aa (evv 2) Ac)) (may _ _ hr1)))) (λ_=>Af (Ap (A9 (ds:=[.str "run",.none]) (Aa Ar (Aa DC Ac)) (by walk_at"sz")))) nofun)
 |true=>
  rw[if_neg (by rw[hr1];decide)]at e2
  refine Ai (Av (k:=false) (AU (k:=true) (AQ (Aq D_may_run (by walk_at"rm") rfl (Aa (evv 0) (Aa (evv 2) Ac)) (may _ _ hr1)))) nofun (λ_=>At)) ?_
  refine Ai (AE (i:=3) (d:=.int (C3 (Bu S.mem S.here))) sc_row_at.nd rfl (inl rfl) (Aq D_cells_from (by walk_at"rm") rfl (Aa (A1 (evv 1) (evv 2) (at_ hr1)) Ac) ⟨_,rfl,rfl⟩)) ?_
  have eqz:∀n m:Int,OD (cxOf CX0 P w K mg base ["pages","cells","place","many","second"] "row_at" (Ad E6) f cdv A outer s H E).nox (compareOp .Eq) (.int n) (.int m) (.bool (decide (n=m))):=λn m=>AZ (by walk_at"un") rfl rfl (by walk_at"dp") (Bk n m)
  by_cases h0:C3 (Bu S.mem S.here)=0
  .rw[if_pos h0]at e2
   subst e2
   exact Af (Av (k:=true) (Aj (Al (evv 3) Ab (eqz _ _) (Ak _)) (decide_eq_true h0)) (λ_=>Af (Ap (A9 (ds:=[.str "row",.none]) (Aa Ar (Aa DC Ac)) (by walk_at"sz")))) nofun)
  .rw[if_neg h0]at e2
   refine Ai (Av (k:=false) (Aj (Al (evv 3) Ab (eqz _ _) (Ak _)) (decide_eq_false h0)) nofun (λ_=>At)) ?_
   by_cases h1:C3 (Bu S.mem S.here)=1
   .rw[if_pos h1]at e2
    subst e2
    exact Af (Av (k:=true) (Aj (Al (evv 3) Ab (eqz _ _) (Ak _)) (decide_eq_true h1)) (λ_=>Af (Ap (A9 (ds:=[.str "",Cz (Bu S.mem S.here) 0]) (Aa Ar (Aa (Aq D_row_in (by walk_at"rm") rfl (Aa (A1 (evv 1) (evv 2) (at_ hr1)) (Aa Ab Ac)) ⟨_,_,rfl,rfl⟩) Ac)) (by walk_at"sz")))) nofun)
   .rw[if_neg h1]at e2
    refine Ai (Av (k:=false) (Aj (Al (evv 3) Ab (eqz _ _) (Ak _)) (decide_eq_false h1)) nofun (λ_=>At)) ?_
    refine Ai (AE (i:=4) (d:=.int ((S.here+1)%4096)) sc_row_at.nd rfl (inl rfl) (Ae (Ae (evv 2) Ab (by walk_at"od")) Ab (by walk_at"od"))) ?_
    cases hr2:AK S.pg ((S.here+1)%4096) 2 with
    |false=>
     rw[if_pos hr2]at e2
     subst e2
     exact Af (Av (k:=true) (AU (k:=false) (AQ (Aq D_may_run (by walk_at"rm") rfl (Aa (evv 0) (Aa (evv 4) Ac)) (may _ _ hr2)))) (λ_=>Af (Ap (A9 (ds:=[.str "run",.none]) (Aa Ar (Aa DC Ac)) (by walk_at"sz")))) nofun)
    |true=>
     rw[if_neg (by rw[hr2];decide)]at e2
     subst e2
     exact Ai (Av (k:=false) (AU (k:=true) (AQ (Aq D_may_run (by walk_at"rm") rfl (Aa (evv 0) (Aa (evv 4) Ac)) (may _ _ hr2)))) nofun (λ_=>At)) (Af (Ap (A9 (ds:=[.str "",Cz (Bu S.mem S.here) (Bu S.mem ((S.here+1)%4096))]) (Aa Ar (Aa (Aq D_row_in (by walk_at"rm") rfl (Aa (A1 (evv 1) (evv 2) (at_ hr1)) (Aa (A1 (evv 1) (evv 4) (at_ hr2)) Ac)) ⟨_,_,rfl,rfl⟩) Ac)) (by walk_at"sz"))))
def rnames:List Str:=["add","sub","mul","and","xor","cmp"]
def resI(nm:Str)(x y:Int):Int:=if nm="add"then x+y else if nm="mul"then x*y else if nm="and"then Builtin.bitAnd x y else if nm="xor"then Builtin.bitXor x y else x-y
def lesI(nm:Str)(x y:Int):Bool:=if nm="add"then decide (x+y>4095)else(if nm="sub"\/nm="cmp"then decide (x<y)else false)
theorem B4(a b:Str):eqv (.str a) (.str b)=decide (a=b):=by
 simp only[eqv]
 by_cases h:a=b
 .rw[decide_eq_true h,h];exact beq_self_eq_true b
 .rw[decide_eq_false h];exact beq_eq_false_iff_ne.mpr h
def P8(ds:List PyData)(d:PyData):Prop:=∃(nm:Str) (x y:Int),canLay0 (.str nm)=true/\0<=x/\x<4096/\0<=y/\y<4096/\ds=[.str nm,.int x,.int y]/\d=.int (resI nm x y)
theorem Jt(F:Fun K "result_of" "result_of" Cv f fd)(hm:mg "result_of"=some (.ref f)):DFn P w K mg base 1 "result_of" P8:=by
 refine F.data hm (by walk_at"b3") Iu (λds d ⟨_,_,_,_,_,_,_,_,e,_⟩=>by rw[e];rfl) λcdv A outer s H E ds d hr ⟨nm,x,y,hcl,x0,x1,y0,y1,e,e2⟩=>?_
 subst e
 unfold resI at e2
 have eqz:∀m:Str,canLay0 (.str m)=true->OD (cxOf CX0 P w K mg base ["name","x","y"] "result_of" (Ad Cv) f cdv A outer s H E).nox (compareOp .Eq) (.str nm) (.str m) (.bool (decide (nm=m))):=λm hm=>AZ (by walk_at"un") hcl hm (by walk_at"dp") (B4 nm m)
 by_cases h1:nm="add"
 .rw[if_pos h1]at e2
  subst e2
  exact Af (Av (k:=true) (Aj (Al (evv 0) Ar (eqz _ (by decide+kernel)) (Ak _)) (decide_eq_true h1)) (λ_=>Af (Ap (Ae (evv 1) (evv 2) (by walk_at"od")))) nofun)
 rw[if_neg h1]at e2
 refine Ai (Av (k:=false) (Aj (Al (evv 0) Ar (eqz _ (by decide+kernel)) (Ak _)) (decide_eq_false h1)) nofun (λ_=>At)) ?_
 by_cases h2:nm="mul"
 .rw[if_pos h2]at e2
  subst e2
  exact Af (Av (k:=true) (Aj (Al (evv 0) Ar (eqz _ (by decide+kernel)) (Ak _)) (decide_eq_true h2)) (λ_=>Af (Ap (Ae (evv 1) (evv 2) (DH (inl ⟨by omega,by omega⟩))))) nofun)
 rw[if_neg h2]at e2
 refine Ai (Av (k:=false) (Aj (Al (evv 0) Ar (eqz _ (by decide+kernel)) (Ak _)) (decide_eq_false h2)) nofun (λ_=>At)) ?_
 by_cases h3:nm="and"
 .rw[if_pos h3]at e2
  subst e2
  exact Af (Av (k:=true) (Aj (Al (evv 0) Ar (eqz _ (by decide+kernel)) (Ak _)) (decide_eq_true h3)) (λ_=>Af (Ap (Ae (evv 1) (evv 2) Tz))) nofun)
 rw[if_neg h3]at e2
 refine Ai (Av (k:=false) (Aj (Al (evv 0) Ar (eqz _ (by decide+kernel)) (Ak _)) (decide_eq_false h3)) nofun (λ_=>At)) ?_
 by_cases h4:nm="xor"
 .rw[if_pos h4]at e2
  subst e2
  exact Af (Av (k:=true) (Aj (Al (evv 0) Ar (eqz _ (by decide+kernel)) (Ak _)) (decide_eq_true h4)) (λ_=>Af (Ap (Ae (evv 1) (evv 2) (by walk_at"od")))) nofun)
 rw[if_neg h4]at e2
 subst e2
 exact Ai (Av (k:=false) (Aj (Al (evv 0) Ar (eqz _ (by decide+kernel)) (Ak _)) (decide_eq_false h4)) nofun (λ_=>At)) (Af (Ap (Ae (evv 1) (evv 2) (by walk_at"od"))))
def Qy(ds:List PyData)(d:PyData):Prop:=∃(nm:Str) (x y:Int),canLay0 (.str nm)=true/\ds=[.str nm,.int x,.int y]/\d=.bool (lesI nm x y)
theorem Rh(nm:Str):([str "sub",.str "cmp"].any λe=>eqv e (.str nm))=decide (nm="sub"\/nm="cmp"):=by
 simp only[any_cons,any_nil,Bool.or_false,B4]
 by_cases h1:nm="sub"<;>by_cases h2:nm="cmp"<;>simp[h1,h2,eq_comm]
theorem MO(F:Fun K "less_of" "less_of" CS f fd)(hm:mg "less_of"=some (.ref f)):DFn P w K mg base 1 "less_of" Qy:=by
 refine F.data hm (by walk_at"b3") Ll (λds d ⟨_,_,_,_,e,_⟩=>by rw[e];rfl) λcdv A outer s H E ds d hr ⟨nm,x,y,hcl,e,e2⟩=>?_
 subst e
 unfold lesI at e2
 have eqz:∀m:Str,canLay0 (.str m)=true->OD (cxOf CX0 P w K mg base ["name","x","y"] "less_of" (Ad CS) f cdv A outer s H E).nox (compareOp .Eq) (.str nm) (.str m) (.bool (decide (nm=m))):=λm hm=>AZ (by walk_at"un") hcl hm (by walk_at"dp") (B4 nm m)
 by_cases h1:nm="add"
 .rw[if_pos h1]at e2
  subst e2
  exact Af (Av (k:=true) (Aj (Al (evv 0) Ar (eqz _ (by decide+kernel)) (Ak _)) (decide_eq_true h1)) (λ_=>Af (Ap (BP (Ae (evv 1) (evv 2) (by walk_at"od")) Ab (by walk_at"od") (Ak _)))) nofun)
 rw[if_neg h1]at e2
 refine Ai (Av (k:=false) (Aj (Al (evv 0) Ar (eqz _ (by decide+kernel)) (Ak _)) (decide_eq_false h1)) nofun (λ_=>At)) ?_
 have hin:OD (cxOf CX0 P w K mg base ["name","x","y"] "less_of" (Ad CS) f cdv A outer s H E).nox (compareOp .In) (.str nm) (.tuple [.str "sub",.str "cmp"]) (.bool (decide (nm="sub"\/nm="cmp"))):=Rh nm▸GQ (.inr rfl) rfl rfl rfl
 by_cases h2:nm="sub"\/nm="cmp"
 .rw[if_pos h2]at e2
  subst e2
  exact Af (Ap (Do (k:=true) (A0 (BP (evv 0) (A9 (ds:=[.str "sub",.str "cmp"]) (Aa Ar (Aa Ar Ac)) (by walk_at"sz")) hin (by with_unfolding_all rfl)) (by rw[decide_eq_true h2])) (λ_=>Fj (BP (evv 1) (evv 2) (by walk_at"od") (Ak _))) nofun))
 .rw[if_neg h2]at e2
  subst e2
  exact Af (Ap (Do (k:=false) (A0 (BP (evv 0) (A9 (ds:=[.str "sub",.str "cmp"]) (Aa Ar (Aa Ar Ac)) (by walk_at"sz")) hin (by with_unfolding_all rfl)) (by rw[decide_eq_false h2])) nofun (λ_=>rfl)))
def brB(k:Int)(z l:Bool):Bool:=if k=0 then z else if k=1 then !z else if k=2 then l else !l
def SY(ds:List PyData)(d:PyData):Prop:=∃(k:Int) (z l:Bool),0<=k/\k<4/\ds=[.int k,.tuple [.bool z,.bool l]]/\d=.bool (brB k z l)
theorem Ub{k:Int}{z l:Bool}(h0:0<=k)(h1:k<4):atI [PyData.bool z,.bool (!z),.bool l,.bool (!l)] k=some (.bool (brB k z l)):=by
 have h:k=0\/k=1\/k=2\/k=3:=by omega
 rcases h with rfl|rfl|rfl|rfl<;>rfl
theorem Ht(F:Fun K "branch_goes" "branch_goes" C1 f fd)(hm:mg "branch_goes"=some (.ref f)):DFn P w K mg base 1 "branch_goes" SY:=by
 refine F.data hm (by walk_at"b2") sc_branch_goes (λds d ⟨_,_,_,_,_,e,_⟩=>by rw[e];rfl) λcdv A outer s H E ds d hr ⟨k,z,l,k0,k1,e,e2⟩=>?_
 subst e e2
 refine Ai (G1:=[some (.int k),some (.tuple [.bool z,.bool l]),some (.bool z),some (.bool l)]) (Tt (k:=0) (B:=OY [2,3]) (evv 1) (Cn rfl (A3 (Ay (i:=2) sc_branch_goes.nd rfl (by first|exact inl rfl|exact inr rfl)) (A3 (Ay (i:=3) sc_branch_goes.nd rfl (by first|exact inl rfl|exact inr rfl)) Bv))) (K_ [2,3] _ rfl) rfl) ?_
 exact Af (Ap (A4 (A9 (ds:=[.bool z,.bool (!z),.bool l,.bool (!l)]) (Aa (evv 2) (Aa (I_ (evv 2)) (Aa (evv 3) (Aa (I_ (evv 3)) Ac)))) (by walk_at"sz")) (evv 0) (Ub k0 k1)))
theorem Ef{nm:Str}{nums:List Int}{i:Nat}{k:Int}(hk:k=(i:Int)+1)(h:i<nums.length):atI (str nm::nums.map int) k=some (.int (nums.getD i 0)):=by
 subst hk
 refine Bi (by omega) ?_
 rw[show((i:Int)+1).toNat=i+1 by omega,List.getElem?_cons_succ,getElem?_map,getD_eq_getElem?_getD,getElem?_eq_getElem h]
 rfl
theorem TD{ps:Str}{nums:List Int}{i:Nat}(h:BY ps nums=true)(hl:nums.length=ps.cps.size)(hc:ps.cps.toList[i]?=some c):i<nums.length/\0<=nums.getD i 0/\nums.getD i 0<B1 c:=by
 have hi:i<ps.cps.toList.length:=(List.getElem?_eq_some_iff.mp hc).1
 have hi2:i<nums.length:=by rw[hl,<-length_toList];exact hi
 refine⟨hi2,?_⟩
 unfold BY at h
 rw[all_eq_true]at h
 have hm:(c,nums.getD i 0)∈ps.cps.toList.zip nums:=by
  refine mem_of_getElem? (i:=i) ?_
  rw[List.getElem?_zip_eq_some]
  refine⟨hc,?_⟩
  rw[getD_eq_getElem?_getD,getElem?_eq_getElem hi2]
  rfl
 have:=h _ hm
 rw[and_eq_true,decide_eq_true_iff,decide_eq_true_iff]at this
 exact this
theorem IX:∀q∈kinds,(q.1="load"\/q.1="store")->q.2="xym":=by decide+kernel
theorem JY:∀q∈kinds,(q.1="set"\/q.1="call")->q.2="xn":=by decide+kernel
theorem LR:∀q∈kinds,q.1="jump"->q.2="n":=by decide+kernel
theorem Il:∀q∈kinds,q.1="branch"->q.2="kn":=by decide+kernel
theorem Uq:∀q∈kinds,(q.1="back"\/q.1="out")->q.2="x":=by decide+kernel
theorem RY:∀q∈kinds,(q.1="move"\/q.1∈rnames)->q.2="xy":=by decide+kernel
theorem Gu:∀q∈kinds,canLay0 (.str q.1)=true:=by decide+kernel
theorem IsRow.mem{nums:List Int}{j:Nat}(h:IsRow q nums j):q∈kinds:=List.mem_of_getElem? h.1
theorem IsRow.num{nums:List Int}{j i:Nat}{ps:Str}(h:IsRow q nums j)(e:q.2=ps)(hc:ps.cps.toList[i]?=some c):i<nums.length/\0<=nums.getD i 0/\nums.getD i 0<B1 c:=TD (e▸h.2.2) (e▸h.2.1) hc
def boxM(S:MS)(x:Int):Int:=S.bx.getD x.toNat 0
def Bl(S:MS)(nums:List Int):Int:=(boxM S (nums.getD 1 0)+nums.getD 2 0)%4096
def C0(S:MS)(nm:Str)(nums:List Int):Str:=if nm="stop"then "stop"else if nm="load"/\AK S.pg (Bl S nums) 0=false then "read"else if nm="store"/\AK S.pg (Bl S nums) 1=false then "write"else ""
def nextM(S:MS)(nm:Str)(nums:List Int)(b:Int):Int:=if nm="jump"\/nm="call"then nums.getLastD 0 else if nm="branch"/\brB (nums.getD 0 0) S.tz S.tl=true then nums.getD 1 0 else if nm="back"then boxM S (nums.getD 0 0)else b
theorem Id(S:MS):((.str "memory",.list (S.mem.map int)):PyData×PyData)∈fldD (lfM S) (dfM S):=mem_of_getElem? (i:=1) rfl
theorem E_(S:MS):((.str "box_words",.list (S.bx.map int)):PyData×PyData)∈fldD (lfM S) (dfM S):=mem_of_getElem? (i:=2) rfl
theorem Qo(S:MS):((.str "told_words",.list (S.told.map int)):PyData×PyData)∈fldD (lfM S) (dfM S):=mem_of_getElem? (i:=3) rfl
theorem U0(S:MS):((.str "stored_cells",.list (S.sto.map int)):PyData×PyData)∈fldD (lfM S) (dfM S):=mem_of_getElem? (i:=4) rfl
theorem FB(S:MS):((.str "rights",.list (S.pg.map AJ)):PyData×PyData)∈fldD (lfM S) (dfM S):=mem_of_getElem? (i:=0) rfl
theorem He(S:MS):((.str "here",.int S.here):PyData×PyData)∈fldD (lfM S) (dfM S):=mem_of_getElem? (i:=5) rfl
theorem MA(S:MS):((.str "truth_pair",.tuple [.bool S.tz,.bool S.tl]):PyData×PyData)∈fldD (lfM S) (dfM S):=mem_of_getElem? (i:=6) rfl
theorem Ej(ok:MsOk S){z:Int}(h0:0<=z)(h1:z<4):atI (S.bx.map int) z=some (.int (boxM S z)):=AX h0 (by have:=ok.bl;omega)
theorem Dz(ok:MsOk S)(z:Int):0<=boxM S z/\boxM S z<4096:=by
 unfold boxM
 rw[getD_eq_getElem?_getD]
 cases e:S.bx[z.toNat]? with
 |none=>exact show(0:Int)<=0/\(0:Int)<4096 by decide
 |some y=>exact ok.bw y (mem_of_getElem? e)
theorem AD{nm m:Str}{nums:List Int}{p2 p3 p4:Pos}{k0 ci:Nat}(hu:X.A.units+64<cLine)(he:EV X G e (rowD nm nums))(hcl:canLay0 (.str nm)=true)(hm:canLay0 (.str m)=true):TV X G (.Compare (.Subscript e (.Constant (.int 0) k0 p2) p3) [.Eq] [.Constant (.str m) ci p4] pos) (decide (nm=m)):=
 Al (A4 (ds:=.str nm::nums.map int) he Ab (Bi (by decide) rfl)) Ar (AZ hu hcl hm (by walk_at"dp") (B4 nm m)) (Ak _)
def Km(C:Addr)(ds:List PyData)(d:PyData):Prop:=∃(S:MS) (q:Str×Str) (nums:List Int) (j:Nat),MsOk S/\IsRow q nums j/\q.2="xym"/\ds=[mcD C S,rowD q.1 nums]/\d=.int (Bl S nums)
theorem Nm(CM:ClsM K mg C)(F:Fun K "address" "Machine.address" B2 f fd)(hm:Meth K C "address" f):MFn P w K mg base 1 C "address" (Km C):=by
 refine F.dataM hm (by walk_at"b2") Er (λds d ⟨_,_,_,_,_,_,_,e,_⟩=>by rw[e];rfl) λcdv A outer s H E ds d hr ⟨S,q,nums,j,ok,hr2,e0,e,e2⟩=>?_
 subst e e2
 have n1:=hr2.num (i:=1) (c:=121) e0 rfl
 have n2:=hr2.num (i:=2) (c:=109) e0 rfl
 exact Af (Ap (Ae (Ae (A1 (Az CM.cl CM.n2 (evv 0) (E_ S)) (A4 (evv 1) Ab (Ef (i:=1) rfl n1.1)) (Ej ok n1.2.1 n1.2.2)) (A4 (evv 1) Ab (Ef (i:=2) rfl n2.1)) A7) Ab (AA (by decide))))
theorem RP(S:MS)(nums:List Int):0<=Bl S nums/\Bl S nums<4096:=by
 unfold Bl
 omega
def Sy(C:Addr)(ds:List PyData)(d:PyData):Prop:=∃(S:MS) (q:Str×Str) (nums:List Int) (j:Nat),MsOk S/\IsRow q nums j/\ds=[mcD C S,rowD q.1 nums]/\d=.str (C0 S q.1 nums)
theorem JX(CM:ClsM K mg C)(D_may_read:DFn P w K mg base 3 "may_read" (Gx 0))(D_may_write:DFn P w K mg base 3 "may_write" (Gx 1))(D_address:MFn P w K mg base 1 C "address" (Km C))(F:Fun K "hindrance" "Machine.hindrance" Bm f fd)(hm:Meth K C "hindrance" f):MFn P w K mg base 4 C "hindrance" (Sy C):=by
 refine F.dataM hm (by walk_at"b2") DD (λds d ⟨_,_,_,_,_,_,e,_⟩=>by rw[e];rfl) λcdv A outer s H E ds d hr ⟨S,q,nums,j,ok,hr2,e,e2⟩=>?_
 subst e
 have hcl:=Gu q hr2.mem
 unfold C0 at e2
 by_cases h1:q.1="stop"
 .rw[if_pos h1]at e2
  subst e2
  exact Af (Av (k:=true) (Aj (AD (by walk_at"un") (evv 1) hcl (by decide+kernel)) (decide_eq_true h1)) (λ_=>Af (Ap Ar)) nofun)
 rw[if_neg h1]at e2
 refine Ai (Av (k:=false) (Aj (AD (by walk_at"un") (evv 1) hcl (by decide+kernel)) (decide_eq_false h1)) nofun (λ_=>At)) ?_
 by_cases h2:q.1="load"
 .have e0:=IX q hr2.mem (.inl h2)
  have hns:¬(q.1="store"/\AK S.pg (Bl S nums) 1=false):=λz=>by have:=z.1;rw[h2]at this;exact absurd this (by decide)
  cases hb:AK S.pg (Bl S nums) 0 with
  |false=>
   rw[if_pos ⟨h2,hb⟩]at e2
   subst e2
   exact Af (Av (k:=true) (Aj (AR (AF (k:=true) (k':=true) (Aj (AD (by walk_at"un") (evv 1) hcl (by decide+kernel)) (decide_eq_true h2)) (λ_=>AI (AU (k:=false) (AQ (Aq D_may_read (by walk_at"rm") rfl (Aa (Az CM.cl CM.n0 (evv 0) (FB S)) (Aa (Bc CM.cl D_address (by walk_at"rm") (evv 0) (Aa (evv 1) Ac) ⟨S,q,nums,j,ok,hr2,e0,rfl,rfl⟩) Ac)) ⟨S.pg,_,rfl,ok.p8,by rw[hb]⟩)))))) rfl) (λ_=>Af (Ap Ar)) nofun)
  |true=>
   rw[if_neg (λz=>by rw[hb]at z;exact absurd z.2 (by decide)),if_neg hns]at e2
   subst e2
   refine Ai (Av (k:=false) (Aj (AR (AF (k:=true) (k':=false) (Aj (AD (by walk_at"un") (evv 1) hcl (by decide+kernel)) (decide_eq_true h2)) (λ_=>AI (AU (k:=true) (AQ (Aq D_may_read (by walk_at"rm") rfl (Aa (Az CM.cl CM.n0 (evv 0) (FB S)) (Aa (Bc CM.cl D_address (by walk_at"rm") (evv 0) (Aa (evv 1) Ac) ⟨S,q,nums,j,ok,hr2,e0,rfl,rfl⟩) Ac)) ⟨S.pg,_,rfl,ok.p8,by rw[hb]⟩)))))) rfl) nofun (λ_=>At)) ?_
   have h3:¬q.1="store":=λz=>by rw[h2]at z;exact absurd z (by decide)
   exact Ai (Av (k:=false) (Aj (AR (AF (k:=false) (k':=false) (Aj (AD (by walk_at"un") (evv 1) hcl (by decide+kernel)) (decide_eq_false h3)) nofun)) rfl) nofun (λ_=>At)) (Af (Ap Ar))
 rw[if_neg (λz=>h2 z.1)]at e2
 refine Ai (Av (k:=false) (Aj (AR (AF (k:=false) (k':=false) (Aj (AD (by walk_at"un") (evv 1) hcl (by decide+kernel)) (decide_eq_false h2)) nofun)) rfl) nofun (λ_=>At)) ?_
 by_cases h3:q.1="store"
 .have e0:=IX q hr2.mem (.inr h3)
  cases hb:AK S.pg (Bl S nums) 1 with
  |false=>
   rw[if_pos ⟨h3,hb⟩]at e2
   subst e2
   exact Af (Av (k:=true) (Aj (AR (AF (k:=true) (k':=true) (Aj (AD (by walk_at"un") (evv 1) hcl (by decide+kernel)) (decide_eq_true h3)) (λ_=>AI (AU (k:=false) (AQ (Aq D_may_write (by walk_at"rm") rfl (Aa (Az CM.cl CM.n0 (evv 0) (FB S)) (Aa (Bc CM.cl D_address (by walk_at"rm") (evv 0) (Aa (evv 1) Ac) ⟨S,q,nums,j,ok,hr2,e0,rfl,rfl⟩) Ac)) ⟨S.pg,_,rfl,ok.p8,by rw[hb]⟩)))))) rfl) (λ_=>Af (Ap Ar)) nofun)
  |true=>
   rw[if_neg (λz=>by rw[hb]at z;exact absurd z.2 (by decide))]at e2
   subst e2
   exact Ai (Av (k:=false) (Aj (AR (AF (k:=true) (k':=false) (Aj (AD (by walk_at"un") (evv 1) hcl (by decide+kernel)) (decide_eq_true h3)) (λ_=>AI (AU (k:=true) (AQ (Aq D_may_write (by walk_at"rm") rfl (Aa (Az CM.cl CM.n0 (evv 0) (FB S)) (Aa (Bc CM.cl D_address (by walk_at"rm") (evv 0) (Aa (evv 1) Ac) ⟨S,q,nums,j,ok,hr2,e0,rfl,rfl⟩) Ac)) ⟨S.pg,_,rfl,ok.p8,by rw[hb]⟩)))))) rfl) nofun (λ_=>At)) (Af (Ap Ar))
 rw[if_neg (λz=>h3 z.1)]at e2
 subst e2
 exact Ai (Av (k:=false) (Aj (AR (AF (k:=false) (k':=false) (Aj (AD (by walk_at"un") (evv 1) hcl (by decide+kernel)) (decide_eq_false h3)) nofun)) rfl) nofun (λ_=>At)) (Af (Ap Ar))
theorem Pj(nm:Str):([str "jump",.str "call"].any λe=>eqv e (.str nm))=decide (nm="jump"\/nm="call"):=by
 simp only[any_cons,any_nil,Bool.or_false,B4]
 by_cases h1:nm="jump"<;>by_cases h2:nm="call"<;>simp[h1,h2,eq_comm]
def Sa(C:Addr)(ds:List PyData)(d:PyData):Prop:=∃(S:MS) (q:Str×Str) (nums:List Int) (j:Nat) (b:Int),MsOk S/\IsRow q nums j/\ds=[mcD C S,rowD q.1 nums,.int b]/\d=.int (nextM S q.1 nums b)
theorem IG(CM:ClsM K mg C)(D_branch_goes:DFn P w K mg base 1 "branch_goes" SY)(F:Fun K "next_place" "Machine.next_place" Bg f fd)(hm:Meth K C "next_place" f):MFn P w K mg base 2 C "next_place" (Sa C):=by
 refine F.dataM hm (by walk_at"b3") Df (λds d ⟨_,_,_,_,_,_,_,e,_⟩=>by rw[e];rfl) λcdv A outer s H E ds d hr ⟨S,q,nums,j,b,ok,hr2,e,e2⟩=>?_
 subst e
 have hcl:=Gu q hr2.mem
 unfold nextM at e2
 by_cases h1:q.1="jump"\/q.1="call"
 .rw[if_pos h1]at e2
  subst e2
  have hp:0<nums.length:=by
   rcases h1 with h1|h1
   .exact(hr2.num (i:=0) (c:=110) (LR q hr2.mem h1) rfl).1
   .exact(hr2.num (i:=0) (c:=120) (JY q hr2.mem (.inr h1)) rfl).1
  exact Af (Av (k:=true) (Aj (Al (A4 (ds:=.str q.1::nums.map int) (evv 1) Ab (Bi (by decide) rfl)) (A9 (ds:=[.str "jump",.str "call"]) (Aa Ar (Aa Ar Ac)) (by walk_at"sz")) (Pj q.1▸GQ (.inr rfl) rfl rfl rfl) (by with_unfolding_all rfl)) (decide_eq_true h1)) (λ_=>Af (Ap (A4 (ds:=.str q.1::nums.map int) (evv 1) (Qg Ab) (IH hp)))) nofun)
 rw[if_neg h1]at e2
 refine Ai (Av (k:=false) (Aj (Al (A4 (ds:=.str q.1::nums.map int) (evv 1) Ab (Bi (by decide) rfl)) (A9 (ds:=[.str "jump",.str "call"]) (Aa Ar (Aa Ar Ac)) (by walk_at"sz")) (Pj q.1▸GQ (.inr rfl) rfl rfl rfl) (by with_unfolding_all rfl)) (decide_eq_false h1)) nofun (λ_=>At)) ?_
 by_cases h2:q.1="branch"
 .have e0:=Il q hr2.mem h2
  have n0:=hr2.num (i:=0) (c:=107) e0 rfl
  have n1:=hr2.num (i:=1) (c:=110) e0 rfl
  have hnb:¬q.1="back":=λz=>by rw[h2]at z;exact absurd z (by decide)
  cases hb:brB (nums.getD 0 0) S.tz S.tl with
  |true=>
   rw[if_pos ⟨h2,hb⟩]at e2
   subst e2
   exact Af (Av (k:=true) (Aj (AR (AF (k:=true) (k':=true) (Aj (AD (by walk_at"un") (evv 1) hcl (by decide+kernel)) (decide_eq_true h2)) (λ_=>AI (Aj (AQ (Aq D_branch_goes (by walk_at"rm") rfl (Aa (A4 (ds:=.str q.1::nums.map int) (evv 1) Ab (Ef (i:=0) rfl n0.1)) (Aa (Az CM.cl CM.n4 (evv 0) (MA S)) Ac)) ⟨_,_,_,n0.2.1,n0.2.2,rfl,rfl⟩)) hb)))) rfl) (λ_=>Af (Ap (A4 (ds:=.str q.1::nums.map int) (evv 1) Ab (Ef (i:=1) rfl n1.1)))) nofun)
  |false=>
   rw[if_neg (λz=>by rw[hb]at z;exact absurd z.2 (by decide)),if_neg hnb]at e2
   subst e2
   refine Ai (Av (k:=false) (Aj (AR (AF (k:=true) (k':=false) (Aj (AD (by walk_at"un") (evv 1) hcl (by decide+kernel)) (decide_eq_true h2)) (λ_=>AI (Aj (AQ (Aq D_branch_goes (by walk_at"rm") rfl (Aa (A4 (ds:=.str q.1::nums.map int) (evv 1) Ab (Ef (i:=0) rfl n0.1)) (Aa (Az CM.cl CM.n4 (evv 0) (MA S)) Ac)) ⟨_,_,_,n0.2.1,n0.2.2,rfl,rfl⟩)) hb)))) rfl) nofun (λ_=>At)) ?_
   exact Ai (Av (k:=false) (Aj (AD (by walk_at"un") (evv 1) hcl (by decide+kernel)) (decide_eq_false hnb)) nofun (λ_=>At)) (Af (Ap (evv 2)))
 rw[if_neg (λz=>h2 z.1)]at e2
 refine Ai (Av (k:=false) (Aj (AR (AF (k:=false) (k':=false) (Aj (AD (by walk_at"un") (evv 1) hcl (by decide+kernel)) (decide_eq_false h2)) nofun)) rfl) nofun (λ_=>At)) ?_
 by_cases h3:q.1="back"
 .have n0:=hr2.num (i:=0) (c:=120) (Uq q hr2.mem (.inl h3)) rfl
  rw[if_pos h3]at e2
  subst e2
  exact Af (Av (k:=true) (Aj (AD (by walk_at"un") (evv 1) hcl (by decide+kernel)) (decide_eq_true h3)) (λ_=>Af (Ap (A1 (Az CM.cl CM.n2 (evv 0) (E_ S)) (A4 (ds:=.str q.1::nums.map int) (evv 1) Ab (Ef (i:=0) rfl n0.1)) (Ej ok n0.2.1 n0.2.2)))) nofun)
 rw[if_neg h3]at e2
 subst e2
 exact Ai (Av (k:=false) (Aj (AD (by walk_at"un") (evv 1) hcl (by decide+kernel)) (decide_eq_false h3)) nofun (λ_=>At)) (Af (Ap (evv 2)))
def Ow(C:Addr)(ds:List PyData)(d:PyData):Prop:=∃(S:MS) (c:Int),0<=c/\c<S.mem.length/\ds=[mcD C S,.int c]/\d=.int (Bu S.mem c)
theorem TX(CM:ClsM K mg C)(F:Fun K "peek" "Machine.peek" BX f fd)(hm:Meth K C "peek" f):MFn P w K mg base 1 C "peek" (Ow C):=by
 refine F.dataM hm (by walk_at"b2") FQ (λds d ⟨_,_,_,_,e,_⟩=>by rw[e];rfl) λcdv A outer s H E ds d hr ⟨S,c,c0,c1,e,e2⟩=>?_
 subst e e2
 exact Af (Ap (A1 (Az CM.cl CM.n1 (evv 0) (Id S)) (evv 1) (AX c0 c1)))
section
variable(S:MS)
theorem LJ(v:Int):upD "here" (.int v) (dfM S)=dfM {S with here:=v}:=by
 unfold upD dfM
 simp only[map_cons,map_nil]
 rw[if_pos True.intro,if_neg (by decide),if_neg (by decide)]
theorem OZ(z l:Bool):upD "truth_pair" (.tuple [.bool z,.bool l]) (dfM S)=dfM {S with tz:=z,tl:=l}:=by
 unfold upD dfM
 simp only[map_cons,map_nil]
 rw[if_neg (by decide),if_pos True.intro,if_neg (by decide)]
theorem LX(v:Int):upD "done_count" (.int v) (dfM S)=dfM {S with done:=v}:=by
 unfold upD dfM
 simp only[map_cons,map_nil]
 rw[if_neg (by decide),if_neg (by decide),if_pos True.intro]
theorem On(l:List Int):upL "memory" (l.map int) (lfM S)=lfM {S with mem:=l}:=by
 unfold upL lfM
 simp only[map_cons,map_nil]
 rw[if_neg (by decide),if_pos True.intro,if_neg (by decide),if_neg (by decide),if_neg (by decide)]
theorem Fx(l:List Int):upL "box_words" (l.map int) (lfM S)=lfM {S with bx:=l}:=by
 unfold upL lfM
 simp only[map_cons,map_nil]
 rw[if_neg (by decide),if_neg (by decide),if_pos True.intro,if_neg (by decide),if_neg (by decide)]
theorem LY(l:List Int):upL "told_words" (l.map int) (lfM S)=lfM {S with told:=l}:=by
 unfold upL lfM
 simp only[map_cons,map_nil]
 rw[if_neg (by decide),if_neg (by decide),if_neg (by decide),if_pos True.intro,if_neg (by decide)]
theorem Pl(l:List Int):upL "stored_cells" (l.map int) (lfM S)=lfM {S with sto:=l}:=by
 unfold upL lfM
 simp only[map_cons,map_nil]
 rw[if_neg (by decide),if_neg (by decide),if_neg (by decide),if_neg (by decide),if_pos True.intro]
theorem UC:(("memory":Str),S.mem.map int)∈lfM S:=mem_of_getElem? (i:=1) rfl
theorem Jo:(("box_words":Str),S.bx.map int)∈lfM S:=mem_of_getElem? (i:=2) rfl
theorem TK:(("told_words":Str),S.told.map int)∈lfM S:=mem_of_getElem? (i:=3) rfl
theorem Uz:(("stored_cells":Str),S.sto.map int)∈lfM S:=mem_of_getElem? (i:=4) rfl
theorem NO:(("done_count":Str),int S.done)∈dfM S:=mem_of_getElem? (i:=2) rfl
theorem Pt:("here":Str)∈(dfM S).map (·.1):=mem_of_getElem? (i:=0) rfl
theorem Sf:("truth_pair":Str)∈(dfM S).map (·.1):=mem_of_getElem? (i:=1) rfl
end
theorem BE(l:List Int)(n:Nat)(v:Int):(l.map int).set n (.int v)=(l.set n v).map int:=by rw[List.map_set]
theorem EW(l:List Int)(v:Int):l.map int++[int v]=(l++[v]).map int:=by rw[map_append];rfl
def Hh(S:MS)(c v:Int):MS:={S with mem:=S.mem.set c.toNat v,sto:=S.sto++[c]}
def J5(S:MS)(v:Int):MS:={S with told:=S.told++[v]}
def setB(S:MS)(x v:Int):MS:={S with bx:=S.bx.set x.toNat v}
def Js(S:MS)(nm:Str)(nums:List Int):MS:=
 {S with tz:=decide (resI nm (boxM S (nums.getD 0 0)) (boxM S (nums.getD 1 0))%4096=0),tl:=lesI nm (boxM S (nums.getD 0 0)) (boxM S (nums.getD 1 0)),bx:=if nm="cmp"then S.bx else S.bx.set (nums.getD 0 0).toNat (resI nm (boxM S (nums.getD 0 0)) (boxM S (nums.getD 1 0))%4096)}
def GT(S:MS)(nm:Str)(nums:List Int)(b:Int):MS:=if nm="set"then setB S (nums.getD 0 0) (nums.getD 1 0)else if nm="move"then setB S (nums.getD 0 0) (boxM S (nums.getD 1 0))else if nm="load"then setB S (nums.getD 0 0) (Bu S.mem (Bl S nums))else if nm="call"then setB S (nums.getD 0 0) b else S
abbrev FewM(S:MS):Prop:=S.sto.length<100000/\S.told.length<100000
def Qa(lf:LF)(df:DF)(ds:List PyData)(lf':LF)(df':DF):Prop:=∃(S:MS) (c v:Int),0<=c/\c<S.mem.length/\FewM S/\lf=lfM S/\df=dfM S/\ds=[.int c,.int v]/\lf'=lfM (Hh S c v)/\df'=dfM (Hh S c v)
abbrev Dd(F:LF->DF->List PyData->LF->DF->Prop):LF->DF->List PyData->PyData->LF->DF->Prop:=λlf df ds d lf' df'=>F lf df ds lf' df'/\d=.none
abbrev MZ(K:Frag)(R:OR)(S:MS):Hp->Prop:=Oz K R (lfM S) (dfM S)
theorem Cy{L:List Addr}{I I1 I2:Hp->Prop}{rs:List (Nat×Addr)}{G1:Gam}{st:Stmt}(h:PS X st (zN X.K L I rs G G1 I1))(e:I1=I2):PS X st (zN X.K L I rs G G1 I2):=e▸h
theorem SJ(CM:ClsM K mg C)(F:Fun K "poke" "Machine.poke" BV f fd)(hm:Meth K C "poke" f):OFn P w K mg base 1 C "poke" (Dd Qa):=by
 refine F.objN hm (by walk_at"b3") FL (λlf df ds lf' df' ⟨_,_,_,_,_,_,_,_,e,_⟩=>by rw[e];rfl) λcdv A outer s H E R lf df ds lf' df' hr hC ⟨S,c,v,c0,c1,few,e1,e2,e3,e4,e5⟩=>?_
 subst hC e1 e2 e3 e4 e5
 refine⟨none::AT ["cell","word"] [.int c,.int v],Aw (Cy (I2:=MZ K R {S with mem:=S.mem.set c.toNat v}) (CQ CM.cl CM.n1 mem_cons_self (pv 0) (evv 2) rfl (evv 1) (UC S) c0 (by rw[length_map];exact c1)) (by rw[BE,On];rfl)) ?_⟩
 exact Aw (Cy (I2:=MZ K R (Hh S c v)) (Im CM.cl CM.n6 mem_cons_self (pv 0) (evv 1) rfl (Uz {S with mem:=S.mem.set c.toNat v}) (by rw[length_map,sizeLine_eq];have:=few.1;show S.sto.length<_;omega)) (by rw[EW,Pl];rfl)) A6
def Pa(lf:LF)(df:DF)(ds:List PyData)(lf':LF)(df':DF):Prop:=∃(S:MS) (v:Int),FewM S/\lf=lfM S/\df=dfM S/\ds=[.int v]/\lf'=lfM (J5 S v)/\df'=dfM (J5 S v)
theorem Ty(CM:ClsM K mg C)(F:Fun K "tell" "Machine.tell" Ce f fd)(hm:Meth K C "tell" f):OFn P w K mg base 1 C "tell" (Dd Pa):=by
 refine F.objN hm (by walk_at"b2") FS (λlf df ds lf' df' ⟨_,_,_,_,_,e,_⟩=>by rw[e];rfl) λcdv A outer s H E R lf df ds lf' df' hr hC ⟨S,v,few,e1,e2,e3,e4,e5⟩=>?_
 subst hC e1 e2 e3 e4 e5
 exact⟨none::AT ["word"] [.int v],Aw (Cy (I2:=MZ K R (J5 S v)) (Im CM.cl CM.n5 mem_cons_self (pv 0) (evv 1) rfl (TK S) (by rw[length_map,sizeLine_eq];have:=few.2;omega)) (by rw[EW,LY];rfl)) A6⟩
theorem row3{nums:List Int}{j:Nat}(h:IsRow q nums j)(e:q.2="xy"):rowD q.1 nums=.tuple [.str q.1,.int (nums.getD 0 0),.int (nums.getD 1 0)]:=by
 have hl:nums.length=2:=by rw[h.2.1,e];rfl
 match nums,hl with
 |[a,b],_=>rfl
theorem QW(nm:Str):((rnames.map str).any λe=>eqv e (.str nm))=decide (nm∈rnames):=by
 rw[any_map]
 have:(λs:Str=>eqv (.str s) (.str nm))=λs=>decide (s=nm):=by funext s;exact B4 s nm
 show rnames.any (λs=>eqv (.str s) (.str nm))=_
 rw[this]
 induction rnames with
 |nil=>rfl
 |cons x r ih=>
  rw[any_cons,ih]
  by_cases h:x=nm
  .rw[decide_eq_true h,Bool.true_or,decide_eq_true (by rw[h];exact mem_cons_self)]
  .rw[decide_eq_false h,Bool.false_or]
   congr 1
   exact propext ⟨λz=>mem_cons_of_mem _ z,λz=>(mem_cons.mp z).resolve_left (λw=>h w.symm)⟩
theorem Dm{nums:List Int}{j i:Nat}{ps:Str}{k:Int}(row:IsRow q nums j)(e0:q.2=ps)(hc:ps.cps.toList[i]?=some c)(hk:k=(i:Int)+1){k0:Nat}{p2 p3:Pos}(he:EV X G e (rowD q.1 nums)):EV X G (.Subscript e (.Constant (.int k) k0 p2) p3) (.int (nums.getD i 0)):=
 A4 (ds:=.str q.1::nums.map int) he Ab (Ef hk (row.num e0 hc).1)
def Sl(lf:LF)(df:DF)(ds:List PyData)(lf':LF)(df':DF):Prop:=∃(S:MS) (q:Str×Str) (nums:List Int) (j:Nat),MsOk S/\IsRow q nums j/\q.1∈rnames/\lf=lfM S/\df=dfM S/\ds=[rowD q.1 nums]/\lf'=lfM (Js S q.1 nums)/\df'=dfM (Js S q.1 nums)
theorem Qd(CM:ClsM K mg C)(D_result_of:DFn P w K mg base 1 "result_of" P8)(D_less_of:DFn P w K mg base 1 "less_of" Qy)(F:Fun K "reckon" "Machine.reckon" B9 f fd)(hm:Meth K C "reckon" f):OFn P w K mg base 2 C "reckon" (Dd Sl):=by
 refine F.objN hm (by walk_at"b2") sc_Machine_reckon (λlf df ds lf' df' ⟨_,_,_,_,_,_,_,_,_,e,_⟩=>by rw[e];rfl) λcdv A outer s H E R lf df ds lf' df' hr hC ⟨S,q,nums,j,ok,row,hq,e1,e2,e3,e4,e5⟩=>?_
 subst hC e1 e2 e3 e4 e5
 have e0:=RY q row.mem (.inr hq)
 have n0:=row.num (i:=0) (c:=120) e0 rfl
 have n1:=row.num (i:=1) (c:=121) e0 rfl
 have hcl:=Gu q row.mem
 have b0:=Dz ok (nums.getD 0 0)
 have b1:=Dz ok (nums.getD 1 0)
 have ne0:∀i:Nat,0<i->∀z∈[(0,R.a)],z.1≠i:=λi hi z hz=>by rw[mem_singleton.mp hz];exact ne_of_lt hi
 rw[row3 row e0]
 unfold Js
 generalize nums.getD 0 0=x at n0 b0 ⊢
 generalize nums.getD 1 0=y at n1 b1 ⊢
 generalize q.1=nm at hcl ⊢
 generalize hrs:resI nm (boxM S x) (boxM S y)%4096=rs
 refine⟨[none,some (.tuple [.str nm,.int x,.int y]),some (.str nm),some (.int x),some (.int y),some (.int (boxM S x)),some (.int (boxM S y)),some (.int rs)],Aw (Rl (i:=2) (j:=3) (l:=4) (Bp oz_ok (evv 1) rfl) (Cn rfl (A3 (Ay (i:=2) sc_Machine_reckon.nd rfl (inl rfl)) (A3 (Ay (i:=3) sc_Machine_reckon.nd rfl (inl rfl)) (A3 (Ay (i:=4) sc_Machine_reckon.nd rfl (inl rfl)) Bv)))) (ne0 2 (by decide)) (ne0 3 (by decide)) (ne0 4 (by decide))) ?_⟩
 refine Aw (Bb (i:=5) (d:=.int (boxM S x)) sc_Machine_reckon.nd rfl (by show 5∉[0];decide) (inl rfl) (DY mem_cons_self (A1 (Az CM.cl CM.n2 (evv 0) (E_ S)) (evv 3) (Ej ok n0.2.1 n0.2.2)) rfl)) ?_
 refine Aw (Bb (i:=6) (d:=.int (boxM S y)) sc_Machine_reckon.nd rfl (by show 6∉[0];decide) (inl rfl) (DY mem_cons_self (A1 (Az CM.cl CM.n2 (evv 0) (E_ S)) (evv 4) (Ej ok n1.2.1 n1.2.2)) rfl)) ?_
 refine Aw (Bb (i:=7) (d:=.int rs) sc_Machine_reckon.nd rfl (by show 7∉[0];decide) (inl rfl) (Bp oz_ok (A0 (Ae (Aq D_result_of (by walk_at"rm") rfl (Aa (evv 2) (Aa (evv 5) (Aa (evv 6) Ac))) ⟨nm,_,_,hcl,b0.1,b0.2,b1.1,b1.2,rfl,rfl⟩) Ab (AA (by decide))) (by rw[hrs])) rfl)) ?_
 refine Aw (Cy (I2:=MZ K R {S with tz:=decide (rs=0),tl:=lesI nm (boxM S x) (boxM S y)}) (FW CM.cl CM.n4 mem_cons_self (pv 0) (A9 (ds:=[.bool (decide (rs=0)),.bool (lesI nm (boxM S x) (boxM S y))]) (Aa (BP (evv 7) Ab (AZ (by walk_at"un") rfl rfl (by walk_at"dp") (Bk rs 0)) (Ak _)) (Aa (Aq D_less_of (by walk_at"rm") rfl (Aa (evv 2) (Aa (evv 5) (Aa (evv 6) Ac))) ⟨nm,_,_,hcl,rfl,rfl⟩) Ac)) (by walk_at"sz")) rfl (Sf S) (by decide)) (by rw[OZ];rfl)) ?_
 by_cases hc:nm="cmp"
 .rw[if_pos hc]
  exact Aw (Kr oz_ok (AH oz_ok (Aj (Al (evv 2) Ar (Ct (by walk_at"un") hcl (by decide+kernel) (by walk_at"dp") (by rw[B4])) (Ak _)) (by rw[decide_eq_true hc];rfl)))) A6
 .rw[if_neg hc]
  refine Aw (BS (k:=true) (AH oz_ok (Aj (Al (evv 2) Ar (Ct (by walk_at"un") hcl (by decide+kernel) (by walk_at"dp") (by rw[B4])) (Ak _)) (by rw[decide_eq_false hc];rfl))) (λ_=>Aw (Cy (I2:=MZ K R {S with tz:=decide (rs=0),tl:=lesI nm (boxM S x) (boxM S y),bx:=S.bx.set x.toNat rs}) (CQ CM.cl CM.n2 mem_cons_self (pv 0) (evv 7) rfl (evv 3) (Jo {S with tz:=decide (rs=0),tl:=lesI nm (boxM S x) (boxM S y)}) n0.2.1 (by rw[length_map];have:=ok.bl;have:=n0.2.2;show x<(S.bx.length:Int);have h4:B1 120=4:=rfl;omega)) (by rw[BE,Fx];rfl)) A6) nofun) A6
def Su(lf:LF)(df:DF)(ds:List PyData)(lf':LF)(df':DF):Prop:=∃(S:MS) (q:Str×Str) (nums:List Int) (j:Nat) (b:Int),MsOk S/\IsRow q nums j/\(q.1="load"->AK S.pg (Bl S nums) 0=true)/\lf=lfM S/\df=dfM S/\ds=[rowD q.1 nums,.int b]/\lf'=lfM (GT S q.1 nums b)/\df'=dfM (GT S q.1 nums b)
theorem S7(CM:ClsM K mg C)(D_peek:MFn P w K mg base 1 C "peek" (Ow C))(D_address:MFn P w K mg base 1 C "address" (Km C))(F:Fun K "fill" "Machine.fill" Cd f fd)(hm:Meth K C "fill" f):OFn P w K mg base 2 C "fill" (Dd Su):=by
 refine F.objN hm (by walk_at"b3") FR (λlf df ds lf' df' ⟨_,_,_,_,_,_,_,_,_,_,e,_⟩=>by rw[e];rfl) λcdv A outer s H E R lf df ds lf' df' hr hC ⟨S,q,nums,j,b,ok,row,hld,e1,e2,e3,e4,e5⟩=>?_
 subst hC e1 e2 e3 e4 e5
 have hcl:=Gu q row.mem
 have bl:=ok.bl
 have h4:B1 120=4:=rfl
 refine⟨none::AT ["row","behind"] [rowD q.1 nums,.int b],?_⟩
 unfold GT
 by_cases h1:q.1="set"
 .rw[if_pos h1]
  have e0:=JY q row.mem (.inl h1)
  have n0:=row.num (i:=0) (c:=120) e0 rfl
  refine Aw (BS (k:=true) (AH oz_ok (Aj (AD (by walk_at"un") (evv 1) hcl (by decide+kernel)) (decide_eq_true h1))) (λ_=>Aw (Cy (I2:=MZ K R (setB S (nums.getD 0 0) (nums.getD 1 0))) (CQ CM.cl CM.n2 mem_cons_self (pv 0) (Dm row (i:=1) (c:=110) e0 rfl rfl (evv 1)) rfl (Dm row (i:=0) (c:=120) e0 rfl rfl (evv 1)) (Jo S) n0.2.1 (by rw[length_map];omega)) (by rw[BE,Fx];rfl)) A6) nofun) A6
 rw[if_neg h1]
 refine Aw (BS (k:=false) (AH oz_ok (Aj (AD (by walk_at"un") (evv 1) hcl (by decide+kernel)) (decide_eq_false h1))) nofun (λ_=>?_)) A6
 by_cases h2:q.1="move"
 .rw[if_pos h2]
  have e0:=RY q row.mem (.inl h2)
  have n0:=row.num (i:=0) (c:=120) e0 rfl
  have n1:=row.num (i:=1) (c:=121) e0 rfl
  refine Aw (BS (k:=true) (AH oz_ok (Aj (AD (by walk_at"un") (evv 1) hcl (by decide+kernel)) (decide_eq_true h2))) (λ_=>Aw (Cy (I2:=MZ K R (setB S (nums.getD 0 0) (boxM S (nums.getD 1 0)))) (CQ CM.cl CM.n2 mem_cons_self (pv 0) (A1 (Az CM.cl CM.n2 (evv 0) (E_ S)) (Dm row (i:=1) (c:=121) e0 rfl rfl (evv 1)) (Ej ok n1.2.1 n1.2.2)) rfl (Dm row (i:=0) (c:=120) e0 rfl rfl (evv 1)) (Jo S) n0.2.1 (by rw[length_map];omega)) (by rw[BE,Fx];rfl)) A6) nofun) A6
 rw[if_neg h2]
 refine Aw (BS (k:=false) (AH oz_ok (Aj (AD (by walk_at"un") (evv 1) hcl (by decide+kernel)) (decide_eq_false h2))) nofun (λ_=>?_)) A6
 by_cases h3:q.1="load"
 .rw[if_pos h3]
  have e0:=IX q row.mem (.inl h3)
  have n0:=row.num (i:=0) (c:=120) e0 rfl
  have ra:=Gk (hld h3)
  have ml:=ok.ml
  refine Aw (BS (k:=true) (AH oz_ok (Aj (AD (by walk_at"un") (evv 1) hcl (by decide+kernel)) (decide_eq_true h3))) (λ_=>Aw (Cy (I2:=MZ K R (setB S (nums.getD 0 0) (Bu S.mem (Bl S nums)))) (CQ CM.cl CM.n2 mem_cons_self (pv 0) (Bc CM.cl D_peek (by walk_at"rm") (evv 0) (Aa (Bc CM.cl D_address (by walk_at"rm") (evv 0) (Aa (evv 1) Ac) ⟨S,q,nums,j,ok,row,e0,rfl,rfl⟩) Ac) ⟨S,_,ra.1,by omega,rfl,rfl⟩) rfl (Dm row (i:=0) (c:=120) e0 rfl rfl (evv 1)) (Jo S) n0.2.1 (by rw[length_map];omega)) (by rw[BE,Fx];rfl)) A6) nofun) A6
 rw[if_neg h3]
 refine Aw (BS (k:=false) (AH oz_ok (Aj (AD (by walk_at"un") (evv 1) hcl (by decide+kernel)) (decide_eq_false h3))) nofun (λ_=>?_)) A6
 by_cases h4':q.1="call"
 .rw[if_pos h4']
  have e0:=JY q row.mem (.inr h4')
  have n0:=row.num (i:=0) (c:=120) e0 rfl
  exact Aw (BS (k:=true) (AH oz_ok (Aj (AD (by walk_at"un") (evv 1) hcl (by decide+kernel)) (decide_eq_true h4'))) (λ_=>Aw (Cy (I2:=MZ K R (setB S (nums.getD 0 0) b)) (CQ CM.cl CM.n2 mem_cons_self (pv 0) (evv 2) rfl (Dm row (i:=0) (c:=120) e0 rfl rfl (evv 1)) (Jo S) n0.2.1 (by rw[length_map];omega)) (by rw[BE,Fx];rfl)) A6) nofun) A6
 rw[if_neg h4']
 exact Aw (Kr oz_ok (AH oz_ok (Aj (AD (by walk_at"un") (evv 1) hcl (by decide+kernel)) (decide_eq_false h4')))) A6
def behM(S:MS)(q:Str×Str)(nums:List Int)(j:Nat):Int:=(S.here+(((wordsOf j q.2 nums).map int).length:Int))%4096
def goM(S:MS)(q:Str×Str)(nums:List Int)(j:Nat):MS:={S with here:=nextM S q.1 nums (behM S q nums j)}
def effM(S:MS)(q:Str×Str)(nums:List Int)(b:Int):MS:=if q.1∈rnames then Js S q.1 nums else if q.1="store"then Hh S (Bl S nums) (boxM S (nums.getD 0 0))else if q.1="out"then J5 S (boxM S (nums.getD 0 0))else GT S q.1 nums b
def doM(S:MS)(q:Str×Str)(nums:List Int)(j:Nat):MS:={effM (goM S q nums j) q nums (behM S q nums j)with done:=(effM (goM S q nums j) q nums (behM S q nums j)).done+1}
theorem Gf(nm:Str)(nums:List Int):noL (rowD nm nums)=true:=by
 show(noL (.str nm)&&noLs (nums.map int))=true
 rw[BF]
 rfl
theorem LO{nums:List Int}{n:Nat}(h:nums.length=n+1):nums.getLastD 0=nums.getD n 0:=by
 have h2:nums≠[]:=λz=>by rw[z]at h;cases h
 rw[List.getLastD_eq_getLast?,List.getLast?_eq_getElem?,getD_eq_getElem?_getD,h]
 rfl
theorem Rn{nums:List Int}{j:Nat}(ok:MsOk S)(row:IsRow q nums j){b:Int}(hb:0<=b/\b<4096):0<=nextM S q.1 nums b/\nextM S q.1 nums b<4096:=by
 unfold nextM
 have h4:B1 110=4096:=rfl
 split
 .rename_i h
  rcases h with h|h
  .have e0:=LR q row.mem h
   have n:=row.num (i:=0) (c:=110) e0 rfl
   rw[LO (n:=0) (by rw[row.2.1,e0];rfl)]
   omega
  .have e0:=JY q row.mem (.inr h)
   have n:=row.num (i:=1) (c:=110) e0 rfl
   rw[LO (n:=1) (by rw[row.2.1,e0];rfl)]
   omega
 .split
  .rename_i h
   have n:=row.num (i:=1) (c:=110) (Il q row.mem h.1) rfl
   omega
  .split
   .exact Dz ok _
   .exact hb
theorem Q0(S:MS)(q:Str×Str)(nums:List Int)(j:Nat):0<=behM S q nums j/\behM S q nums j<4096:=by
 unfold behM
 omega
theorem R_{nums:List Int}{j:Nat}(ok:MsOk S)(row:IsRow q nums j):MsOk (goM S q nums j):=⟨ok.p1,ok.p8,ok.ml,ok.mw,ok.bl,ok.bw,Rn ok row (Q0 S q nums j)⟩
theorem Ny{nm:Str}{nums:List Int}(h:C0 S nm nums="")(e:nm="load"):AK S.pg (Bl S nums) 0=true:=by
 unfold C0 at h
 rw[if_neg (λz=>by rw[e]at z;exact absurd z (by decide))]at h
 cases hb:AK S.pg (Bl S nums) 0 with
 |true=>rfl
 |false=>rw[if_pos ⟨e,hb⟩]at h;exact absurd h (by decide)
theorem K5{nm:Str}{nums:List Int}(h:C0 S nm nums="")(e:nm="store"):AK S.pg (Bl S nums) 1=true:=by
 unfold C0 at h
 rw[if_neg (λz=>by rw[e]at z;exact absurd z (by decide)),if_neg (λz=>by have:=z.1;rw[e]at this;exact absurd this (by decide))]at h
 cases hb:AK S.pg (Bl S nums) 1 with
 |true=>rfl
 |false=>rw[if_pos ⟨e,hb⟩]at h;exact absurd h (by decide)
theorem LE{nm:Str}{nums:List Int}{p2 p3 p4:Pos}{k0:Nat}(T:GTup X.K X.mg "RECKONING" ["add","sub","mul","and","xor","cmp"])(hg:Gl X "RECKONING")(he:EV X G e (rowD nm nums)):TV X G (.Compare (.Subscript e (.Constant (.int 0) k0 p2) p3) [.In] [.Name "RECKONING" p4] pos) (decide (nm∈rnames)):=
 Al (A4 (ds:=.str nm::nums.map int) he Ab (Bi (by decide) rfl)) (IS T hg) (GQ (.inr rfl) rfl rfl (QW nm)) (by with_unfolding_all rfl)
def Uh(lf:LF)(df:DF)(ds:List PyData)(lf':LF)(df':DF):Prop:=∃(S:MS) (q:Str×Str) (nums:List Int) (j:Nat),MsOk S/\FewM S/\IsRow q nums j/\C0 S q.1 nums=""/\lf=lfM S/\df=dfM S/\ds=[rowD q.1 nums]/\lf'=lfM (doM S q nums j)/\df'=dfM (doM S q nums j)
theorem UM(T:TxtR K mg w.params)(CM:ClsM K mg C)(D_cells_of:DFn P w K mg base 3 "cells_of" (λds d=>∃ws,Jc ds ws/\d=.list ws))(D_next:MFn P w K mg base 2 C "next_place" (Sa C))(D_address:MFn P w K mg base 1 C "address" (Km C))(D_reckon:OFn P w K mg base 2 C "reckon" (Dd Sl))(D_poke:OFn P w K mg base 1 C "poke" (Dd Qa))(D_tell:OFn P w K mg base 1 C "tell" (Dd Pa))(D_fill:OFn P w K mg base 2 C "fill" (Dd Su))(F:Fun K "do" "Machine.do" C_ f fd)(hm:Meth K C "do" f):OFn P w K mg base 4 C "do" (Dd Uh):=by
 refine F.objN hm (by walk_at"b2") sc_Machine_do (λlf df ds lf' df' ⟨_,_,_,_,_,_,_,_,_,_,e,_⟩=>by rw[e];rfl) λcdv A outer s H E R lf df ds lf' df' hr hC ⟨S,q,nums,j,ok,few,row,hh,e1,e2,e3,e4,e5⟩=>?_
 subst hC e1 e2 e3 e4 e5
 have hcl:=Gu q row.mem
 have ok1:=R_ ok row
 have ml:=ok.ml
 refine⟨[none,some (rowD q.1 nums),some (.int (behM S q nums j))],Aw (Bb (i:=2) (d:=.int (behM S q nums j)) sc_Machine_do.nd rfl (by show 2∉[0];decide) (inl rfl) (DY mem_cons_self (Ae (Ae (Az CM.cl CM.n3 (evv 0) (He S)) (Au "len" (Aa (Aq D_cells_of (by walk_at"rm") rfl (Aa (evv 1) Ac) ⟨_,⟨j,q,nums,row.1,row.2.1,row.2.2,rfl,rfl⟩,rfl⟩) Ac) Bt rfl T.b_len (by decide+kernel)) A7) Ab (AA (by decide))) rfl)) ?_⟩
 refine Aw (Cy (I2:=MZ K R (goM S q nums j)) (FW CM.cl CM.n3 mem_cons_self (pv 0) (Bc CM.cl D_next (by walk_at"rm") (evv 0) (Aa (evv 1) (Aa (evv 2) Ac)) ⟨S,q,nums,j,_,ok,row,rfl,rfl⟩) rfl (Pt S) (by decide)) (by rw[LJ];rfl)) ?_
 have few1:FewM (goM S q nums j):=few
 have ea:Bl (goM S q nums j) nums=Bl S nums:=rfl
 have eb:∀x,boxM (goM S q nums j) x=boxM S x:=λ_=>rfl
 refine Aw (I1:=MZ K R (effM (goM S q nums j) q nums (behM S q nums j))) ?mid (Aw (Cy (I2:=MZ K R (doM S q nums j)) (Ph CM.cl CM.n7 mem_cons_self (pv 0) Ab (NO _) (by decide)) (by rw[LX];rfl)) A6)
 unfold effM
 generalize hS:goM S q nums j=S1 at ok1 few1 ea eb
 have hpg:S1.pg=S.pg:=by rw[<-hS];rfl
 have hml:S1.mem.length=16*S1.pg.length:=ok1.ml
 by_cases h1:q.1∈rnames
 .rw[if_pos h1]
  exact BS (k:=true) (AH oz_ok (Aj (LE T.t_reck rfl (evv 1)) (decide_eq_true h1))) (λ_=>Aw (E5 (EM CM.cl D_reckon (by walk_at"rm") mem_cons_self (pv 0) (Cr (Bp oz_ok (evv 1) (Gf _ _)) IT) ⟨⟨S1,q,nums,j,ok1,row,h1,rfl,rfl,rfl,rfl,rfl⟩,rfl⟩)) A6) nofun
 rw[if_neg h1]
 refine BS (k:=false) (AH oz_ok (Aj (LE T.t_reck rfl (evv 1)) (decide_eq_false h1))) nofun (λ_=>?_)
 by_cases h2:q.1="store"
 .rw[if_pos h2]
  have e0:=IX q row.mem (.inr h2)
  have n0:=row.num (i:=0) (c:=120) e0 rfl
  have ra:=Gk (K5 hh h2)
  exact Aw (BS (k:=true) (AH oz_ok (Aj (AD (by walk_at"un") (evv 1) hcl (by decide+kernel)) (decide_eq_true h2))) (λ_=>Aw (E5 (EM CM.cl D_poke (by walk_at"rm") mem_cons_self (pv 0) (L8 (ds:=[.int (Bl S1 nums),.int (boxM S1 (nums.getD 0 0))]) mem_cons_self (Aa (Bc CM.cl D_address (by walk_at"rm") (evv 0) (Aa (evv 1) Ac) ⟨S1,q,nums,j,ok1,row,e0,rfl,rfl⟩) (Aa (A1 (Az CM.cl CM.n2 (evv 0) (E_ S1)) (Dm row (i:=0) (c:=120) e0 rfl rfl (evv 1)) (Ej ok1 n0.2.1 n0.2.2)) Ac)) rfl) ⟨⟨S1,Bl S1 nums,boxM S1 (nums.getD 0 0),by rw[ea];exact ra.1,by rw[ea,hml,hpg];omega,few1,rfl,rfl,rfl,rfl,rfl⟩,rfl⟩)) A6) nofun) A6
 rw[if_neg h2]
 refine Aw (BS (k:=false) (AH oz_ok (Aj (AD (by walk_at"un") (evv 1) hcl (by decide+kernel)) (decide_eq_false h2))) nofun (λ_=>?_)) A6
 by_cases h3:q.1="out"
 .rw[if_pos h3]
  have e0:=Uq q row.mem (.inr h3)
  have n0:=row.num (i:=0) (c:=120) e0 rfl
  exact Aw (BS (k:=true) (AH oz_ok (Aj (AD (by walk_at"un") (evv 1) hcl (by decide+kernel)) (decide_eq_true h3))) (λ_=>Aw (E5 (EM CM.cl D_tell (by walk_at"rm") mem_cons_self (pv 0) (L8 (ds:=[.int (boxM S1 (nums.getD 0 0))]) mem_cons_self (Aa (A1 (Az CM.cl CM.n2 (evv 0) (E_ S1)) (Dm row (i:=0) (c:=120) e0 rfl rfl (evv 1)) (Ej ok1 n0.2.1 n0.2.2)) Ac) rfl) ⟨⟨S1,boxM S1 (nums.getD 0 0),few1,rfl,rfl,rfl,rfl,rfl⟩,rfl⟩)) A6) nofun) A6
 rw[if_neg h3]
 exact Aw (BS (k:=false) (AH oz_ok (Aj (AD (by walk_at"un") (evv 1) hcl (by decide+kernel)) (decide_eq_false h3))) nofun (λ_=>Aw (E5 (EM CM.cl D_fill (by walk_at"rm") mem_cons_self (pv 0) (Cr (Bp oz_ok (evv 1) (Gf _ _)) (Cr (Bp oz_ok (evv 2) rfl) IT)) ⟨⟨S1,q,nums,j,behM S q nums j,ok1,row,λz=>by rw[ea,hpg];exact Ny hh z,rfl,rfl,rfl,rfl,rfl⟩,rfl⟩)) A6)) A6
def Ee(S:MS)(wd:Str)(S':MS):Prop:=(Et S.pg S.mem S.here=.tuple [.str wd,.none]/\S'=S)\/∃j q nums,IsRow q nums j/\Et S.pg S.mem S.here=.tuple [.str "",rowD q.1 nums]/\wd=C0 S q.1 nums/\S'=if C0 S q.1 nums=""then doM S q nums j else S
theorem QJ(ok:MsOk S):∃wd S',Ee S wd S':=by
 rcases HQ ok S.here with⟨wd,_,e⟩|⟨j,q,nums,row,e⟩
 .exact⟨wd,S,.inl ⟨e,rfl⟩⟩
 .exact⟨_,_,.inr ⟨j,q,nums,row,e,rfl,rfl⟩⟩
theorem Jv(S:MS)(nm:Str)(nums:List Int):canLay0 (.str (C0 S nm nums))=true:=by
 unfold C0
 repeat' split
 all_goals decide+kernel
def Q4(lf:LF)(df:DF)(ds:List PyData)(d:PyData)(lf':LF)(df':DF):Prop:=∃(S:MS) (wd:Str) (S':MS),MsOk S/\FewM S/\Ee S wd S'/\lf=lfM S/\df=dfM S/\ds=[]/\d=.str wd/\lf'=lfM S'/\df'=dfM S'
theorem S4(CM:ClsM K mg C)(D_row_at:DFn P w K mg base 5 "row_at" Sq)(D_hind:MFn P w K mg base 4 C "hindrance" (Sy C))(D_do:OFn P w K mg base 4 C "do" (Dd Uh))(F:Fun K "step" "Machine.step" Cm f fd)(hm:Meth K C "step" f):OFn P w K mg base 6 C "step" Q4:=by
 refine F.objM hm (by walk_at"b1") sc_Machine_step (λlf df ds d lf' df' ⟨_,_,_,_,_,_,_,_,e,_⟩=>by rw[e];rfl) λcdv A outer s H E R lf df ds d lf' df' hr hC ⟨S,wd,S',ok,few,st,e1,e2,e3,e4,e5,e6⟩=>?_
 subst hC e1 e2 e3 e4 e5 e6
 have ne0:∀i:Nat,0<i->∀z∈[(0,R.a)],z.1≠i:=λi hi z hz=>by rw[mem_singleton.mp hz];exact ne_of_lt hi
 rcases st with⟨e,e'⟩|⟨j,q,nums,row,e,ew,e'⟩
 .subst e'
  refine EB (Mx (i:=1) (j:=2) (DY (d:=.tuple [.str wd,.none]) mem_cons_self (Aq D_row_at (by walk_at"rm") rfl (Aa (Az CM.cl CM.n0 (evv 0) (FB S')) (Aa (Az CM.cl CM.n1 (evv 0) (Id S')) (Aa (Az CM.cl CM.n3 (evv 0) (He S')) Ac))) ⟨S',ok,rfl,e.symm⟩) rfl) (Cn rfl (A3 (Ay (i:=1) sc_Machine_step.nd rfl (inl rfl)) (A3 (Ay (i:=2) sc_Machine_step.nd rfl (inl rfl)) Bv))) (ne0 1 (by decide)) (ne0 2 (by decide))) ?_
  exact Sn (k:=true) (AH oz_ok (CU (evv 2) rfl)) (λ_=>KQ (Bp oz_ok (evv 1) rfl)) nofun
 .subst ew
  refine EB (Mx (i:=1) (j:=2) (DY (d:=.tuple [.str "",rowD q.1 nums]) mem_cons_self (Aq D_row_at (by walk_at"rm") rfl (Aa (Az CM.cl CM.n0 (evv 0) (FB S)) (Aa (Az CM.cl CM.n1 (evv 0) (Id S)) (Aa (Az CM.cl CM.n3 (evv 0) (He S)) Ac))) ⟨S,ok,rfl,e.symm⟩) (by show(noL (.str "")&&(noL (rowD q.1 nums)&&true))=true;rw[Gf];rfl)) (Cn rfl (A3 (Ay (i:=1) sc_Machine_step.nd rfl (inl rfl)) (A3 (Ay (i:=2) sc_Machine_step.nd rfl (inl rfl)) Bv))) (ne0 1 (by decide)) (ne0 2 (by decide))) ?_
  refine Sn (k:=false) (AH oz_ok (CU (evv 2) rfl)) nofun (λ_=>?_)
  refine EB (Bb (i:=1) (d:=.str (C0 S q.1 nums)) sc_Machine_step.nd rfl (by show 1∉[0];decide) (inl rfl) (DY mem_cons_self (Bc CM.cl D_hind (by walk_at"rm") (evv 0) (Aa (evv 2) Ac) ⟨S,q,nums,j,ok,row,rfl,rfl⟩) rfl)) ?_
  have hly:=Jv S q.1 nums
  by_cases hh:C0 S q.1 nums=""
  .rw[if_pos hh]at e'
   subst e'
   exact EB (BS (k:=true) (AH oz_ok (Aj (Al (evv 1) Ar (AZ (by walk_at"un") hly (by decide+kernel) (by walk_at"dp") (B4 _ _)) (Ak _)) (decide_eq_true hh))) (λ_=>Aw (E5 (EM CM.cl D_do (by walk_at"rm") mem_cons_self (pv 0) (Cr (Bp oz_ok (evv 2) (Gf _ _)) IT) ⟨⟨S,q,nums,j,ok,few,row,hh,rfl,rfl,rfl,rfl,rfl⟩,rfl⟩)) A6) nofun) (KQ (Bp oz_ok (evv 1) rfl))
  .rw[if_neg hh]at e'
   subst e'
   exact EB (Kr oz_ok (AH oz_ok (Aj (Al (evv 1) Ar (AZ (by walk_at"un") hly (by decide+kernel) (by walk_at"dp") (B4 _ _)) (Ak _)) (decide_eq_false hh)))) (KQ (Bp oz_ok (evv 1) rfl))
def Uv(many:Nat)(d:PyData):Prop:=∃rs:List Int,rs.length=many/\(∀r∈rs,0<=r/\r<1000000)/\d=.list (rs.map .int)
def KZ(ds:List PyData):Prop:=∃(ns:List Int) (a:Int) (many:Nat),ns.length<=63/\many<=1000/\ds=[.list (ns.map .int),.int a,.int many]
def numF(ds:List PyData)(d:PyData):Prop:=∃(s a:PyData) (many:Nat),ds=[s,a,.int many]/\Uv many d
theorem Ox{α:Type}(f:α->PyData)(l:List α)(o u:Option Int):∃c:List α,c.length<=l.length/\cutD (l.map f) o u=c.map f:=by
 refine⟨(l.drop (HT.sIx l.length 0 o)).take (HT.sIx l.length l.length u-HT.sIx l.length 0 o),by rw[length_take,length_drop];omega,?_⟩
 unfold cutD
 rw[length_map,map_take,map_drop]
def someInts(lo hi:Int)(ds:List PyData)(n:Nat):Prop:=∃rs:List Int,rs.length=n/\(∀r∈rs,lo<=r/\r<hi)/\ds=rs.map int
theorem someInts.snoc{lo hi r:Int}{ds:List PyData}{n:Nat}(h:someInts lo hi ds n)(h1:lo<=r)(h2:r<hi):someInts lo hi (ds++[.int r]) (n+1):=by
 obtain⟨rs,e1,e2,e3⟩:=h
 refine⟨rs++[r],by simp[e1],λx hx=>?_,by simp[e3]⟩
 rcases List.mem_append.mp hx with z|z
 .exact e2 x z
 .have:=List.mem_singleton.mp z
  subst this
  exact⟨h1,h2⟩
theorem someInts.len{lo hi:Int}{ds:List PyData}{n:Nat}(h:someInts lo hi ds n):ds.length=n:=by
 obtain⟨rs,e1,e2,e3⟩:=h
 rw[e3,List.length_map,e1]
theorem Nr{k:Int}(h0:0<=k)(h1:k<=1000):0<=1009*k*k/\1009*k*k<=1009000000:=by
 have a:0<=1009*k:=by omega
 have b:1009*k<=1009000:=by omega
 refine⟨Int.mul_nonneg a h0,?_⟩
 have c:1009*k*k<=1009000*1000:=Int.mul_le_mul b h1 h0 (by decide)
 exact c
def GN(s a:Option PyData)(many:Nat)(zs:List Int)(G:Gam)(c r t k n:Option PyData):Prop:=G=[s,a,some (.int many),some (.list (zs.map int)),none,c,r,t,k,n]
theorem Ho(T:Txt mg)(F:Fun K "_law_numbers" "_law_numbers" C9 f fd)(hm:mg "_law_numbers"=some (.ref f)):RFn P w K mg base 1 "_law_numbers" numF KZ:=by
 refine F.dataR hm (by walk_at"b3") sc_law_numbers (λds ⟨ns,a,many,_,_,e⟩=>by rw[e];rfl) λcdv A outer s H E ds hr ⟨ns,a,many,hns,hmany,e⟩=>?_
 subst e
 obtain⟨cs,hcs,ecs⟩:=Ox int ns (some a) none
 refine CN (G7 (ix:=[]) (N:=["cell"]) (B:=bind1) (as:=cs) (D:=int) (λ_=>true) (λz=>int (z%10^60)) rfl sc_law_numbers.nd (i:=3) rfl rfl (of_decide_eq_true (by kernel_rfl)) (BW (by decide))
  (Iy (A0 (by first|exact Iw (evv 0) (BC (evv 1)) FZ|exact Kv (evv 0) (BC (evv 1)) FZ (by walk_at"sl")) (congrArg list ecs))) (by rw[sizeLine_eq];omega) (λ_ _=>K4 _) (λ_ _ _ _ _=>Ay (i:=0) (show Nodup (["cell"]:List Str) by decide+kernel) rfl (inl rfl)) (λa ha cl C s H fp=>Kn)
  (λa ha hP cl C s H fp=>(Ae (evv 0) (Ae Ab Ab (by walk_at"od")) (by walk_at"od")))) ?_
 rw[Bs]
 have ez:cs.map (λz=>int (z%10^60))=(cs.map λz=>z%10^60).map int:=by rw[map_map];rfl
 rw[ez]
 have hzl:(cs.map λz=>z%10^60).length<=63:=by rw[length_map];omega
 generalize (cs.map λz=>z%10^60)=zs at hzl
 refine IO (i:=4) sc_law_numbers.nd rfl (inl rfl) (by simp[AT]) λH0 p=>?_
 refine BU (Mid:=λG ds=>∃c r t k n m,GN (some (.list (ns.map int))) (some (.int a)) many zs G c r t k n/\m<=many/\someInts 0 1000000 ds m) ?_ ?_
 ·
  refine OH (PreA:=λG ds=>GN (some (.list (ns.map int))) (some (.int a)) many zs G none none none none none/\ds=[]) (PreB:=λG ds=>GN (some (.list (ns.map int))) (some (.int a)) many zs G none none none none none/\ds=[]) ?_ ?_ (Br ?_)
  .rintro G ds ⟨rfl,rfl⟩
   cases zs with
   |nil=>exact .inr ⟨Aj (AR (AF (k':=false) (Al (Au "len" (Aa (evv 3) Ac) (by walk_at"cd") rfl T.b_len (by decide+kernel)) Ab (by walk_at"od") (Ak _)) (λh=>by simp at h))) (by simp),rfl,rfl⟩
   |cons z zs=>
    cases hq:(z%2==0)with
    |true=>exact .inl ⟨Aj (AR (AF (Al (Au "len" (Aa (evv 3) Ac) (by walk_at"cd") rfl T.b_len (by decide+kernel)) Ab (by walk_at"od") (Ak _)) (λ_=>(AI (Al (Ae (by first|exact A1 (evv 3) Ab (by walk_at"at")|exact A4 (evv 3) Ab (by walk_at"at")) Ab (by walk_at"od")) Ab (by walk_at"od") (Ak _)))))) (by rw[show(int (z%2)).eqv (.int 0)=(z%2==0)from rfl,hq];simp),rfl,rfl⟩
    |false=>exact .inr ⟨Aj (AR (AF (Al (Au "len" (Aa (evv 3) Ac) (by walk_at"cd") rfl T.b_len (by decide+kernel)) Ab (by walk_at"od") (Ak _)) (λ_=>(AI (Al (Ae (by first|exact A1 (evv 3) Ab (by walk_at"at")|exact A4 (evv 3) Ab (by walk_at"at")) Ab (by walk_at"od")) Ab (by walk_at"od") (Ak _)))))) (by rw[show(int (z%2)).eqv (.int 0)=(z%2==0)from rfl,hq];simp),rfl,rfl⟩
  ·
   refine AG (Mid:=λG ds=>∃c r t k n m,GN (some (.list (ns.map int))) (some (.int a)) many zs G c r t k n/\m<=many/\someInts 0 1000000 ds m) ?_ (Br λ_ _ h=>h)
   refine QX (j:=5) (m:=3) (xs:=zs.map int) (λ_ G ds=>∃c r t k n m,GN (some (.list (ns.map int))) (some (.int a)) many zs G c r t k n/\m<=many/\someInts 0 1000000 ds m) never rfl (by decide) (Ay (i:=5) sc_law_numbers.nd rfl (inl rfl)) (pv 3) ?_ ?_ λ_ _ h=>h
   .rintro G ds ⟨rfl,rfl⟩
    exact⟨⟨_,_,_,_,_,0,rfl,zero_le _,[],rfl,by simp,rfl⟩,rfl⟩
   .intro H1 i d hd
    obtain⟨z,rfl⟩:∃z,d=int z:=by
     rw[getElem?_map]at hd
     cases q:zs[i]? with
     |none=>rw[q]at hd;cases hd
     |some z=>rw[q]at hd;exact⟨z,(Option.some.inj hd).symm⟩
    refine AG (Mid:=λG ds=>∃r t k n m,GN (some (.list (ns.map int))) (some (.int a)) many zs G (some (.int z)) (some (.int r)) t k n/\m<=many/\someInts 0 1000000 ds m) (CV (j:=6) sc_law_numbers.nd rfl (by decide) (inl rfl) ?_) ?_
    .rintro G ds ⟨G',⟨c,r,t,k,n,m,rfl,hm,hd⟩,rfl⟩
     exact⟨_,(Ae (evv 5) Ab (by walk_at"od")),rfl,_,_,_,_,m,rfl,hm,hd⟩
    .refine AG (Mid:=λG ds=>∃c r t k n m,GN (some (.list (ns.map int))) (some (.int a)) many zs G c r t k n/\m<=many/\someInts 0 1000000 ds m) ?_ (Br λ_ _ h=>h)
     refine EI (j:=7) (lo:=0) (n:=(10:Int).toNat) (λ_ G ds=>∃r t k n m,GN (some (.list (ns.map int))) (some (.int a)) many zs G (some (.int z)) (some (.int r)) t k n/\m<=many/\someInts 0 1000000 ds m) never rfl (by decide) (Ay (i:=7) sc_law_numbers.nd rfl (inl rfl)) ?_ ?_ ?_
     .rintro G ds ⟨r,t,k,n,m,rfl,hm,hd⟩
      exact⟨⟨r,t,k,n,m,rfl,hm,hd⟩,Ly Ab (by decide) (by decide) rfl T.b_range⟩
     .intro j hj
      refine AG (Mid:=λG ds=>∃r t k n m,GN (some (.list (ns.map int))) (some (.int a)) many zs G (some (.int z)) (some (.int r)) t k n/\m<=many/\someInts 0 1000000 ds m) ?_ (Br λ_ _ h=>h)
      refine OH (PreA:=λG ds=>∃r t k n m,GN (some (.list (ns.map int))) (some (.int a)) many zs G (some (.int z)) (some (.int r)) t k n/\m<many/\someInts 0 1000000 ds m) (PreB:=λG ds=>∃r t k n m,GN (some (.list (ns.map int))) (some (.int a)) many zs G (some (.int z)) (some (.int r)) t k n/\m<=many/\someInts 0 1000000 ds m) ?_ ?_ (Br λ_ _ h=>h)
      .rintro G ds ⟨G',⟨r,t,k,n,m,rfl,hm,hd⟩,rfl⟩
       have hl:=hd.len
       by_cases hlt:m<many
       .by_cases hor:(0:Int)+(j:Nat)=0\/0<r
        .exact .inl ⟨Aj (AR (AF (Al (Au "len" (Aa (evv 4) Ac) (by walk_at"cd") rfl T.b_len (by decide+kernel)) (evv 2) (by walk_at"od") (Ak _)) (λ_=>(AI (AR (B3 (Al (evv 7) Ab (by walk_at"od") (Ak _)) (λ_=>(By (Al (evv 6) Ab (by walk_at"od") (Ak _)))))))))) (by
          rw[show(int (0+(j:Nat))).eqv (.int 0)=((0:Int)+(j:Nat)==0)from rfl]
          have e1:decide ((ds.length:Int)<(many:Nat))=true:=by simp;omega
          rw[e1]
          rcases hor with z|z
          .rw[z];rfl
          .rw[decide_eq_true z];simp),_,_,_,_,m,rfl,hlt,hd⟩
        .exact .inr ⟨Aj (AR (AF (Al (Au "len" (Aa (evv 4) Ac) (by walk_at"cd") rfl T.b_len (by decide+kernel)) (evv 2) (by walk_at"od") (Ak _)) (λ_=>(AI (AR (B3 (Al (evv 7) Ab (by walk_at"od") (Ak _)) (λ_=>(By (Al (evv 6) Ab (by walk_at"od") (Ak _)))))))))) (by
          rw[show(int (0+(j:Nat))).eqv (.int 0)=((0:Int)+(j:Nat)==0)from rfl]
          have e1:((0:Int)+(j:Nat)==0)=false:=by simp;omega
          have e2:decide (0<r)=false:=by simp;omega
          rw[e1,e2];simp),_,_,_,_,m,rfl,hm,hd⟩
       .exact .inr ⟨Aj (AR (AF (k':=false) (Al (Au "len" (Aa (evv 4) Ac) (by walk_at"cd") rfl T.b_len (by decide+kernel)) (evv 2) (by walk_at"od") (Ak _)) (λh=>by simp at h;omega))) (by simp),_,_,_,_,m,rfl,hm,hd⟩
      ·
       refine AG (Mid:=λG ds=>∃r t k n m,GN (some (.list (ns.map int))) (some (.int a)) many zs G (some (.int z)) (some (.int r)) t k n/\m<=many/\someInts 0 1000000 ds m) (DU ?_ (pv 4)) (AG (CV (j:=6) sc_law_numbers.nd rfl (by decide) (inl rfl) ?_) (Br λ_ _ h=>h))
       .rintro G ds ⟨r,t,k,n,m,rfl,hlt,hd⟩
        have hl:=hd.len
        exact⟨.int (r%1000000),A0 (Ae (evv 6) (Ae Ab Ab (by walk_at"od")) (by walk_at"od")) rfl,rfl,by rw[hl,sizeLine_eq];omega,_,_,_,_,m+1,rfl,hlt,hd.snoc (by omega) (by omega)⟩
       .rintro G ds ⟨r,t,k,n,m,rfl,hm,hd⟩
        exact⟨_,(Ae (evv 6) (Ae Ab Ab (by walk_at"od")) (by walk_at"od")),rfl,_,_,_,_,m,rfl,hm,hd⟩
     .rintro G ds ⟨r,t,k,n,m,h,hm,hd⟩
      exact⟨_,_,_,_,_,m,h,hm,hd⟩
  .rintro G ds ⟨rfl,rfl⟩
   exact⟨_,_,_,_,_,0,rfl,zero_le _,[],rfl,by simp,rfl⟩
 ·
  refine BU (Mid:=λG ds=>someInts 0 1000000 ds many) ?_ (QK (pv 4) λG ds ⟨rs,h1,h2,h3⟩=>⟨_,_,many,rfl,rs,h1,h2,congrArg list h3⟩)
  refine U5 (Pr:=λ(q:Option PyData×Option PyData×Option PyData×Option PyData×Option PyData×Nat) G ds=>GN (some (.list (ns.map int))) (some (.int a)) many zs G q.1 q.2.1 q.2.2.1 q.2.2.2.1 q.2.2.2.2.1/\q.2.2.2.2.2<=many/\someInts 0 1000000 ds q.2.2.2.2.2) ?_ |>.imp λD σ H ⟨⟨G,ds,⟨c,r,t,k,n,m,h⟩,o⟩,q⟩=>⟨⟨G,ds,⟨(c,r,t,k,n,m),h⟩,o⟩,q⟩
  rintro⟨c,r,t,k,n,m⟩
  refine EI (j:=8) (lo:=m) (n:=((many:Int)- (m:Int)).toNat) (λi G ds=>(∃c r t k n,GN (some (.list (ns.map int))) (some (.int a)) many zs G c r t k n)/\m<=many/\someInts 0 1000000 ds (m+i)) never rfl (by decide) (Ay (i:=8) sc_law_numbers.nd rfl (inl rfl)) ?_ ?_ ?_
  .rintro G ds ⟨rfl,hm,hd⟩
   have hm:m<=many:=hm
   have hl:ds.length=m:=hd.len
   refine⟨⟨⟨_,_,_,_,_,rfl⟩,hm,hd⟩,?_⟩
   exact U1 (m:=(m:Int)) (n:=(many:Int)) (A0 (Au "len" (Aa (evv 4) Ac) (by walk_at"cd") rfl T.b_len (by decide+kernel)) (by rw[hl])) (evv 2) ⟨by omega,by omega,by omega,by omega⟩ rfl T.b_range
  .intro i hi
   refine AG (Mid:=λG ds=>(∃c r t v,GN (some (.list (ns.map int))) (some (.int a)) many zs G c r t (some (.int ((m:Int)+(i:Nat)))) (some (.int v))/\0<=v/\v<=1009008000)/\m<=many/\someInts 0 1000000 ds (m+i)) (CV (j:=9) sc_law_numbers.nd rfl (by decide) (inl rfl) ?_) ?_
   .rintro G ds ⟨G',⟨⟨c,r,t,k,n,rfl⟩,hm,hd⟩,rfl⟩
    have hk0:0<=(m:Int)+(i:Nat):=by omega
    have hk1:(m:Int)+(i:Nat)<=1000:=by omega
    obtain⟨q0,q1⟩:=Nr hk0 hk1
    exact⟨_,(Ae (Ae (Ae (Ae Ab (evv 8) (by walk_at"od")) (evv 8) (by walk_at"od")) (Ae Ab (evv 8) (by walk_at"od")) (by walk_at"od")) Ab (by walk_at"od")),rfl,⟨_,_,_,_,rfl,by omega,by omega⟩,hm,hd⟩
   refine AG (Mid:=λG ds=>(∃c r t v,GN (some (.list (ns.map int))) (some (.int a)) many zs G c r t (some (.int ((m:Int)+(i:Nat)))) (some (.int v))/\0<=v/\v<=4000000000)/\m<=many/\someInts 0 1000000 ds (m+i)) ?_ ?_
   .refine OH (PreA:=λG ds=>0<zs.length/\(∃c r t v,GN (some (.list (ns.map int))) (some (.int a)) many zs G c r t (some (.int ((m:Int)+(i:Nat)))) (some (.int v))/\0<=v/\v<=1009008000)/\m<=many/\someInts 0 1000000 ds (m+i)) (PreB:=λG ds=>(∃c r t v,GN (some (.list (ns.map int))) (some (.int a)) many zs G c r t (some (.int ((m:Int)+(i:Nat)))) (some (.int v))/\0<=v/\v<=1009008000)/\m<=many/\someInts 0 1000000 ds (m+i)) ?_ ?_ (Br ?_)
    .rintro G ds ⟨⟨c,r,t,v,rfl,h1,h2⟩,hm,hd⟩
     by_cases hz:0<zs.length
     .exact .inl ⟨Aj (Al (Au "len" (Aa (evv 3) Ac) (by walk_at"cd") rfl T.b_len (by decide+kernel)) Ab (by walk_at"od") (Ak _)) (by simp;omega),hz,⟨_,_,_,_,rfl,h1,h2⟩,hm,hd⟩
     .exact .inr ⟨Aj (Al (Au "len" (Aa (evv 3) Ac) (by walk_at"cd") rfl T.b_len (by decide+kernel)) Ab (by walk_at"od") (Ak _)) (by simp;exact List.eq_nil_of_length_eq_zero (by omega)),⟨_,_,_,_,rfl,h1,h2⟩,hm,hd⟩
    .refine AG (CV (j:=9) sc_law_numbers.nd rfl (by decide) (inl rfl) ?_) (Br λ_ _ h=>h)
     rintro G ds ⟨hz,⟨c,r,t,v,rfl,h1,h2⟩,hm,hd⟩
     have hlm:((map int zs).length:Int)=zs.length:=by rw[length_map]
     have hp:0<((map int zs).length:Int):=by omega
     have hi0:0<=((m:Int)+(i:Nat))%((map int zs).length:Int):=emod_nonneg _ (by omega)
     have hi1:((m:Int)+(i:Nat))%((map int zs).length:Int)<zs.length:=by rw[<-hlm];exact emod_lt_of_pos _ hp
     have hz':(0:Int)<zs.length:=by omega
     exact⟨_,(Ae (Ae (evv 9) (Ae (by first|exact A1 (evv 3) (Ae (evv 8) (Au "len" (Aa (evv 3) Ac) (by walk_at"cd") rfl T.b_len (by decide+kernel)) (by walk_at"od")) (by walk_at"at")|exact A4 (evv 3) (Ae (evv 8) (Au "len" (Aa (evv 3) Ac) (by walk_at"cd") rfl T.b_len (by decide+kernel)) (by walk_at"od")) (by walk_at"at")) Ab (by walk_at"od")) (by walk_at"od")) (Ae (by first|exact A1 (evv 3) Ab (by walk_at"at")|exact A4 (evv 3) Ab (by walk_at"at")) Ab (by walk_at"od")) (by walk_at"od")),rfl,⟨_,_,_,_,rfl,by omega,by omega⟩,hm,hd⟩
    .rintro G ds ⟨⟨c,r,t,v,rfl,h1,h2⟩,hm,hd⟩
     exact⟨⟨_,_,_,_,rfl,h1,by omega⟩,hm,hd⟩
   refine AG (Mid:=λG ds=>(∃c r t v,GN (some (.list (ns.map int))) (some (.int a)) many zs G c r t (some (.int ((m:Int)+(i:Nat)))) (some (.int v))/\0<=v/\v<=4000000000)/\m<=many/\someInts 0 1000000 ds (m+i)) (CV (j:=9) sc_law_numbers.nd rfl (by decide) (inl rfl) ?_) ?_
   .rintro G ds ⟨⟨c,r,t,v,rfl,h1,h2⟩,hm,hd⟩
    exact⟨_,(Ae (Ae (evv 9) (evv 9) (by walk_at"od")) Ab (by walk_at"od")),rfl,⟨_,_,_,_,rfl,by omega,by omega⟩,hm,hd⟩
   refine AG (Mid:=λG ds=>(∃c r t v,GN (some (.list (ns.map int))) (some (.int a)) many zs G c r t (some (.int ((m:Int)+(i:Nat)))) (some (.int v))/\0<=v/\v<=4000000000)/\m<=many/\someInts 0 1000000 ds (m+i)) (CV (j:=9) sc_law_numbers.nd rfl (by decide) (inl rfl) ?_) ?_
   .rintro G ds ⟨⟨c,r,t,v,rfl,h1,h2⟩,hm,hd⟩
    exact⟨_,(Ae (Ae (Ae (evv 9) Ab (by walk_at"od")) (Ae Ab (evv 8) (by walk_at"od")) (by walk_at"od")) Ab (by walk_at"od")),rfl,⟨_,_,_,_,rfl,by omega,by omega⟩,hm,hd⟩
   refine AG (DU ?_ (pv 4)) (Br λ_ _ h=>h)
   rintro G ds ⟨⟨c,r,t,v,rfl,h1,h2⟩,hm,hd⟩
   have hl:=hd.len
   exact⟨.int (v*v%998244353%1000000),A0 (Ae (Ae (Ae (evv 9) (evv 9) (by walk_at"od")) Ab (by walk_at"od")) (Ae Ab Ab (by walk_at"od")) (by walk_at"od")) rfl,rfl,by rw[hl,sizeLine_eq];omega,⟨_,_,_,_,_,rfl⟩,hm,hd.snoc (by omega) (by omega)⟩
  .rintro G ds ⟨_,hm,hd⟩
   have e:m+((many:Int)- (m:Int)).toNat=many:=by omega
   rw[e]at hd
   exact hd
local macro_rules| `(tactic|walk_at"rt")=>`(tactic|repeat' (first|with_reducible exact Ab|with_reducible exact Ar|with_reducible exact Ac|with_reducible refine Aa ?_ ?_ Hs|with_reducible refine Bf ?_ ?_|(rw[sizeLine_eq];decide)|(rw[sizeLine_eq];simp;done)))
def kL24:List Str:=["set","set","set","move","add","add","sub","sub","mul","and","xor","cmp","cmp","load","load","store","store","jump","branch","branch","branch","call","back","out"]
def kL(n:Int):Str:=kL24.getD (n%24).toNat ""
theorem Rq{l:List Str}{i:Int}(h0:0<=i)(h:i<l.length):atI (l.map str) i=some (.str (l.getD i.toNat "")):=by
 have hi:i.toNat<l.length:=by omega
 refine Bi h0 ?_
 rw[getElem?_map,getD_eq_getElem?_getD,getElem?_eq_getElem hi]
 rfl
theorem ST(n:Int):kL n∈kL24:=by
 unfold kL
 have h:(n%24).toNat<kL24.length:=by show(n%24).toNat<24;omega
 rw[getD_eq_getElem?_getD,getElem?_eq_getElem h]
 exact getElem_mem h
def KA(ds:List PyData)(d:PyData):Prop:=∃n:Int,ds=[.int n]/\d=.str (kL n)
theorem Lm(F:Fun K "_law_kind" "_law_kind" Ew f fd)(hm:mg "_law_kind"=some (.ref f)):DFn P w K mg base 1 "_law_kind" KA:=by
 refine F.data hm (by walk_at"b1") sc_law_kind (λds d ⟨_,e,_⟩=>by rw[e];rfl) λcdv A outer s H E ds d hr ⟨n,e,e2⟩=>?_
 subst e e2
 have hz1:((kL24.take 15).map str).length+((kL24.drop 15).map str).length<=sizeLine:=by rw[sizeLine_eq];exact(by decide:15+9<=16777216)
 refine GS (i:=1) (R:=λz=>z=.list ((kL24.take 15).map str)) ?a1 ?a2 ?a3 ?a4 ?a5 (hs:=?a6) (hf:=?a7)
 case a1=>exact sc_law_kind.nd
 case a2=>exact rfl
 case a3=>exact inl rfl
 case a6=>exact rfl
 case a7=>first|exact .inl rfl|exact .inr rfl
 case a4=>
  with_reducible refine KJ (d:=.list [.str "set",.str "set",.str "set",.str "move",.str "add",.str "add",.str "sub",.str "sub",.str "mul",.str "and",.str "xor",.str "cmp",.str "cmp",.str "load",.str "load"]) ?_ ?_
  .walk_at"rt"
  .exact rfl
 intro d1 hd1
 subst hd1
 refine GS (i:=1) (R:=λz=>z=.list ((kL24.take 15).map str++(kL24.drop 15).map str)) ?b1 ?b2 ?b3 ?b4 ?b5 (hs:=?b6) (hf:=?b7)
 case b1=>exact sc_law_kind.nd
 case b2=>exact rfl
 case b3=>exact inl rfl
 case b6=>exact rfl
 case b7=>first|exact .inl rfl|exact .inr rfl
 case b4=>
  with_reducible refine KJ (d:=.list ((kL24.take 15).map str++(kL24.drop 15).map str)) ?_ ?_
  .with_reducible refine Ae (da:=.list ((kL24.take 15).map str)) (db:=.list ((kL24.drop 15).map str)) ?_ ?_ (EF hz1)
   .exact Fu 1 (by rfl) (pv 1)
   .show EV _ _ _ (.list [.str "store",.str "store",.str "jump",.str "branch",.str "branch",.str "branch",.str "call",.str "back",.str "out"])
    walk_at"rt"
  .exact rfl
 intro d2 hd2
 subst hd2
 exact Af (Ap (A1 (ds:=kL24.map str) (A0 (evv 1) rfl) (Ae (evv 0) Ab (AA (by decide))) (Rq (by omega) (by show n%24<24;omega))))
def wdL:List Str:=["set","jump","branch","call"]
def Be(wd:Str):Int:=if wd∈wdL then 2 else 1
theorem RT(l:List Str)(nm:Str):((l.map str).any λe=>eqv e (.str nm))=decide (nm∈l):=by
 rw[any_map]
 have:(λs:Str=>eqv (.str s) (.str nm))=λs=>decide (s=nm):=by funext s;exact B4 s nm
 show l.any (λs=>eqv (.str s) (.str nm))=_
 rw[this]
 induction l with
 |nil=>rfl
 |cons x r ih=>
  rw[any_cons,ih]
  by_cases h:x=nm
  .rw[decide_eq_true h,Bool.true_or,decide_eq_true (by rw[h];exact mem_cons_self)]
  .rw[decide_eq_false h,Bool.false_or]
   congr 1
   exact propext ⟨λz=>mem_cons_of_mem _ z,λz=>(mem_cons.mp z).resolve_left (λw=>h w.symm)⟩
def Lj(ds:List PyData)(d:PyData):Prop:=∃wd:Str,ds=[.str wd]/\d=.int (Be wd)
theorem K8(T:Txt mg)(F:Fun K "_law_wide" "_law_wide" Ey f fd)(hm:mg "_law_wide"=some (.ref f)):DFn P w K mg base 1 "_law_wide" Lj:=by
 refine F.data hm (by walk_at"b1") JU (λds d ⟨_,e,_⟩=>by rw[e];rfl) λcdv A outer s H E ds d hr ⟨wd,e,e2⟩=>?_
 subst e e2
 refine Af (Ap (A0 (Ae Ab (Ex "int" (Aa (BP (d:=.bool (decide (wd∈wdL))) (evv 0) (Bf (ds:=wdL.map str) (Aa Ar (Aa Ar (Aa Ar (Aa Ar Ac)))) (by rw[sizeLine_eq];decide)) (GQ (.inl rfl) rfl rfl (RT wdL wd)) (by with_unfolding_all rfl)) Ac) Ml rfl T.b_int (by decide+kernel)) A7) ?_))
 unfold Be
 by_cases h:wd∈wdL
 .rw[decide_eq_true h,if_pos h];rfl
 .rw[decide_eq_false h,if_neg h];rfl
def n16:List Str:=["stop","set","move","add","sub","mul","and","xor","cmp","load","store","jump","branch","call","back","out"]
def opN(wd:Str):Nat:=n16.findIdx (·==wd)
theorem Hd:∀wd∈kL24,n16[opN wd]?=some wd/\(∀m,m<opN wd->n16[m]?≠some wd)/\opN wd<16/\canLay0 (.str wd)=true:=by
 have h1:∀wd∈kL24,n16[opN wd]?=some wd/\(∀m,m<16->m<opN wd->n16[m]?≠some wd)/\opN wd<16/\canLay0 (.str wd)=true:=by decide+kernel
 intro wd hw
 obtain⟨a,b,c,d⟩:=h1 wd hw
 exact⟨a,λm hm=>b m (by omega) hm,c,d⟩
def rowW(wd:Str)(n to:Int):List Int:=
 if wd="branch"then[(opN wd:Int)*256+n/24%4,to]else if wd="jump"then[(opN wd:Int)*256,to]else if wd="set"\/wd="call"then[(opN wd:Int)*256+n/24%4*64,to]
 else if wd="load"\/wd="store"then[(opN wd:Int)*256+n/24%4*64+n/96%4*16+n/384%16]else if wd="back"\/wd="out"then[(opN wd:Int)*256+n/24%4*64]else[(opN wd:Int)*256+n/24%4*64+n/96%4*16]
def T0(ds:List PyData)(d:PyData):Prop:=∃(wd:Str) (n to:Int),wd∈kL24/\ds=[.str wd,.int n,.int to]/\d=.list ((rowW wd n to).map int)
theorem FN(F:Fun K "_law_row_words" "_law_row_words" AL f fd)(hm:mg "_law_row_words"=some (.ref f)):DFn P w K mg base 1 "_law_row_words" T0:=by
 refine F.data hm (by walk_at"b3") sc_law_row_words (λds d ⟨_,_,_,_,e,_⟩=>by rw[e];rfl) λcdv A outer s H E ds d hr ⟨wd,n,to,hw,e,e2⟩=>?_
 subst e
 obtain⟨o1,o2,o3,hcl⟩:=Hd wd hw
 have hz1:((n16.take 14).map str).length+((n16.drop 14).map str).length<=sizeLine:=by rw[sizeLine_eq];exact(by decide:14+2<=16777216)
 refine GS (i:=3) (R:=λz=>z=.list ((n16.take 14).map str)) ?a1 ?a2 ?a3 ?a4 ?a5 (hs:=?a6) (hf:=?a7)
 case a1=>exact sc_law_row_words.nd
 case a2=>exact rfl
 case a3=>exact inl rfl
 case a6=>exact rfl
 case a7=>first|exact .inl rfl|exact .inr rfl
 case a4=>
  with_reducible refine KJ (d:=.list [.str "stop",.str "set",.str "move",.str "add",.str "sub",.str "mul",.str "and",.str "xor",.str "cmp",.str "load",.str "store",.str "jump",.str "branch",.str "call"]) ?_ ?_
  .walk_at"rt"
  .exact rfl
 intro d1 hd1
 subst hd1
 refine Ai (AE (i:=4) (d:=.int (opN wd)) sc_law_row_words.nd rfl (inl rfl) (MD (ss:=n16) (A0 (Ae (da:=.list ((n16.take 14).map str)) (db:=.list ((n16.drop 14).map str)) (evv 3) (A0 (Bf (ds:=[.str "back",.str "out"]) (Aa Ar (Aa Ar Ac)) (by rw[sizeLine_eq];decide)) rfl) (EF hz1)) rfl) (evv 0) o1 o2)) ?_
 refine Ai (AE (i:=5) (d:=.int (n/24%4)) sc_law_row_words.nd rfl (inl rfl) (Ae (Ae (evv 1) Ab (by walk_at"od")) Ab (by walk_at"od"))) ?_
 refine Ai (AE (i:=6) (d:=.int (n/96%4)) sc_law_row_words.nd rfl (inl rfl) (Ae (Ae (evv 1) Ab (by walk_at"od")) Ab (by walk_at"od"))) ?_
 refine Ai (AE (i:=7) (d:=.int (n/384%16)) sc_law_row_words.nd rfl (inl rfl) (Ae (Ae (evv 1) Ab (by walk_at"od")) Ab (by walk_at"od"))) ?_
 have ev1:∀m:Str,canLay0 (.str m)=true->OD (cxOf CX0 P w K mg base ["word","number","to","names","op","x","y","m"] "_law_row_words" (Ad AL) f cdv A outer s H E).nox (compareOp .Eq) (.str wd) (.str m) (.bool (decide (wd=m))):=λm hm=>AZ (by walk_at"un") hcl hm (by walk_at"dp") (B4 wd m)
 have m256:∀z:Int,0<=z->z<1000->OD (cxOf CX0 P w K mg base ["word","number","to","names","op","x","y","m"] "_law_row_words" (Ad AL) f cdv A outer s H E).nox (binaryOp .Mult) (.int (opN wd)) (.int z) (.int (opN wd*z)):=λz z0 z1=>DH (inl ⟨by omega,by omega⟩)
 have mx:∀x z:Int,0<=x->x<1000->0<=z->z<1000->OD (cxOf CX0 P w K mg base ["word","number","to","names","op","x","y","m"] "_law_row_words" (Ad AL) f cdv A outer s H E).nox (binaryOp .Mult) (.int x) (.int z) (.int (x*z)):=λx z x0 x1 z0 z1=>DH (inl ⟨by omega,by omega⟩)
 have x0:0<=n/24%4/\n/24%4<4:=by omega
 have y0:0<=n/96%4/\n/96%4<4:=by omega
 unfold rowW at e2
 by_cases h1:wd="branch"
 .rw[if_pos h1]at e2
  subst e2
  exact Af (Av (k:=true) (Aj (Al (evv 0) Ar (ev1 _ (by decide+kernel)) (Ak _)) (decide_eq_true h1)) (λ_=>Af (Ap (Bf (ds:=[.int ((opN wd:Int)*256+n/24%4),.int to]) (Aa (Ae (Ae (evv 4) Ab (m256 256 (by decide) (by decide))) (Ae (Ae (evv 1) Ab (by walk_at"od")) Ab (by walk_at"od")) A7) (Aa (evv 2) Ac)) (by walk_at"sz")))) nofun)
 rw[if_neg h1]at e2
 refine Ai (Av (k:=false) (Aj (Al (evv 0) Ar (ev1 _ (by decide+kernel)) (Ak _)) (decide_eq_false h1)) nofun (λ_=>At)) ?_
 by_cases h2:wd="jump"
 .rw[if_pos h2]at e2
  subst e2
  exact Af (Av (k:=true) (Aj (Al (evv 0) Ar (ev1 _ (by decide+kernel)) (Ak _)) (decide_eq_true h2)) (λ_=>Af (Ap (Bf (ds:=[.int ((opN wd:Int)*256),.int to]) (Aa (Ae (evv 4) Ab (m256 256 (by decide) (by decide))) (Aa (evv 2) Ac)) (by walk_at"sz")))) nofun)
 rw[if_neg h2]at e2
 refine Ai (Av (k:=false) (Aj (Al (evv 0) Ar (ev1 _ (by decide+kernel)) (Ak _)) (decide_eq_false h2)) nofun (λ_=>At)) ?_
 have or_:∀(a b:Str),canLay0 (.str a)=true->canLay0 (.str b)=true->∀(k:Bool),decide (wd=a\/wd=b)=k->(decide (wd=a)||decide (wd=b))=k:=λa b _ _ k hk=>by rw[<-hk];by_cases ha:wd=a<;>by_cases hb:wd=b<;>simp[ha,hb]
 by_cases h3:wd="set"\/wd="call"
 .rw[if_pos h3]at e2
  subst e2
  exact Af (Av (k:=true) (Aj (AR (B3 (Al (evv 0) Ar (ev1 _ (by decide+kernel)) (Ak _)) (λ_=>By (Al (evv 0) Ar (ev1 _ (by decide+kernel)) (Ak _))))) (or_ "set" "call" (by decide+kernel) (by decide+kernel) true (decide_eq_true h3))) (λ_=>Af (Ap (Bf (ds:=[.int ((opN wd:Int)*256+n/24%4*64),.int to]) (Aa (Ae (Ae (evv 4) Ab (m256 256 (by decide) (by decide))) (Ae (evv 5) Ab (mx _ 64 (by omega) (by omega) (by decide) (by decide))) A7) (Aa (evv 2) Ac)) (by walk_at"sz")))) nofun)
 rw[if_neg h3]at e2
 refine Ai (Av (k:=false) (Aj (AR (B3 (Al (evv 0) Ar (ev1 _ (by decide+kernel)) (Ak _)) (λ_=>By (Al (evv 0) Ar (ev1 _ (by decide+kernel)) (Ak _))))) (or_ "set" "call" (by decide+kernel) (by decide+kernel) false (decide_eq_false h3))) nofun (λ_=>At)) ?_
 by_cases h4:wd="load"\/wd="store"
 .rw[if_pos h4]at e2
  subst e2
  exact Af (Av (k:=true) (Aj (AR (B3 (Al (evv 0) Ar (ev1 _ (by decide+kernel)) (Ak _)) (λ_=>By (Al (evv 0) Ar (ev1 _ (by decide+kernel)) (Ak _))))) (or_ "load" "store" (by decide+kernel) (by decide+kernel) true (decide_eq_true h4))) (λ_=>Af (Ap (Bf (ds:=[.int ((opN wd:Int)*256+n/24%4*64+n/96%4*16+n/384%16)]) (Aa (Ae (Ae (Ae (Ae (evv 4) Ab (m256 256 (by decide) (by decide))) (Ae (evv 5) Ab (mx _ 64 (by omega) (by omega) (by decide) (by decide))) A7) (Ae (evv 6) Ab (mx _ 16 (by omega) (by omega) (by decide) (by decide))) A7) (evv 7) A7) Ac) (by walk_at"sz")))) nofun)
 rw[if_neg h4]at e2
 refine Ai (Av (k:=false) (Aj (AR (B3 (Al (evv 0) Ar (ev1 _ (by decide+kernel)) (Ak _)) (λ_=>By (Al (evv 0) Ar (ev1 _ (by decide+kernel)) (Ak _))))) (or_ "load" "store" (by decide+kernel) (by decide+kernel) false (decide_eq_false h4))) nofun (λ_=>At)) ?_
 by_cases h5:wd="back"\/wd="out"
 .rw[if_pos h5]at e2
  subst e2
  exact Af (Av (k:=true) (Aj (AR (B3 (Al (evv 0) Ar (ev1 _ (by decide+kernel)) (Ak _)) (λ_=>By (Al (evv 0) Ar (ev1 _ (by decide+kernel)) (Ak _))))) (or_ "back" "out" (by decide+kernel) (by decide+kernel) true (decide_eq_true h5))) (λ_=>Af (Ap (Bf (ds:=[.int ((opN wd:Int)*256+n/24%4*64)]) (Aa (Ae (Ae (evv 4) Ab (m256 256 (by decide) (by decide))) (Ae (evv 5) Ab (mx _ 64 (by omega) (by omega) (by decide) (by decide))) A7) Ac) (by walk_at"sz")))) nofun)
 rw[if_neg h5]at e2
 subst e2
 exact Ai (Av (k:=false) (Aj (AR (B3 (Al (evv 0) Ar (ev1 _ (by decide+kernel)) (Ak _)) (λ_=>By (Al (evv 0) Ar (ev1 _ (by decide+kernel)) (Ak _))))) (or_ "back" "out" (by decide+kernel) (by decide+kernel) false (decide_eq_false h5))) nofun (λ_=>At)) (Af (Ap (Bf (ds:=[.int ((opN wd:Int)*256+n/24%4*64+n/96%4*16)]) (Aa (Ae (Ae (Ae (evv 4) Ab (m256 256 (by decide) (by decide))) (Ae (evv 5) Ab (mx _ 64 (by omega) (by omega) (by decide) (by decide))) A7) (Ae (evv 6) Ab (mx _ 16 (by omega) (by omega) (by decide) (by decide))) A7) Ac) (by walk_at"sz"))))
theorem wide_set{wd:Str}:wd∈wdL↔wd="set"\/wd="jump"\/wd="branch"\/wd="call":=by
 unfold wdL
 simp only[mem_cons,not_mem_nil,or_false]
theorem JA(wd:Str)(n to:Int):((rowW wd n to).length:Int)=Be wd:=by
 have h0:¬(wd="branch")->¬(wd="jump")->¬(wd="set"\/wd="call")->Be wd=1:=λa b c=>by
  unfold Be
  rw[if_neg λz=>?_]
  rcases wide_set.mp z with z|z|z|z
  .exact c (.inl z)
  .exact b z
  .exact a z
  .exact c (.inr z)
 unfold rowW
 split
 .rename_i h;unfold Be;rw[if_pos (wide_set.mpr (.inr (.inr (.inl h))))];rfl
 .split
  .rename_i h;unfold Be;rw[if_pos (wide_set.mpr (.inr (.inl h)))];rfl
  .split
   .rename_i h;unfold Be;rw[if_pos (wide_set.mpr (h.elim .inl λz=>.inr (.inr (.inr z))))];rfl
   .rename_i a b c
    rw[h0 a b c]
    split
    .rfl
    .split<;>rfl
theorem Ko{wd:Str}(hw:wd∈kL24){n to:Int}(t0:0<=to/\to<4096):∀z∈rowW wd n to,0<=z/\z<4096:=by
 have o3:=(Hd wd hw).2.2.1
 unfold rowW
 repeat' split
 all_goals
  intro z hz
  simp only[mem_cons,not_mem_nil,or_false]at hz
  first
   |(rcases hz with rfl|rfl<;>omega)
   |(subst hz;omega)
def E4(wd:Str)(n:Int)(ps:List Int)(size:Int):Int:=if wd≠"set"then ps.getD (n/6144%(ps.length:Int)).toNat 0 else[n/6144%16,n/6144%size,ps.getD (n/6144%(ps.length:Int)).toNat 0,ps.getD 0 0+n/6144%8,n/6144*25%4096].getD (n/384%5).toNat 0
def KS(ds:List PyData)(d:PyData):Prop:=∃(wd:Str) (n:Int) (ps:List Int) (size:Int),wd∈kL24/\0<=n/\n<1000000/\0<ps.length/\0<size/\size<1000/\ds=[.str wd,.int n,.list (ps.map int),.int size]/\d=.int (E4 wd n ps size)
theorem Lp(T:Txt mg)(F:Fun K "_law_goal" "_law_goal" El f fd)(hm:mg "_law_goal"=some (.ref f)):DFn P w K mg base 1 "_law_goal" KS:=by
 refine F.data hm (F.binds λ_ _ _ _ _ _ us hl=>match us,hl with|[_,_,_,_],_=>rfl) sc_law_goal (λds d ⟨_,_,_,_,_,_,_,_,_,_,e,_⟩=>by rw[e];rfl) λcdv A outer s H E ds d hr ⟨wd,n,ps,size,hw,n0,n1,hp,s0,s1,e,e2⟩=>?_
 subst e
 have hcl:=(Hd wd hw).2.2.2
 have hlp:((ps.map int).length:Int)=ps.length:=by rw[length_map]
 have m0:0<=n/6144%(ps.length:Int)/\n/6144%(ps.length:Int)<ps.length:=⟨emod_nonneg _ (by omega),emod_lt_of_pos _ (by omega)⟩
 refine Ai (AE (i:=4) (d:=.int (n/6144)) sc_law_goal.nd rfl (inl rfl) (Ae (evv 1) Ab (by walk_at"od"))) ?_
 unfold E4 at e2
 by_cases h1:wd="set"
 .rw[if_neg (λz=>z h1)]at e2
  refine Ai (Av (k:=false) (Aj (Al (evv 0) Ar (Ct (by walk_at"un") hcl (by decide+kernel) (by walk_at"dp") (by rw[B4])) (Ak _)) (by rw[decide_eq_true h1];rfl)) nofun (λ_=>At)) ?_
  subst e2
  have q0:0<=n/6144/\n/6144<1000:=by omega
  have k0:0<=n/384%5/\n/384%5<5:=by omega
  refine Ai (AE (i:=5) (d:=.list ([n/6144%16,n/6144%size,ps.getD (n/6144%(ps.length:Int)).toNat 0,ps.getD 0 0+n/6144%8,n/6144*25%4096].map int)) sc_law_goal.nd rfl (inl rfl) (Bf (ds:=[.int (n/6144%16),.int (n/6144%size),.int (ps.getD (n/6144%(ps.length:Int)).toNat 0),.int (ps.getD 0 0+n/6144%8),.int (n/6144*25%4096)]) (Aa (Ae (evv 4) Ab (AA (by decide))) (Aa (Ae (evv 4) (evv 3) (AA s0)) (Aa (A1 (evv 2) (Ae (evv 4) (A0 (Au "len" (Aa (evv 2) Ac) Bt rfl T.b_len (by decide+kernel)) (by rw[hlp])) (AA (by omega))) (AX m0.1 m0.2)) (Aa (Ae (A1 (evv 2) Ab (AX (by decide) (by omega))) (Ae (evv 4) Ab (AA (by decide))) A7) (Aa (Ae (Ae (evv 4) Ab (DH (inl ⟨by omega,by omega⟩))) Ab (AA (by decide))) Ac))))) (by walk_at"sz"))) ?_
  exact Af (Ap (A1 (evv 5) (Ae (Ae (evv 1) Ab (by walk_at"od")) Ab (by walk_at"od")) (AX k0.1 k0.2)))
 .rw[if_pos h1]at e2
  subst e2
  exact Af (Av (k:=true) (Aj (Al (evv 0) Ar (Ct (by walk_at"un") hcl (by decide+kernel) (by walk_at"dp") (by rw[B4])) (Ak _)) (by rw[decide_eq_false h1];rfl)) (λ_=>Af (Ap (A1 (evv 2) (Ae (evv 4) (A0 (Au "len" (Aa (evv 2) Ac) Bt rfl T.b_len (by decide+kernel)) (by rw[hlp])) (AA (by omega))) (AX m0.1 m0.2)))) nofun)
theorem RK{wd:Str}{n:Int}{ps:List Int}{size:Int}(n0:0<=n)(s0:0<size)(s1:size<1000)(hp:∀z∈ps,0<=z/\z<1000):0<=E4 wd n ps size/\E4 wd n ps size<4096:=by
 have g:∀i:Nat,0<=ps.getD i 0/\ps.getD i 0<1000:=λi=>by
  rw[getD_eq_getElem?_getD]
  cases e:ps[i]? with
  |none=>exact show(0:Int)<=0/\(0:Int)<1000 by decide
  |some y=>exact hp y (mem_of_getElem? e)
 unfold E4
 split
 .have:=g (n/6144%(ps.length:Int)).toNat;omega
 .have h5:(n/384%5).toNat=0\/(n/384%5).toNat=1\/(n/384%5).toNat=2\/(n/384%5).toNat=3\/(n/384%5).toNat=4:=by omega
  have g1:=g (n/6144%(ps.length:Int)).toNat
  have g2:=g 0
  have m1:=emod_nonneg (n/6144) (show size≠0 by omega)
  have m2:=emod_lt_of_pos (n/6144) s0
  rcases h5 with h|h|h|h|h<;>rw[h]
  .show 0<=n/6144%16/\n/6144%16<4096;omega
  .show 0<=n/6144%size/\n/6144%size<4096;omega
  .show 0<=ps.getD (n/6144%(ps.length:Int)).toNat 0/\ps.getD (n/6144%(ps.length:Int)).toNat 0<4096;omega
  .show 0<=ps.getD 0 0+n/6144%8/\ps.getD 0 0+n/6144%8<4096;omega
  .show 0<=n/6144*25%4096/\n/6144*25%4096<4096;omega
end
def pgI(ns:List Int)(k:Nat):Bool×Bool×Bool:=(decide (0<ns.getD k 0%7),decide (0<ns.getD k 0/7%6),decide (k=0)||decide (0<ns.getD k 0/42%4))
def Bd(ns:List Int)(m:Nat):List (Bool×Bool×Bool):=(range m).map (pgI ns)
theorem DO(ns:List Int)(m:Nat):(Bd ns m).length=m:=by unfold Bd;rw[length_map,List.length_range]
theorem K0(ns:List Int)(m:Nat):Bd ns (m+1)=Bd ns m++[pgI ns m]:=by unfold Bd;rw[List.range_succ,map_append];rfl
def Mh(ds:List PyData)(d:PyData):Prop:=∃(ns:List Int) (m:Nat),m<=8/\m<=ns.length/\ds=[.list (ns.map int),.int m]/\d=.list ((Bd ns m).map AJ)
theorem Ka(T:Txt mg)(F:Fun K "_law_pages" "_law_pages" Du f fd)(hm:mg "_law_pages"=some (.ref f)):DFn P w K mg base 1 "_law_pages" Mh:=by
 refine F.data hm (by walk_at"b2") sc_law_pages (λds d ⟨_,_,_,_,e,_⟩=>by rw[e];rfl) λcdv A outer s H E ds d hr ⟨ns,m,m8,ml,e,e2⟩=>?_
 subst e e2
 refine Q_ (i:=2) sc_law_pages.nd rfl (inl rfl) (by show 2<5;decide) λH0 p=>?_
 refine BU (Mid:=λG ds=>(∃a b,G=[some (.list (ns.map int)),some (.int m),none,a,b])/\ds=(Bd ns ((m:Nat):Int).toNat).map AJ)
  (EI (j:=3) (lo:=0) (n:=((m:Nat):Int).toNat) (λk G ds=>(∃a b,G=[some (.list (ns.map int)),some (.int m),none,a,b])/\ds=(Bd ns k).map AJ) never rfl (by decide) (Ay (i:=3) sc_law_pages.nd rfl (inl rfl)) ?pre ?body (λ_ _ h=>h)) (QN ?out)
 case pre=>
  rintro G ds ⟨rfl,rfl⟩
  exact⟨⟨⟨_,_,rfl⟩,rfl⟩,Ly (evv 1) (by omega) (by omega) rfl T.b_range⟩
 case body=>
  intro k hk
  have hk2:k<ns.length:=by omega
  refine AG (Mid:=λG ds=>(G=[some (.list (ns.map int)),some (.int m),none,some (.int (0+(k:Int))),some (.int (ns.getD k 0))])/\ds=(Bd ns k).map AJ) (CV (j:=4) sc_law_pages.nd rfl (by decide) (inl rfl) ?_) (AG (DU ?_ (pv 2)) (Br λ_ _ h=>h))
  .rintro G ds ⟨G',⟨⟨a,b,rfl⟩,rfl⟩,rfl⟩
   exact⟨.int (ns.getD k 0),A1 (evv 0) (A0 (d':=.int (k:Int)) (evv 3) (by rw[zero_add])) (by have:=AX (zs:=ns) (i:=(k:Int)) (by omega) (by omega);rw[toNat_natCast]at this;exact this),rfl,rfl,rfl⟩
  .rintro G ds ⟨rfl,rfl⟩
   refine⟨AJ (pgI ns k),?_,rfl,by rw[length_map,DO,sizeLine_eq];omega,⟨_,_,rfl⟩,by rw[K0,map_append];rfl⟩
   refine A9 (ds:=[.bool (decide (0<ns.getD k 0%7)),.bool (decide (0<ns.getD k 0/7%6)),.bool (decide (k=0)||decide (0<ns.getD k 0/42%4))]) (Aa (BP (Ae (evv 4) Ab (by walk_at"od")) Ab (by walk_at"od") (Ak _)) (Aa (BP (Ae (Ae (evv 4) Ab (by walk_at"od")) Ab (by walk_at"od")) Ab (by walk_at"od") (Ak _)) (Aa ?_ Ac))) (by walk_at"sz")
   refine Uy (k:=decide (k=0)) (A0 (BP (evv 3) Ab (AZ (by walk_at"un") rfl rfl (by walk_at"dp") (Bk _ _)) (Ak _)) (by congr 1;congr 1;exact propext (by omega))) (λh=>Fj (A0 (BP (Ae (Ae (evv 4) Ab (by walk_at"od")) Ab (by walk_at"od")) Ab (by walk_at"od") (Ak _)) (by rw[h,Bool.false_or]))) (λh=>by rw[h,Bool.true_or])
 case out=>
  rintro G ds ⟨⟨a,b,rfl⟩,rfl⟩
  rw[toNat_natCast]
  exact Af (Ap (evv 2))
abbrev LT:=List Int×List (Str×Int)×Int
def HC(size:Int)(t:LT)(n:Int):LT:=if t.2.2+Be (kL n)+2<=size then(t.1++[t.2.2],t.2.1++[(kL n,n)],t.2.2+Be (kL n))else t
def AW(ns:List Int)(base size:Int)(k:Nat):LT:=(ns.take k).foldl (HC size) ([],[],base)
theorem Fc{ns:List Int}{base size n:Int}{k:Nat}(h:ns[k]?=some n):AW ns base size (k+1)=HC size (AW ns base size k) n:=by
 unfold AW
 rw[take_add_one,h,List.foldl_append]
 rfl
def kD(q:Str×Int):PyData:=.tuple [.str q.1,.int q.2]
theorem IA(wd:Str):Be wd=1\/Be wd=2:=by unfold Be;split<;>simp
structure LtOk(ns:List Int)(base size:Int)(t:LT):Prop where
 ge:base<=t.2.2
 le:t.2.1≠[]->t.2.2+2<=size
 len:t.1.length=t.2.1.length
 pl:∀p∈t.1,base<=p/\p<size
 ks:∀q∈t.2.1,q.1∈kL24/\q.2∈ns
 sum:(t.2.1.map λq=>Be q.1).sum=t.2.2-base
theorem Rv{ns:List Int}{base size n:Int}{t:LT}(ok:LtOk ns base size t)(hn:n∈ns):LtOk ns base size (HC size t n):=by
 unfold HC
 have hw:=IA (kL n)
 split
 .rename_i h
  refine⟨by show base<=t.2.2+Be (kL n);have:=ok.ge;omega,λ_=>by show t.2.2+Be (kL n)+2<=size;exact h,by show(t.1++[t.2.2]).length=(t.2.1++[(kL n,n)]).length;rw[length_append,length_append,ok.len];rfl,λp hp=>?_,λq hq=>?_,?_⟩
  .rcases mem_append.mp hp with hp|hp
   .exact ok.pl p hp
   .rw[mem_singleton.mp hp];have:=ok.ge;omega
  .rcases mem_append.mp hq with hq|hq
   .exact ok.ks q hq
   .rw[mem_singleton.mp hq];exact⟨ST n,hn⟩
  .show((t.2.1++[(kL n,n)]).map λq=>Be q.1).sum=t.2.2+Be (kL n)-base
   rw[map_append,List.sum_append,ok.sum]
   simp
   omega
 .exact ok
theorem Es{ns:List Int}{base size:Int}:∀k,LtOk ns base size (AW ns base size k)
 |0=>by
  unfold AW
  rw[List.take_zero]
  exact⟨Int.le_refl _,(λh=>absurd rfl h),rfl,(λp hp=>by cases hp),(λq hq=>by cases hq),by simp[List.foldl_nil]⟩
 |k+1=>by
  cases h:ns[k]? with
  |none=>
   have e:AW ns base size (k+1)=AW ns base size k:=by
    unfold AW
    rw[take_add_one,h]
    simp
   rw[e]
   exact Es k
  |some n=>
   rw[Fc h]
   exact Rv (Es k) (mem_of_getElem? h)
def B7(ps:List Int)(size:Int)(ks:List (Str×Int)):List Int:=ks.flatMap λq=>rowW q.1 q.2 (E4 q.1 q.2 ps size)
def EC(ns:List Int)(base size:Int):List Int:=(AW ns base size ns.length).1
def EN(ns:List Int)(base size:Int):List (Str×Int):=(AW ns base size ns.length).2.1
def FC(ns:List Int)(base size:Int):Int:=(AW ns base size ns.length).2.2
def FF(ns:List Int)(base size:Int):List Int:=B7 (EC ns base size) size (EN ns base size)++if FC ns base size+2<=size/\0<ns.getD 0 0/24%3 then[2816,base]else[]
theorem GD(ps:List Int)(size:Int)(ks:List (Str×Int)):((B7 ps size ks).length:Int)=(ks.map λq=>Be q.1).sum:=by
 unfold B7
 induction ks with
 |nil=>rfl
 |cons q r ih=>
  rw[List.flatMap_cons,length_append,map_cons,sum_cons]
  push_cast
  rw[ih,JA]
theorem Jw{ns:List Int}{base size:Int}(k:Nat):(AW ns base size k).1.length<=k/\(AW ns base size k).2.1.length<=k:=by
 have h:(AW ns base size k).1.length<=k:=by
  induction k with
  |zero=>unfold AW;rw[List.take_zero];exact le_refl 0
  |succ k ih=>
   cases h:ns[k]? with
   |none=>
    have e:AW ns base size (k+1)=AW ns base size k:=by
     unfold AW
     rw[take_add_one,h]
     simp
    rw[e]
    omega
   |some n=>
    rw[Fc h]
    unfold HC
    split
    .show((AW ns base size k).1++_).length<=_;rw[length_append];show _+1<=_;omega
    .omega
 exact⟨h,by rw[<-(Es k).len];exact h⟩
structure LaidOk(ns:List Int)(base size:Int):Prop where
 n0:0<ns.length
 n60:ns.length<=60
 nw:∀n∈ns,0<=n/\n<1000000
 b0:0<=base
 b5:base<=5
 s0:16<=size
 s1:size<=128
theorem Ni{ns:List Int}{base size:Int}(ok:LaidOk ns base size):base+((FF ns base size).length:Int)<=size:=by
 have h:=Es (ns:=ns) (base:=base) (size:=size) ns.length
 have hw:=GD (EC ns base size) size (EN ns base size)
 have hs:((EN ns base size).map λq=>Be q.1).sum=FC ns base size-base:=h.sum
 rw[hs]at hw
 have hb:=ok.b5
 have hs0:=ok.s0
 unfold FF
 rw[length_append]
 push_cast
 rw[hw]
 split
 .rename_i c
  show base+(FC ns base size-base+2)<=size
  have:=c.1
  omega
 .show base+(FC ns base size-base+0)<=size
  by_cases hk:EN ns base size=[]
  .rw[hk]at hs
   have:FC ns base size=base:=by simp at hs;omega
   omega
  .have:FC ns base size+2<=size:=h.le hk
   omega
theorem KG{ns:List Int}{base size:Int}(ok:LaidOk ns base size):∀z∈FF ns base size,0<=z/\z<4096:=by
 have h:=Es (ns:=ns) (base:=base) (size:=size) ns.length
 have b0:=ok.b0
 have b5:=ok.b5
 have s1:=ok.s1
 have s0:=ok.s0
 intro z hz
 unfold FF at hz
 rcases mem_append.mp hz with hz|hz
 .unfold B7 at hz
  obtain⟨q,hq,hz⟩:=List.mem_flatMap.mp hz
  have hk:=h.ks q hq
  refine Ko hk.1 (RK (ok.nw q.2 hk.2).1 (by omega) (by omega) λp hp=>?_) z hz
  have:=h.pl p hp
  omega
 .split at hz
  .simp only[mem_cons,not_mem_nil,or_false]at hz
   rcases hz with rfl|rfl<;>omega
  .cases hz
theorem JL{ns:List Int}{base size:Int}(ok:LaidOk ns base size):∀p∈EC ns base size,0<=p/\p<128:=λp hp=>by
 have:=(Es (ns:=ns) (base:=base) (size:=size) ns.length).pl p hp
 have:=ok.b0
 have:=ok.s1
 omega
def NZ(ds:List PyData)(d:PyData):Prop:=∃(ns:List Int) (base size:Int),LaidOk ns base size/\ds=[.list (ns.map int),.int base,.int size]/\d=.tuple [.list ((EC ns base size).map int),.list ((FF ns base size).map int)]
theorem KN(T:Txt mg)(D_law_kind:DFn P w K mg base 1 "_law_kind" KA)(D_law_wide:DFn P w K mg base 1 "_law_wide" Lj)(D_law_row_words:DFn P w K mg base 1 "_law_row_words" T0)(D_law_goal:DFn P w K mg base 1 "_law_goal" KS)(F:Fun K "_law_laid" "_law_laid" Ev f fd)(hm:mg "_law_laid"=some (.ref f)):DFn P w K mg base 2 "_law_laid" NZ:=by
 refine F.data hm (by walk_at"b3") sc_law_laid (λds d ⟨_,_,_,_,e,_⟩=>by rw[e];rfl) λcdv A outer s H E ds d hr ⟨ns,bs,size,ok,e,e2⟩=>?_
 subst e e2
 refine PJ (i:=3) (j:=4) (ws1:=[]) (ws2:=[]) sc_law_laid.nd rfl rfl (by decide) (inl rfl) (inl rfl) (by show 3<9;decide) (by show 4<9;decide) (ES Ac (zero_le _)) (ES Ac (zero_le _)) rfl rfl λH0 p q=>?_
 refine J3 (Mid:=λG ds es=>G=[some (.list (ns.map int)),some (.int bs),some (.int size),none,none,some (.int bs),none,none,none]/\ds=[]/\es=[]) (KO (m:=5) sc_law_laid.nd rfl (by decide) (by decide) (inl rfl) λG ds es ⟨a,b,c⟩=>?at0) ?_
 case at0=>
  subst a b c
  exact⟨.int bs,Fu 1 (by rfl) (pv 1),rfl,rfl,rfl,rfl⟩
 refine J3 (Mid:=λG ds es=>(∃a b,G=[some (.list (ns.map int)),some (.int bs),some (.int size),none,none,some (.int (FC ns bs size)),a,b,none])/\ds=(EC ns bs size).map int/\es=(EN ns bs size).map kD)
  (SR (is:=[6]) (g:=BI 6) (B:=PU 6) (xs:=ns.map int) (λk G ds es=>(∃a b,G=[some (.list (ns.map int)),some (.int bs),some (.int size),none,none,some (.int (AW ns bs size k).2.2),a,b,none])/\ds=(AW ns bs size k).1.map int/\es=(AW ns bs size k).2.1.map kD) never rfl (by decide) (by decide) (Ay (i:=6) sc_law_laid.nd rfl (inl rfl)) ?bd ?nl ?pre ?st ?post) (RI ?out)
 case bd=>exact λd _=>K1 6 d
 case nl=>
  intro d hd
  obtain⟨n,_,rfl⟩:=mem_map.mp hd
  rfl
 case pre=>
  rintro G ds es ⟨rfl,rfl,rfl⟩
  exact⟨⟨⟨none,none,rfl⟩,rfl,rfl⟩,OO (pv 0) rfl⟩
 case post=>
  rintro G ds es ⟨⟨a,b,rfl⟩,rfl,rfl⟩
  rw[length_map]
  exact⟨⟨a,b,rfl⟩,rfl,rfl⟩
 case st=>
  intro H1 k d hd
  rw[getElem?_map]at hd
  obtain⟨n,hn,rfl⟩:=Option.map_eq_some_iff.mp hd
  have fw:=Jw (ns:=ns) (base:=bs) (size:=size) k
  have hkl:k<ns.length:=(List.getElem?_eq_some_iff.mp hn).1
  have n60:=ok.n60
  refine CH (Mid:=λG ds es=>G=[some (.list (ns.map int)),some (.int bs),some (.int size),none,none,some (.int (AW ns bs size k).2.2),some (.int n),some (.str (kL n)),none]/\ds=(AW ns bs size k).1.map int/\es=(AW ns bs size k).2.1.map kD) (KO (m:=7) sc_law_laid.nd rfl (by decide) (by decide) (inl rfl) λG ds es ⟨G',⟨⟨a,b,e1⟩,e2,e3⟩,e4⟩=>?w0) ?_
  case w0=>
   subst e1 e2 e3 e4
   exact⟨.str (kL n),Aq D_law_kind (by walk_at"rm") rfl (Aa (evv 6) Ac) ⟨n,rfl,rfl⟩,rfl,rfl,rfl,rfl⟩
  rw[Fc hn]
  generalize AW ns bs size k=t at fw
  unfold HC
  by_cases hc:t.2.2+Be (kL n)+2<=size
  .rw[if_pos hc]
   refine CH (Ss (PreA:=λG ds es=>G=[some (.list (ns.map int)),some (.int bs),some (.int size),none,none,some (.int t.2.2),some (.int n),some (.str (kL n)),none]/\ds=t.1.map int/\es=t.2.1.map kD) (PreB:=λ_ _ _=>False) (λG ds es ⟨a,b,c⟩=>.inl ⟨?tt,a,b,c⟩) ?A (EG λ_ _ _ z=>z.elim)) (EG λ_ _ _ h=>h)
   case tt=>
    subst a b c
    exact Aj (Al (Ae (Ae (evv 5) (Aq D_law_wide (by walk_at"rm") rfl (Aa (evv 7) Ac) ⟨_,rfl,rfl⟩) A7) Ab A7) (evv 2) FA (Ak _)) (decide_eq_true hc)
   case A=>
    refine CH (Mid:=λG ds es=>G=[some (.list (ns.map int)),some (.int bs),some (.int size),none,none,some (.int t.2.2),some (.int n),some (.str (kL n)),none]/\ds=(t.1++[t.2.2]).map int/\es=t.2.1.map kD) (HD (λG ds es ⟨a,b,c⟩=>?p1) (pv 3)) ?_
    case p1=>
     subst a b c
     exact⟨.int t.2.2,Fu 5 (by rfl) (pv 5),rfl,by rw[length_map,sizeLine_eq];omega,rfl,EW _ _,rfl⟩
    refine CH (Mid:=λG ds es=>G=[some (.list (ns.map int)),some (.int bs),some (.int size),none,none,some (.int t.2.2),some (.int n),some (.str (kL n)),none]/\ds=(t.1++[t.2.2]).map int/\es=(t.2.1++[(kL n,n)]).map kD) (QV (HD (λG es ds ⟨a,b,c⟩=>?p2) (pv 4))) ?_
    case p2=>
     subst a b c
     exact⟨kD (kL n,n),A9 (ds:=[.str (kL n),.int n]) (Aa (evv 7) (Aa (evv 6) Ac)) (by walk_at"sz"),rfl,by rw[length_map,sizeLine_eq];omega,rfl,rfl,by rw[map_append];rfl⟩
    refine CH (KO (m:=5) sc_law_laid.nd rfl (by decide) (by decide) (inl rfl) λG ds es ⟨a,b,c⟩=>?p3) (EG λ_ _ _ h=>h)
    case p3=>
     subst a b c
     exact⟨.int (t.2.2+Be (kL n)),Ae (evv 5) (Aq D_law_wide (by walk_at"rm") rfl (Aa (evv 7) Ac) ⟨_,rfl,rfl⟩) A7,rfl,⟨_,_,rfl⟩,rfl,rfl⟩
  .rw[if_neg hc]
   refine CH (Ss (PreA:=λ_ _ _=>False) (PreB:=λG ds es=>(∃a b,G=[some (.list (ns.map int)),some (.int bs),some (.int size),none,none,some (.int t.2.2),a,b,none])/\ds=t.1.map int/\es=t.2.1.map kD) (λG ds es ⟨a,b,c⟩=>.inr ⟨?tf,⟨_,_,a⟩,b,c⟩) (λpins s σ H D I ⟨⟨_,_,_,z,_⟩,_⟩=>z.elim) (EG λ_ _ _ h=>h)) (EG λ_ _ _ h=>h)
   case tf=>
    subst a b c
    exact Aj (Al (Ae (Ae (evv 5) (Aq D_law_wide (by walk_at"rm") rfl (Aa (evv 7) Ac) ⟨_,rfl,rfl⟩) A7) Ab A7) (evv 2) FA (Ak _)) (decide_eq_false hc)
 case out=>
  rintro G ds es ⟨⟨a,b,rfl⟩,rfl,rfl⟩
  have lt:=Es (ns:=ns) (base:=bs) (size:=size) ns.length
  have few:=Jw (ns:=ns) (base:=bs) (size:=size) ns.length
  have n60:=ok.n60
  have s0:=ok.s0
  have s1:=ok.s1
  have hlp:(EC ns bs size).length=(EN ns bs size).length:=lt.len
  have hks:∀q∈EN ns bs size,q.1∈kL24/\q.2∈ns:=lt.ks
  have hkf:(EN ns bs size).length<=ns.length:=few.2
  unfold FF
  generalize EC ns bs size=ps at hlp ⊢
  generalize EN ns bs size=ks at hlp hks hkf ⊢
  generalize FC ns bs size=tt
  have wl:∀k,(B7 ps size (ks.take k)).length<=2*k:=λk=>by
   have h1:=GD ps size (ks.take k)
   have h2:∀l:List (Str×Int),(l.map λq=>Be q.1).sum<=2*(l.length:Int):=by
    intro l
    induction l with
    |nil=>exact Int.le_refl 0
    |cons q r ih=>rw[map_cons,sum_cons,length_cons];push_cast;have:=IA q.1;omega
   have h3:=h2 (ks.take k)
   have h4:(ks.take k).length<=k:=by rw[length_take];omega
   omega
  refine Ot (G:=[some (.list (ns.map int)),some (.int bs),some (.int size),some (.list (ps.map int)),some (.list (ks.map kD)),some (.int tt),none,none,none]) ?_ rfl ?fr
  case fr=>
   intro m d e
   match m,e with
   |0,e=>exact e
   |1,e=>exact e
   |2,e=>exact e
   |3,e=>exact e
   |4,e=>exact e
   |5,e=>exact e
   |6,e=>cases e
   |7,e=>cases e
   |8,e=>cases e
   |n+9,e=>cases e
  refine Ai (AE (i:=8) (d:=.list []) sc_law_laid.nd rfl (inl rfl) (Bf (ds:=[]) Ac (by walk_at"sz"))) ?_
  refine Ai (SO (k:=0) (as:=ks) (D:=kD) (g:=gTup K 2 (C4 [7,6])) (B:=OY [7,6]) (λk=>[some (.list (ns.map int)),some (.int bs),some (.int size),some (.list (ps.map int)),some (.list (ks.map kD)),some (.int tt),none,none,some (.list ((B7 ps size (ks.take k)).map int))]) never rfl
   (Iy (evv 4)) (Cn rfl (A3 (Ay (i:=7) sc_law_laid.nd rfl (inl rfl)) (A3 (Ay (i:=6) sc_law_laid.nd rfl (inl rfl)) Bv))) (λq _=>K_ [7,6] [.str q.1,.int q.2] rfl) ?lp) ?_
  case lp=>
   intro k q hq
   have hm:=hks q (mem_of_getElem? hq)
   have hn:=ok.nw q.2 hm.2
   have hk:k<ks.length:=(List.getElem?_eq_some_iff.mp hq).1
   have ew:B7 ps size (ks.take (k+1))=B7 ps size (ks.take k)++rowW q.1 q.2 (E4 q.1 q.2 ps size):=by
    unfold B7
    rw[take_add_one,hq,List.flatMap_append]
    simp
   have hz:((B7 ps size (ks.take k)).map int).length+((rowW q.1 q.2 (E4 q.1 q.2 ps size)).map int).length<=sizeLine:=by
    rw[length_map,length_map,sizeLine_eq]
    have h1:=wl k
    have h2:=JA q.1 q.2 (E4 q.1 q.2 ps size)
    have h3:=IA q.1
    omega
   refine KR (G1:=[some (.list (ns.map int)),some (.int bs),some (.int size),some (.list (ps.map int)),some (.list (ks.map kD)),some (.int tt),some (.int q.2),some (.str q.1),some (.list ((B7 ps size (ks.take (k+1))).map int))]) (Ai (AE (i:=8) (d:=.list ((B7 ps size (ks.take (k+1))).map int)) sc_law_laid.nd rfl (inl rfl) (A0 (Ae (evv 8) (Aq D_law_row_words (by walk_at"rm") rfl (Aa (evv 7) (Aa (evv 6) (Aa (Aq D_law_goal (by walk_at"rm") rfl (Aa (evv 7) (Aa (evv 6) (Aa (evv 3) (Aa (evv 2) Ac)))) ⟨q.1,q.2,ps,size,hm.1,hn.1,hn.2,by omega,by omega,by omega,rfl,rfl⟩) Ac))) ⟨q.1,q.2,_,hm.1,rfl,rfl⟩) (EF hz)) (by rw[ew,map_append]))) At) rfl ?fg
   case fg=>
    intro m d e
    match m,e with
    |0,e=>exact e
    |1,e=>exact e
    |2,e=>exact e
    |3,e=>exact e
    |4,e=>exact e
    |5,e=>exact e
    |6,e=>cases e
    |7,e=>cases e
    |8,e=>exact e
    |n+9,e=>cases e
  rw[take_of_length_le (le_refl _)]
  have wl2:=wl ks.length
  rw[take_of_length_le (le_refl _)]at wl2
  generalize B7 ps size ks=ws at wl2 ⊢
  have hn0:(0:Int)<ns.length:=by have:=ok.n0;omega
  have hz2:(ws.map int).length+[int (11*256),.int bs].length<=sizeLine:=by rw[length_map,sizeLine_eq];show ws.length+2<=_;omega
  have t1:decide (tt+2<=size)=true->decide (0<ns.getD 0 0/24%3)=true->tt+2<=size/\0<ns.getD 0 0/24%3:=λa b=>⟨of_decide_eq_true a,of_decide_eq_true b⟩
  by_cases c1:tt+2<=size
  .by_cases c2:0<ns.getD 0 0/24%3
   .rw[if_pos ⟨c1,c2⟩]
    refine Ai (G1:=[some (.list (ns.map int)),some (.int bs),some (.int size),some (.list (ps.map int)),some (.list (ks.map kD)),some (.int tt),none,none,some (.list ((ws++[2816,bs]).map int))]) (Av (k:=true) (Aj (AR (AF (k:=true) (k':=true) (Aj (Al (Ae (evv 5) Ab A7) (evv 2) FA (Ak _)) (decide_eq_true c1)) (λ_=>AI (Aj (Al (Ae (Ae (A1 (evv 0) Ab (AX (by decide) hn0)) Ab (by walk_at"od")) Ab (by walk_at"od")) Ab J4 (Ak _)) (decide_eq_true c2))))) rfl) (λ_=>Ai (AE (i:=8) (d:=.list ((ws++[2816,bs]).map int)) sc_law_laid.nd rfl (inl rfl) (A0 (Ae (evv 8) (Bf (ds:=[.int (11*256),.int bs]) (Aa (Ae Ab Ab (by walk_at"od")) (Aa (evv 1) Ac)) (by walk_at"sz")) (EF hz2)) (by rw[map_append];rfl))) At) nofun) ?_
    exact Af (Ap (A9 (ds:=[.list (ps.map int),.list ((ws++[2816,bs]).map int)]) (Aa (evv 3) (Aa (evv 8) Ac)) (by walk_at"sz")))
   .rw[if_neg (λz=>c2 z.2),append_nil]
    refine Ai (Av (k:=false) (Aj (AR (AF (k:=true) (k':=false) (Aj (Al (Ae (evv 5) Ab A7) (evv 2) FA (Ak _)) (decide_eq_true c1)) (λ_=>AI (Aj (Al (Ae (Ae (A1 (evv 0) Ab (AX (by decide) hn0)) Ab (by walk_at"od")) Ab (by walk_at"od")) Ab J4 (Ak _)) (decide_eq_false c2))))) rfl) nofun (λ_=>At)) ?_
    exact Af (Ap (A9 (ds:=[.list (ps.map int),.list (ws.map int)]) (Aa (evv 3) (Aa (evv 8) Ac)) (by walk_at"sz")))
  .rw[if_neg (λz=>c1 z.1),append_nil]
   refine Ai (Av (k:=false) (Aj (AR (AF (k:=false) (k':=false) (Aj (Al (Ae (evv 5) Ab A7) (evv 2) FA (Ak _)) (decide_eq_false c1)) nofun)) rfl) nofun (λ_=>At)) ?_
   exact Af (Ap (A9 (ds:=[.list (ps.map int),.list (ws.map int)]) (Aa (evv 3) (Aa (evv 8) Ac)) (by walk_at"sz")))
theorem JQ{l:List Int}{a b:Nat}(h1:a<=b)(h2:b<=l.length):cutD (l.map int) (some (a:Int)) (some (b:Int))=((l.drop a).take (b-a)).map int:=by
 unfold cutD
 rw[HT.sIx_nat,HT.sIx_nat,length_map,Nat.min_eq_left h2,Nat.min_eq_left (le_trans h1 h2),map_take,map_drop]
def LW(ds:List PyData)(d:PyData):Prop:=∃S:MS,MsOk S/\d=.tuple [.list (S.pg.map AJ),.list (S.mem.map int),.list (S.bx.map int),.int S.here]
def Mv(ds:List PyData):Prop:=∃(ns:List Int) (a:Int),ns.length<=63/\ds=[.list (ns.map .int),.int a]
def frP(sc at_:PyData)(rs:List Int)(M:Nat)(a b c d e f g:Option PyData):Gam:=[some sc,some at_,some (.list (rs.map int)),some (.int (rs.getD 0 0)),some (.int M),some (.int (16*(M:Int))),none,a,b,c,d,e,f,g]
theorem Hy{p q:Prop} [Decidable p] [Decidable q](h:¬(p/\q)):(decide p&&decide q)=false:=by
 cases Decidable.em p with
 |inl x=>rw[decide_eq_false (λy=>h ⟨x,y⟩),Bool.and_false]
 |inr x=>rw[decide_eq_false x,Bool.false_and]
theorem Hw(T:Txt mg)(R_law_numbers:RFn P w K mg base 1 "_law_numbers" numF KZ)(D_law_laid:DFn P w K mg base 2 "_law_laid" NZ)(D_law_pages:DFn P w K mg base 1 "_law_pages" Mh)(F:Fun K "_law_program" "_law_program" Bo f fd)(hm:mg "_law_program"=some (.ref f)):RFn P w K mg base 3 "_law_program" LW Mv:=by
 refine F.dataR hm (by walk_at"b2") sc_law_program (λds ⟨_,_,_,e⟩=>by rw[e];rfl) λcdv A outer s H E ds hr ⟨ns,a0,hns,e⟩=>?_
 subst e
 refine Pn (i:=2) sc_law_program.nd rfl (inl rfl) (Jz R_law_numbers (by walk_at"rm") rfl (Aa (evv 0) (Aa (evv 1) (Aa Ab Ac))) ⟨ns,a0,80,hns,by decide,rfl⟩) λd hd=>?_
 obtain⟨_,_,many,e,rs,hl,hw,rfl⟩:=hd
 have em:many=80:=by
  injection e with _ e
  injection e with _ e
  injection e with e _
  injection e with e
  omega
 subst em
 clear e
 have at_:∀i:Nat,i<80->atI (rs.map int) (i:Int)=some (.int (rs.getD i 0)):=λi hi=>by
  have:=AX (zs:=rs) (i:=(i:Int)) (by omega) (by omega)
  rw[toNat_natCast]at this
  exact this
 have in_:∀i:Nat,0<=rs.getD i 0/\rs.getD i 0<1000000:=λi=>by
  rw[getD_eq_getElem?_getD]
  cases e:rs[i]? with
  |none=>exact show(0:Int)<=0/\(0:Int)<1000000 by decide
  |some y=>exact hw y (mem_of_getElem? e)
 have h0:=in_ 0
 refine CN (AE (i:=3) (d:=.int (rs.getD 0 0)) sc_law_program.nd rfl (inl rfl) (A1 (evv 2) Ab (at_ 0 (by decide)))) ?_
 refine CN (AE (i:=4) (d:=.int (1+rs.getD 0 0%4)) sc_law_program.nd rfl (inl rfl) (Ae Ab (Ae (evv 3) Ab (AA (by decide))) A7)) ?_
 have rest:∀M:Nat,1<=M->M<=8->RVs (cxOf CX0 P w K mg base ["script","at","numbers","head","many","size","cells","k","draw","base","places","words","boxes","place"] "_law_program" (Ad Bo) f cdv A outer s H E).nox [some (.list (ns.map int)),some (.int a0),some (.list (rs.map int)),some (.int (rs.getD 0 0)),some (.int M),none,none,none,none,none,none,none,none,none] ((AB Bo).drop 4) (LW [.list (ns.map int),.int a0]):=by
  intro M M1 M8
  refine CN (AE (i:=5) (d:=.int (16*(M:Int))) sc_law_program.nd rfl (inl rfl) (Ae Ab (evv 4) (DH (inl ⟨by omega,by omega⟩)))) ?_
  refine IO (i:=6) sc_law_program.nd rfl (inl rfl) (by show 6<14;decide) λH0 p=>?_
  have hS:(16*(M:Int)).toNat=16*M:=by omega
  refine BU (Mid:=λG ds=>(∃a b,G=frP (.list (ns.map int)) (.int a0) rs M a b none none none none none)/\∃cs:List Int,cs.length=16*M/\(∀z∈cs,0<=z/\z<4096)/\ds=cs.map int)
   (EI (j:=7) (lo:=0) (n:=(16*(M:Int)).toNat) (λk G ds=>(∃a b,G=frP (.list (ns.map int)) (.int a0) rs M a b none none none none none)/\∃cs:List Int,cs.length=k/\(∀z∈cs,0<=z/\z<4096)/\ds=cs.map int) never rfl (by decide) (Ay (i:=7) sc_law_program.nd rfl (inl rfl)) ?pre ?body (λG ds h=>by rw[hS]at h;exact h)) ?_
  case pre=>
   rintro G ds ⟨rfl,rfl⟩
   exact⟨⟨⟨none,none,rfl⟩,[],rfl,(λz hz=>by cases hz),rfl⟩,Ly (evv 5) (by omega) (by omega) rfl T.b_range⟩
  case body=>
   intro k hk
   have k1:0<=(k:Int)%60/\(k:Int)%60<60:=by omega
   have hi:((10+(k:Int)%60).toNat:Int)=10+(k:Int)%60:=by omega
   have hv:=in_ (10+(k:Int)%60).toNat
   refine AG (Mid:=λG ds=>(∃z:Int,0<=z/\z<2000000/\G=frP (.list (ns.map int)) (.int a0) rs M (some (.int (0+(k:Int)))) (some (.int z)) none none none none none)/\∃cs:List Int,cs.length=k/\(∀z∈cs,0<=z/\z<4096)/\ds=cs.map int) (CV (j:=8) sc_law_program.nd rfl (by decide) (inl rfl) ?_) (AG (DU ?_ (pv 6)) (Br λ_ _ h=>h))
   .rintro G ds ⟨G',⟨⟨a,b,rfl⟩,cs,c1,c2,rfl⟩,rfl⟩
    refine⟨.int (rs.getD (10+(k:Int)%60).toNat 0+37*(k:Int)),A0 (Ae (A1 (evv 2) (Ae Ab (Ae (A0 (d':=.int (k:Int)) (evv 7) (by rw[zero_add])) Ab (AA (by decide))) A7) (hi▸at_ _ (by omega))) (Ae Ab (A0 (d':=.int (k:Int)) (evv 7) (by rw[zero_add])) (DH (inl ⟨by omega,by omega⟩))) A7) rfl,rfl,⟨_,by omega,by omega,rfl⟩,cs,c1,c2,rfl⟩
   .rintro G ds ⟨⟨z,z0,z1,rfl⟩,cs,c1,c2,rfl⟩
    have q0:0<=z/16%4/\z/16%4<4:=by omega
    have vs:∃v:Int,(0<=v/\v<4096)/\atI ([0,z%16,z%(16*(M:Int)),z%4096].map int) (z/16%4)=some (.int v):=by
     refine⟨_,?_,AX q0.1 q0.2⟩
     have m1:=emod_nonneg z (show 16*(M:Int)≠0 by omega)
     have m2:=emod_lt_of_pos z (show 0<16*(M:Int) by omega)
     have:(z/16%4).toNat=0\/(z/16%4).toNat=1\/(z/16%4).toNat=2\/(z/16%4).toNat=3:=by omega
     rcases this with h|h|h|h<;>rw[h]
     .exact show(0:Int)<=0/\(0:Int)<4096 by decide
     .show 0<=z%16/\z%16<4096;omega
     .show 0<=z%(16*(M:Int))/\z%(16*(M:Int))<4096;omega
     .show 0<=z%4096/\z%4096<4096;omega
    obtain⟨v,hv2,hat⟩:=vs
    refine⟨.int v,A1 (Bf (ds:=[.int 0,.int (z%16),.int (z%(16*(M:Int))),.int (z%4096)]) (Aa Ab (Aa (Ae (evv 8) Ab (AA (by decide))) (Aa (Ae (evv 8) (evv 5) (AA (by omega))) (Aa (Ae (evv 8) Ab (AA (by decide))) Ac)))) (by walk_at"sz")) (Ae (Ae (evv 8) Ab (by walk_at"od")) Ab (by walk_at"od")) hat,rfl,by rw[length_map,sizeLine_eq];omega,⟨_,_,rfl⟩,cs++[v],by rw[length_append,c1];rfl,λy hy=>?_,EW cs v⟩
    rcases mem_append.mp hy with hy|hy
    .exact c2 y hy
    .rw[mem_singleton.mp hy];exact hv2
  have b0:0<=rs.getD 0 0/36%6/\rs.getD 0 0/36%6<=5:=by omega
  refine BU (Mid:=λG ds=>(∃a b,G=frP (.list (ns.map int)) (.int a0) rs M a b (some (.int (rs.getD 0 0/36%6))) none none none none)/\∃cs:List Int,cs.length=16*M/\(∀z∈cs,0<=z/\z<4096)/\ds=cs.map int) (CV (j:=9) sc_law_program.nd rfl (by decide) (inl rfl) ?_) ?_
  .rintro G ds ⟨⟨a,b,rfl⟩,cs,c1,c2,rfl⟩
   exact⟨.int (rs.getD 0 0/36%6),Ae (Ae (evv 3) Ab (by walk_at"od")) Ab (by walk_at"od"),rfl,⟨a,b,rfl⟩,cs,c1,c2,rfl⟩
  have q0:0<=rs.getD 0 0/216%24/\rs.getD 0 0/216%24<24:=by omega
  have lok:LaidOk ((rs.drop 20).take (2+(rs.getD 0 0/216%24).toNat)) (rs.getD 0 0/36%6) (16*(M:Int)):=⟨by rw[length_take,length_drop];omega,by rw[length_take];omega,λn hn=>hw n (List.mem_of_mem_drop (List.mem_of_mem_take hn)),b0.1,b0.2,by omega,by omega⟩
  have ecut:cutD (rs.map int) (some 20) (some (20+2+rs.getD 0 0/216%24))=((rs.drop 20).take (2+(rs.getD 0 0/216%24).toNat)).map int:=by
   have:=JQ (l:=rs) (a:=20) (b:=22+(rs.getD 0 0/216%24).toNat) (by omega) (by omega)
   rw[show((22+(rs.getD 0 0/216%24).toNat:Nat):Int)=20+2+rs.getD 0 0/216%24 by omega,show 22+(rs.getD 0 0/216%24).toNat-20=2+(rs.getD 0 0/216%24).toNat by omega]at this
   exact this
  generalize (rs.drop 20).take (2+(rs.getD 0 0/216%24).toNat)=ls at lok ecut
  generalize hbs:rs.getD 0 0/36%6=bs at b0 lok
  refine BU (Mid:=λG ds=>(∃a b,G=frP (.list (ns.map int)) (.int a0) rs M a b (some (.int bs)) (some (.list ((EC ls bs (16*(M:Int))).map int))) (some (.list ((FF ls bs (16*(M:Int))).map int))) none none)/\∃cs:List Int,cs.length=16*M/\(∀z∈cs,0<=z/\z<4096)/\ds=cs.map int)
   (Qr (j:=10) (l:=11) (Cn rfl (A3 (Ay (i:=10) sc_law_program.nd rfl (inl rfl)) (A3 (Ay (i:=11) sc_law_program.nd rfl (inl rfl)) Bv))) (by decide) (by decide) ?_) ?_
  .rintro G ds ⟨⟨a,b,rfl⟩,cs,c1,c2,rfl⟩
   exact⟨_,_,Aq D_law_laid (by walk_at"rm") rfl (Aa (A0 (Iw (evv 2) (BC Ab) (BC (Ae (Ae Ab Ab A7) (Ae (Ae (evv 3) Ab (by walk_at"od")) Ab (by walk_at"od")) A7))) (congrArg list ecut)) (Aa (evv 9) (Aa (evv 5) Ac))) ⟨ls,bs,_,lok,rfl,rfl⟩,⟨a,b,rfl⟩,cs,c1,c2,rfl⟩
  have lfit:=Ni lok
  have lwd:=KG lok
  have lpl:=JL lok
  generalize EC ls bs (16*(M:Int))=ps at lpl
  generalize FF ls bs (16*(M:Int))=ws at lfit lwd
  have hwl:((ws.map int).length:Int)=ws.length:=by rw[length_map]
  have hwn:((ws.map int).length:Int).toNat=ws.length:=by rw[hwl,toNat_natCast]
  refine BU (Mid:=λG ds=>(∃a b,G=frP (.list (ns.map int)) (.int a0) rs M a b (some (.int bs)) (some (.list (ps.map int))) (some (.list (ws.map int))) none none)/\∃cs:List Int,cs.length=16*M/\(∀z∈cs,0<=z/\z<4096)/\ds=cs.map int)
   (EI (j:=7) (lo:=0) (n:=((ws.map int).length:Int).toNat) (λk G ds=>(∃a b,G=frP (.list (ns.map int)) (.int a0) rs M a b (some (.int bs)) (some (.list (ps.map int))) (some (.list (ws.map int))) none none)/\∃cs:List Int,cs.length=16*M/\(∀z∈cs,0<=z/\z<4096)/\ds=cs.map int) never rfl (by decide) (Ay (i:=7) sc_law_program.nd rfl (inl rfl)) ?pre2 ?body2 (λG ds h=>h)) ?_
  case pre2=>
   rintro G ds ⟨⟨a,b,rfl⟩,cs,c1,c2,rfl⟩
   exact⟨⟨⟨a,b,rfl⟩,cs,c1,c2,rfl⟩,Ly (Au "len" (Aa (evv 11) Ac) Bt rfl T.b_len (by decide+kernel)) (by omega) (by omega) rfl T.b_range⟩
  case body2=>
   intro k hk
   rw[hwn]at hk
   refine AG (S6 (k:=0) (pv 6) ?_) (Br λ_ _ h=>h)
   rintro G ds ⟨G',⟨⟨a,b,rfl⟩,cs,c1,c2,rfl⟩,rfl⟩
   have hx:=AX (zs:=ws) (i:=(k:Int)) (by omega) (by omega)
   rw[toNat_natCast]at hx
   refine⟨.int (ws.getD k 0),bs+(k:Int),A1 (evv 11) (A0 (d':=.int (k:Int)) (evv 7) (by rw[zero_add])) hx,rfl,Ae (evv 9) (A0 (d':=.int (k:Int)) (evv 7) (by rw[zero_add])) A7,by omega,by rw[length_map,c1];omega,⟨_,_,rfl⟩,cs.set (bs+(k:Int)).toNat (ws.getD k 0),by rw[length_set,c1],λz hz=>?_,BE _ _ _⟩
   rcases List.mem_or_eq_of_mem_set hz with hz|hz
   .exact c2 z hz
   .rw[hz]
    have hk2:k<ws.length:=hk
    rw[getD_eq_getElem?_getD,getElem?_eq_getElem hk2]
    exact lwd _ (getElem_mem hk2)
  refine Qb ?_
  rintro G ds ⟨⟨a,b,rfl⟩,cs,c1,c2,rfl⟩
  have v70:=in_ 70
  have v71:=in_ 71
  have v72:=in_ 72
  have v73:=in_ 73
  have v74:=in_ 74
  have m1:=emod_nonneg (rs.getD 71 0) (show 16*(M:Int)≠0 by omega)
  have m2:=emod_lt_of_pos (rs.getD 71 0) (show 0<16*(M:Int) by omega)
  have c9:cutD (rs.map int) (some 1) (some 9)=((rs.drop 1).take 8).map int:=JQ (l:=rs) (a:=1) (b:=9) (by decide) (by omega)
  have lps:((ps.map int).length:Int)=ps.length:=by rw[length_map]
  have fin:∀pl:Int,0<=pl->pl<4096->∃d,LW [.list (ns.map int),.int a0] d/\d=.tuple [.list ((Bd ((rs.drop 1).take 8) M).map AJ),.list (cs.map int),.list ([rs.getD 70 0%16,rs.getD 71 0%(16*(M:Int)),bs+rs.getD 72 0%16,rs.getD 73 0%4096].map int),.int pl]:=λpl p0 p1=>by
   refine⟨_,⟨⟨Bd ((rs.drop 1).take 8) M,cs,[rs.getD 70 0%16,rs.getD 71 0%(16*(M:Int)),bs+rs.getD 72 0%16,rs.getD 73 0%4096],pl,false,false,[],[],0⟩,⟨by show 1<=(Bd _ M).length;rw[DO];exact M1,by show(Bd _ M).length<=8;rw[DO];exact M8,by show cs.length=16*(Bd _ M).length;rw[DO];exact c1,c2,rfl,λz hz=>?_,⟨p0,p1⟩⟩,rfl⟩,rfl⟩
   simp only[mem_cons,not_mem_nil,or_false]at hz
   rcases hz with rfl|rfl|rfl|rfl<;>omega
  have pgs:Mh [.list (((rs.drop 1).take 8).map int),.int M] (.list ((Bd ((rs.drop 1).take 8) M).map AJ)):=⟨_,M,M8,by rw[length_take,length_drop];omega,rfl,rfl⟩
  by_cases hc:rs.getD 74 0%8=7/\0<(ps.length:Int)
  .have j0:0<=rs.getD 74 0/8%(ps.length:Int)/\rs.getD 74 0/8%(ps.length:Int)<ps.length:=⟨emod_nonneg _ (by omega),emod_lt_of_pos _ hc.2⟩
   have hpl:0<=ps.getD (rs.getD 74 0/8%(ps.length:Int)).toNat 0/\ps.getD (rs.getD 74 0/8%(ps.length:Int)).toNat 0<128:=by
    have hi:(rs.getD 74 0/8%(ps.length:Int)).toNat<ps.length:=by omega
    rw[getD_eq_getElem?_getD,getElem?_eq_getElem hi]
    exact lpl _ (getElem_mem hi)
   obtain⟨d,hd,ed⟩:=fin _ hpl.1 (by omega)
   refine⟨d,hd,?_⟩
   subst ed
   refine Ai (AE (i:=12) (d:=.list ([rs.getD 70 0%16,rs.getD 71 0%(16*(M:Int)),bs+rs.getD 72 0%16,rs.getD 73 0%4096].map int)) sc_law_program.nd rfl (inl rfl) (Bf (ds:=[.int (rs.getD 70 0%16),.int (rs.getD 71 0%(16*(M:Int))),.int (bs+rs.getD 72 0%16),.int (rs.getD 73 0%4096)]) (Aa (Ae (A1 (evv 2) Ab (at_ 70 (by decide))) Ab (AA (by decide))) (Aa (Ae (A1 (evv 2) Ab (at_ 71 (by decide))) (evv 5) (AA (by omega))) (Aa (Ae (evv 9) (Ae (A1 (evv 2) Ab (at_ 72 (by decide))) Ab (AA (by decide))) A7) (Aa (Ae (A1 (evv 2) Ab (at_ 73 (by decide))) Ab (AA (by decide))) Ac)))) (by walk_at"sz"))) ?_
   refine Ai (AE (i:=13) (d:=.int bs) sc_law_program.nd rfl (inl rfl) (evv 9)) ?_
   refine Ai (Av (k:=true) (Aj (AR (AF (k:=true) (k':=true) (Aj (Al (Ae (A1 (evv 2) Ab (at_ 74 (by decide))) Ab (AA (by decide))) Ab (AZ (by walk_at"un") rfl rfl (by walk_at"dp") (Bk _ _)) (Ak _)) (decide_eq_true hc.1)) (λ_=>AI (Aj (Al (Au "len" (Aa (evv 10) Ac) Bt rfl T.b_len (by decide+kernel)) Ab J4 (Ak _)) (by rw[lps];exact decide_eq_true hc.2))))) rfl) (λ_=>Ai (AE (i:=13) (d:=.int (ps.getD (rs.getD 74 0/8%(ps.length:Int)).toNat 0)) sc_law_program.nd rfl (inl rfl) (A1 (evv 10) (Ae (Ae (A1 (evv 2) Ab (at_ 74 (by decide))) Ab (by walk_at"od")) (A0 (Au "len" (Aa (evv 10) Ac) Bt rfl T.b_len (by decide+kernel)) (by rw[lps])) (AA hc.2)) (AX j0.1 j0.2))) At) nofun) ?_
   exact Af (Ap (A9 (ds:=[.list ((Bd ((rs.drop 1).take 8) M).map AJ),.list (cs.map int),.list ([rs.getD 70 0%16,rs.getD 71 0%(16*(M:Int)),bs+rs.getD 72 0%16,rs.getD 73 0%4096].map int),.int (ps.getD (rs.getD 74 0/8%(ps.length:Int)).toNat 0)]) (Aa (Aq D_law_pages (by walk_at"rm") rfl (Aa (A0 (Iw (evv 2) (BC Ab) (BC Ab)) (congrArg list c9)) (Aa (evv 4) Ac)) pgs) (Aa (evv 6) (Aa (evv 12) (Aa (evv 13) Ac)))) (by walk_at"sz")))
  .obtain⟨d,hd,ed⟩:=fin bs b0.1 (by omega)
   refine⟨d,hd,?_⟩
   subst ed
   refine Ai (AE (i:=12) (d:=.list ([rs.getD 70 0%16,rs.getD 71 0%(16*(M:Int)),bs+rs.getD 72 0%16,rs.getD 73 0%4096].map int)) sc_law_program.nd rfl (inl rfl) (Bf (ds:=[.int (rs.getD 70 0%16),.int (rs.getD 71 0%(16*(M:Int))),.int (bs+rs.getD 72 0%16),.int (rs.getD 73 0%4096)]) (Aa (Ae (A1 (evv 2) Ab (at_ 70 (by decide))) Ab (AA (by decide))) (Aa (Ae (A1 (evv 2) Ab (at_ 71 (by decide))) (evv 5) (AA (by omega))) (Aa (Ae (evv 9) (Ae (A1 (evv 2) Ab (at_ 72 (by decide))) Ab (AA (by decide))) A7) (Aa (Ae (A1 (evv 2) Ab (at_ 73 (by decide))) Ab (AA (by decide))) Ac)))) (by walk_at"sz"))) ?_
   refine Ai (AE (i:=13) (d:=.int bs) sc_law_program.nd rfl (inl rfl) (evv 9)) ?_
   refine Ai (Av (k:=false) (Aj (AR (AF (k:=decide (rs.getD 74 0%8=7)) (k':=decide (0<(ps.length:Int))) (Al (Ae (A1 (evv 2) Ab (at_ 74 (by decide))) Ab (AA (by decide))) Ab (AZ (by walk_at"un") rfl rfl (by walk_at"dp") (Bk _ _)) (Ak _)) (λ_=>AI (Aj (Al (Au "len" (Aa (evv 10) Ac) Bt rfl T.b_len (by decide+kernel)) Ab J4 (Ak _)) (by rw[lps]))))) (Hy hc)) nofun (λ_=>At)) ?_
   exact Af (Ap (A9 (ds:=[.list ((Bd ((rs.drop 1).take 8) M).map AJ),.list (cs.map int),.list ([rs.getD 70 0%16,rs.getD 71 0%(16*(M:Int)),bs+rs.getD 72 0%16,rs.getD 73 0%4096].map int),.int bs]) (Aa (Aq D_law_pages (by walk_at"rm") rfl (Aa (A0 (Iw (evv 2) (BC Ab) (BC Ab)) (congrArg list c9)) (Aa (evv 4) Ac)) pgs) (Aa (evv 6) (Aa (evv 12) (Aa (evv 13) Ac)))) (by walk_at"sz")))
 by_cases h5:rs.getD 0 0/4%9=5
 .refine CN (Av (k:=true) (Aj (Al (Ae (Ae (evv 3) Ab (by walk_at"od")) Ab (by walk_at"od")) Ab (AZ (by walk_at"un") rfl rfl (by walk_at"dp") (Bk _ _)) (Ak _)) (decide_eq_true h5)) (λ_=>Ai (AE (i:=4) (d:=.int 8) sc_law_program.nd rfl (inl rfl) Ab) At) nofun) ?_
  exact rest 8 (by decide) (by decide)
 .refine CN (Av (k:=false) (Aj (Al (Ae (Ae (evv 3) Ab (by walk_at"od")) Ab (by walk_at"od")) Ab (AZ (by walk_at"un") rfl rfl (by walk_at"dp") (Bk _ _)) (Ak _)) (decide_eq_false h5)) nofun (λ_=>At)) ?_
  have e4:(1+rs.getD 0 0%4:Int)=(((1+rs.getD 0 0%4).toNat:Nat):Int):=by omega
  rw[e4]
  exact rest _ (by omega) (by omega)
structure Kept(S S':MS):Prop where
 ok:MsOk S'
 pg:S'.pg=S.pg
 sto:S'.sto.length<=S.sto.length+1
 told:S'.told.length<=S.told.length+1
 sub:∀c∈S.sto,c∈S'.sto
 mem:∀n:Nat,S'.mem.getD n 0=S.mem.getD n 0\/(n:Int)∈S'.sto
theorem G9{l:List Int}{n:Nat}{v:Int}(h:∀z∈l,0<=z/\z<4096)(hv:0<=v/\v<4096):∀z∈l.set n v,0<=z/\z<4096:=λz hz=>by
 rcases List.mem_or_eq_of_mem_set hz with h1|h1
 .exact h z h1
 .rw[h1];exact hv
theorem NI{l:List Int}(h:∀z∈l,0<=z/\z<4096)(n:Nat):0<=l.getD n 0/\l.getD n 0<4096:=by
 rw[getD_eq_getElem?_getD]
 cases e:l[n]? with
 |none=>exact⟨Int.le_refl 0,by decide⟩
 |some v=>exact h v (mem_of_getElem? e)
theorem Fy(ok:MsOk S):Kept S S:=⟨ok,rfl,le_succ _,le_succ _,λ_ h=>h,λ_=>.inl rfl⟩
theorem LK{S':MS}(ok:MsOk S)(e1:S'.pg=S.pg)(e2:S'.mem=S.mem)(e3:S'.sto=S.sto)(e4:S'.told=S.told)(bl:S'.bx.length=4)(bw:∀z∈S'.bx,0<=z/\z<4096)(h:0<=S'.here/\S'.here<4096):Kept S S':=
 ⟨⟨by rw[e1];exact ok.p1,by rw[e1];exact ok.p8,by rw[e1,e2];exact ok.ml,by rw[e2];exact ok.mw,bl,bw,h⟩,e1,by rw[e3];omega,by rw[e4];omega,λc hc=>by rw[e3];exact hc,λn=>.inl (by rw[e2])⟩
theorem DZ(ok:MsOk S){x v:Int}(hv:0<=v/\v<4096):Kept S (setB S x v):=
 LK ok rfl rfl rfl rfl (by show(S.bx.set x.toNat v).length=4;rw[length_set];exact ok.bl) (G9 ok.bw hv) ok.h
theorem MY(ok:MsOk S){c v:Int}(hc:0<=c)(hv:0<=v/\v<4096):Kept S (Hh S c v):=by
 refine⟨⟨ok.p1,ok.p8,by show(S.mem.set c.toNat v).length=_;rw[length_set];exact ok.ml,G9 ok.mw hv,ok.bl,ok.bw,ok.h⟩,rfl,?_,le_succ _,λz hz=>mem_append_left _ hz,λn=>?_⟩
 .show(S.sto++[c]).length<=_
  rw[length_append]
  exact le_refl _
 .by_cases e:c.toNat=n
  .exact .inr (mem_append_right _ (by rw[show((n:Nat):Int)=c by omega];exact List.mem_singleton_self c))
  .refine .inl ?_
   show(S.mem.set c.toNat v).getD n 0=_
   rw[getD_eq_getElem?_getD,getD_eq_getElem?_getD,getElem?_set_ne e]
theorem MJ(ok:MsOk S){v:Int}:Kept S (J5 S v):=by
 refine⟨⟨ok.p1,ok.p8,ok.ml,ok.mw,ok.bl,ok.bw,ok.h⟩,rfl,le_succ _,?_,λ_ h=>h,λ_=>.inl rfl⟩
 show(S.told++[v]).length<=_
 rw[length_append]
 exact le_refl _
theorem NE(ok:MsOk S)(nm:Str)(nums:List Int):Kept S (Js S nm nums):=by
 have hw:∀z:Int,0<=z%4096/\z%4096<4096:=λz=>by omega
 refine LK ok rfl rfl rfl rfl ?_ ?_ ok.h
 .show(if nm="cmp"then S.bx else S.bx.set _ _).length=4
  split
  .exact ok.bl
  .rw[length_set];exact ok.bl
 .show ∀z∈(if nm="cmp"then S.bx else S.bx.set _ _),_
  split
  .exact ok.bw
  .exact G9 ok.bw (hw _)
theorem MP{nums:List Int}{j:Nat}(ok:MsOk S)(row:IsRow q nums j){b:Int}(hb:0<=b/\b<4096):Kept S (GT S q.1 nums b):=by
 unfold GT
 split
 .rename_i h
  have n1:=row.num (i:=1) (c:=110) (JY q row.mem (.inl h)) rfl
  have h4:B1 110=4096:=rfl
  exact DZ ok (by omega)
 split
 .exact DZ ok (Dz ok _)
 split
 .exact DZ ok (NI ok.mw _)
 split
 .exact DZ ok hb
 .exact Fy ok
theorem Pb{nums:List Int}{j:Nat}(ok:MsOk S)(row:IsRow q nums j){b:Int}(hb:0<=b/\b<4096):Kept S (effM S q nums b):=by
 unfold effM
 split
 .exact NE ok _ _
 split
 .exact MY ok (RP S nums).1 (Dz ok _)
 split
 .exact MJ ok
 .exact MP ok row hb
theorem R8{nums:List Int}{j:Nat}(ok:MsOk S)(row:IsRow q nums j):Kept S (doM S q nums j):=by
 have k:=Pb (R_ ok row) row (Q0 S q nums j)
 exact⟨⟨k.ok.p1,k.ok.p8,k.ok.ml,k.ok.mw,k.ok.bl,k.ok.bw,k.ok.h⟩,k.pg,k.sto,k.told,k.sub,k.mem⟩
theorem CP{S':MS}{wd:Str}(ok:MsOk S)(st:Ee S wd S'):Kept S S':=by
 rcases st with⟨_,e⟩|⟨j,q,nums,row,_,_,e⟩
 .rw[e];exact Fy ok
 .rw[e]
  split
  .exact R8 ok row
  .exact Fy ok
theorem JD{oa:Option Addr}{i:Nat}{G1:Gam}{lf lf1 lf2:LF}{df df1 df2:DF}{st:Stmt}(h:PS X st (yN X.K C oa i G lf df G1 lf1 df1))(e1:lf1=lf2)(e2:df1=df2):PS X st (yN X.K C oa i G lf df G1 lf2 df2):=by subst e1 e2;exact h
theorem Qx(S:MS):((.str "done_count",.int S.done):PyData×PyData)∈fldD (lfM S) (dfM S):=mem_of_getElem? (i:=7) rfl
theorem Q9(T:Txt mg)(CM:ClsM K mg C)(F:Fun K "pages" "Machine.pages" BO f fd)(hm:Meth K C "pages" f):MFn P w K mg base 1 C "pages" (λds d=>∃S:MS,ds=[mcD C S]/\d=.list (S.pg.map AJ)):=by
 refine F.dataM hm (by walk_at"b1") Fe (λds d ⟨_,e,_⟩=>by rw[e];rfl) λcdv A outer s H E ds d hr ⟨S,e,e2⟩=>?_
 subst e e2
 exact Af (Ap (Em (AS (Az CM.cl CM.n0 (evv 0) (FB S)) rfl T.b_list)))
theorem RH(T:Txt mg)(CM:ClsM K mg C)(F:Fun K "cells" "Machine.cells" BN f fd)(hm:Meth K C "cells" f):MFn P w K mg base 1 C "cells" (λds d=>∃S:MS,ds=[mcD C S]/\d=.list (S.mem.map int)):=by
 refine F.dataM hm (by walk_at"b1") Fs (λds d ⟨_,e,_⟩=>by rw[e];rfl) λcdv A outer s H E ds d hr ⟨S,e,e2⟩=>?_
 subst e e2
 exact Af (Ap (Em (AS (Az CM.cl CM.n1 (evv 0) (Id S)) rfl T.b_list)))
theorem QG(T:Txt mg)(CM:ClsM K mg C)(F:Fun K "boxes" "Machine.boxes" BJ f fd)(hm:Meth K C "boxes" f):MFn P w K mg base 1 C "boxes" (λds d=>∃S:MS,ds=[mcD C S]/\d=.list (S.bx.map int)):=by
 refine F.dataM hm (by walk_at"b1") Fl (λds d ⟨_,e,_⟩=>by rw[e];rfl) λcdv A outer s H E ds d hr ⟨S,e,e2⟩=>?_
 subst e e2
 exact Af (Ap (Em (AS (Az CM.cl CM.n2 (evv 0) (E_ S)) rfl T.b_list)))
theorem PV(T:Txt mg)(CM:ClsM K mg C)(F:Fun K "truths" "Machine.truths" B6 f fd)(hm:Meth K C "truths" f):MFn P w K mg base 1 C "truths" (λds d=>∃S:MS,ds=[mcD C S]/\d=.tuple [.bool S.tz,.bool S.tl]):=by
 refine F.dataM hm (by walk_at"b1") ER (λds d ⟨_,e,_⟩=>by rw[e];rfl) λcdv A outer s H E ds d hr ⟨S,e,e2⟩=>?_
 subst e e2
 exact Af (Ap (Az CM.cl CM.n4 (evv 0) (MA S)))
theorem RU(T:Txt mg)(CM:ClsM K mg C)(F:Fun K "place" "Machine.place" BM f fd)(hm:Meth K C "place" f):MFn P w K mg base 1 C "place" (λds d=>∃S:MS,ds=[mcD C S]/\d=.int S.here):=by
 refine F.dataM hm (by walk_at"b1") Fv (λds d ⟨_,e,_⟩=>by rw[e];rfl) λcdv A outer s H E ds d hr ⟨S,e,e2⟩=>?_
 subst e e2
 exact Af (Ap (Az CM.cl CM.n3 (evv 0) (He S)))
theorem Tr(T:Txt mg)(CM:ClsM K mg C)(F:Fun K "told" "Machine.told" Cf f fd)(hm:Meth K C "told" f):MFn P w K mg base 1 C "told" (λds d=>∃S:MS,ds=[mcD C S]/\d=.list (S.told.map int)):=by
 refine F.dataM hm (by walk_at"b1") FK (λds d ⟨_,e,_⟩=>by rw[e];rfl) λcdv A outer s H E ds d hr ⟨S,e,e2⟩=>?_
 subst e e2
 exact Af (Ap (Em (AS (Az CM.cl CM.n5 (evv 0) (Qo S)) rfl T.b_list)))
theorem Td(T:Txt mg)(CM:ClsM K mg C)(F:Fun K "done" "Machine.done" B_ f fd)(hm:Meth K C "done" f):MFn P w K mg base 1 C "done" (λds d=>∃S:MS,ds=[mcD C S]/\d=.int S.done):=by
 refine F.dataM hm (by walk_at"b1") FP (λds d ⟨_,e,_⟩=>by rw[e];rfl) λcdv A outer s H E ds d hr ⟨S,e,e2⟩=>?_
 subst e e2
 exact Af (Ap (Az CM.cl CM.n7 (evv 0) (Qx S)))
def staD(S:MS):PyData:=.tuple [.list (S.bx.map int),.tuple [.bool S.tz,.bool S.tl],.int S.here,.list (S.mem.map int),.list (S.told.map int),.int S.done]
theorem Ry(CM:ClsM K mg C)(D_boxes:MFn P w K mg base 1 C "boxes" (λds d=>∃S:MS,ds=[mcD C S]/\d=.list (S.bx.map int)))(D_truths:MFn P w K mg base 1 C "truths" (λds d=>∃S:MS,ds=[mcD C S]/\d=.tuple [.bool S.tz,.bool S.tl]))(D_place:MFn P w K mg base 1 C "place" (λds d=>∃S:MS,ds=[mcD C S]/\d=.int S.here))(D_cells:MFn P w K mg base 1 C "cells" (λds d=>∃S:MS,ds=[mcD C S]/\d=.list (S.mem.map int)))(D_told:MFn P w K mg base 1 C "told" (λds d=>∃S:MS,ds=[mcD C S]/\d=.list (S.told.map int)))(D_done:MFn P w K mg base 1 C "done" (λds d=>∃S:MS,ds=[mcD C S]/\d=.int S.done))(F:Fun K "state" "Machine.state" BQ f fd)(hm:Meth K C "state" f):MFn P w K mg base 2 C "state" (λds d=>∃S:MS,ds=[mcD C S]/\d=staD S):=by
 refine F.dataM hm (by walk_at"b1") Fa (λds d ⟨_,e,_⟩=>by rw[e];rfl) λcdv A outer s H E ds d hr ⟨S,e,e2⟩=>?_
 subst e e2
 unfold staD
 refine Af (Ap (A9 (ds:=[.list (S.bx.map int),.tuple [.bool S.tz,.bool S.tl],.int S.here,.list (S.mem.map int),.list (S.told.map int),.int S.done]) ?_ (by walk_at"sz")))
 refine Aa (AM CM.cl D_boxes (by walk_at"rm") (evv 0) ⟨S,rfl,rfl⟩) ?_
 refine Aa (AM CM.cl D_truths (by walk_at"rm") (evv 0) ⟨S,rfl,rfl⟩) ?_
 refine Aa (AM CM.cl D_place (by walk_at"rm") (evv 0) ⟨S,rfl,rfl⟩) ?_
 refine Aa (AM CM.cl D_cells (by walk_at"rm") (evv 0) ⟨S,rfl,rfl⟩) ?_
 refine Aa (AM CM.cl D_told (by walk_at"rm") (evv 0) ⟨S,rfl,rfl⟩) ?_
 refine Aa (AM CM.cl D_done (by walk_at"rm") (evv 0) ⟨S,rfl,rfl⟩) ?_
 exact Ac
def putM(S:MS)(bs:List Int)(z l:Bool)(p m:Int):MS:={S with bx:=bs,tz:=z,tl:=l,here:=p,done:=S.done+m}
def Sm(lf:LF)(df:DF)(ds:List PyData)(lf':LF)(df':DF):Prop:=∃(S:MS) (bs:List Int) (z l:Bool) (p m:Int),lf=lfM S/\df=dfM S/\ds=[.list (bs.map int),.tuple [.bool z,.bool l],.int p,.int m]/\lf'=lfM (putM S bs z l p m)/\df'=dfM (putM S bs z l p m)
theorem UD(T:Txt mg)(CM:ClsM K mg C)(F:Fun K "put" "Machine.put" C2 f fd)(hm:Meth K C "put" f):YFn P w K mg base 1 C "put" Sm:=by
 refine F.objY hm (F.binds λ_ _ _ _ _ _ us hl=>match us,hl with|[_,_,_,_,_],_=>rfl) Hl (λlf df ds lf' df' ⟨_,_,_,_,_,_,_,_,e,_⟩=>by rw[e];rfl) λcdv A outer s H E a lf df ds lf' df' hr ⟨S,bs,z,l,p,m,e1,e2,e3,e4,e5⟩=>?_
 subst e1 e2 e3 e4 e5
 refine⟨none::AT ["boxes","truths","place","more"] [.list (bs.map int),.tuple [.bool z,.bool l],.int p,.int m],QZ (lf1:=lfM {S with bx:=bs}) (df1:=dfM {S with bx:=bs}) (JD (FV CM.cl CM.n2 (pv 0) (AS (evv 1) rfl T.b_list) (BF _) (mem_of_getElem? (i:=2) rfl) (by decide)) (Fx S bs) rfl) (Ts λR hC=>?_)⟩
 subst hC
 refine Aw (Cy (I2:=MZ K R {S with bx:=bs,tz:=z,tl:=l}) (FW (f:="truth_pair") CM.cl CM.n4 mem_cons_self (pv 0) (Ex "tuple" (Aa (evv 2) Ac) N0 rfl T.b_tuple (by decide+kernel)) rfl (Sf _) (by decide)) (by rw[OZ];rfl)) ?_
 refine Aw (Cy (I2:=MZ K R {S with bx:=bs,tz:=z,tl:=l,here:=p}) (FW (f:="here") CM.cl CM.n3 mem_cons_self (pv 0) (evv 3) rfl (Pt _) (by decide)) (by rw[LJ];rfl)) ?_
 exact Aw (Cy (I2:=MZ K R (putM S bs z l p m)) (Ph CM.cl CM.n7 mem_cons_self (pv 0) (evv 4) (NO _) (by decide)) (by rw[LX];rfl)) A6
def Ju(S:MS):MS:={S with sto:=[]}
theorem P3(ok:MsOk S):MsOk (Ju S):=⟨ok.p1,ok.p8,ok.ml,ok.mw,ok.bl,ok.bw,ok.h⟩
def BR(l:List Int)(S:MS):MS:={S with sto:=l++S.sto}
theorem RA(S:MS)(l:List Int)(q:Str×Str)(nums:List Int)(b:Int):effM (BR l S) q nums b=BR l (effM S q nums b):=by
 unfold effM
 by_cases h1:q.1∈rnames
 .rw[if_pos h1,if_pos h1];rfl
 rw[if_neg h1,if_neg h1]
 by_cases h2:q.1="store"
 .rw[if_pos h2,if_pos h2]
  show Hh (BR l S) (Bl S nums) (boxM S (nums.getD 0 0))=_
  unfold Hh BR
  rw[List.append_assoc]
 rw[if_neg h2,if_neg h2]
 by_cases h3:q.1="out"
 .rw[if_pos h3,if_pos h3];rfl
 rw[if_neg h3,if_neg h3]
 unfold GT
 by_cases h4:q.1="set"
 .rw[if_pos h4,if_pos h4];rfl
 rw[if_neg h4,if_neg h4]
 by_cases h5:q.1="move"
 .rw[if_pos h5,if_pos h5];rfl
 rw[if_neg h5,if_neg h5]
 by_cases h6:q.1="load"
 .rw[if_pos h6,if_pos h6];rfl
 rw[if_neg h6,if_neg h6]
 by_cases h7:q.1="call"
 .rw[if_pos h7,if_pos h7];rfl
 rw[if_neg h7,if_neg h7]
theorem SB(S:MS)(l:List Int)(q:Str×Str)(nums:List Int)(j:Nat):doM (BR l S) q nums j=BR l (doM S q nums j):=by
 have h:=RA (goM S q nums j) l q nums (behM S q nums j)
 show({effM (BR l (goM S q nums j)) q nums (behM S q nums j)with done:=(effM (BR l (goM S q nums j)) q nums (behM S q nums j)).done+1}:MS)=_
 rw[h]
 rfl
theorem NV{S':MS}{wd:Str}(l:List Int)(st:Ee S wd S'):Ee (BR l S) wd (BR l S'):=by
 rcases st with⟨e,e'⟩|⟨j,q,nums,row,e,ew,e'⟩
 .exact .inl ⟨e,by rw[e']⟩
 .refine .inr ⟨j,q,nums,row,e,ew,?_⟩
  show BR l S'=if C0 S q.1 nums=""then doM (BR l S) q nums j else BR l S
  rw[e']
  split
  .rw[SB]
  .rfl
theorem Ur(S:MS):BR S.sto (Ju S)=S:=by
 unfold BR Ju
 rw[append_nil]
open Classical in
noncomputable def NL (S:MS):Str×MS:=if h:∃p:Str×MS,Ee (Ju S) p.1 p.2 then h.choose else("",S)
noncomputable def Am (S:MS):Str×MS:=((NL S).1,BR S.sto (NL S).2)
theorem EE(ok:MsOk S):Ee S (Am S).1 (Am S).2:=by
 obtain⟨wd,S',st⟩:=QJ (P3 ok)
 have hx:∃p:Str×MS,Ee (Ju S) p.1 p.2:=⟨(wd,S'),st⟩
 have e:NL S=hx.choose:=dif_pos hx
 have h:=NV S.sto hx.choose_spec
 rw[Ur,<-e]at h
 exact h
noncomputable def runF:Nat->MS->Nat×Str×MS
 |0,S=>(0,"",S)
 |n+1,S=>if(Am S).1=""then((runF n (Am S).2).1+1,(runF n (Am S).2).2)else(0,(Am S).1,(Am S).2)
theorem HV:∀(n:Nat) {S:MS},MsOk S->MsOk (runF n S).2.2/\(runF n S).2.2.sto.length<=S.sto.length+n/\(runF n S).2.2.told.length<=S.told.length+n/\(runF n S).2.2.pg=S.pg
 |0,S,ok=>⟨ok,le_refl _,le_refl _,rfl⟩
 |n+1,S,ok=>by
  have k:=CP ok (EE ok)
  have k1:=k.sto
  have k2:=k.told
  unfold runF
  split
  .obtain⟨h1,h2,h3,h4⟩:=HV n k.ok
   exact⟨h1,by show(runF n (Am S).2).2.2.sto.length<=_;omega,by show(runF n (Am S).2).2.2.told.length<=_;omega,h4.trans k.pg⟩
  .exact⟨k.ok,by show(Am S).2.sto.length<=_;omega,by show(Am S).2.told.length<=_;omega,k.pg⟩
theorem Gz{S':MS}{wd:Str}(ok:MsOk S)(st:Ee S wd S'):canLay0 (.str wd)=true:=by
 rcases st with⟨e,_⟩|⟨j,q,nums,row,e,ew,_⟩
 .rcases HQ ok S.here with⟨w2,hw,e2⟩|⟨j,q,nums,row,e2⟩
  .rw[e]at e2
   cases e2
   first|exact hw|(rcases hw with rfl|rfl|rfl<;>decide+kernel)|(rcases hw with rfl|rfl<;>decide+kernel)|(subst hw;decide+kernel)
  .rw[e]at e2
   cases e2
 .rw[ew]
  exact Jv _ _ _
variable{β:Type}
variable{R:CtR}{m:Led}{rs:List (Nat×Addr)}{G':Gam}{i:Nat}{p:Int}{pos3 apos:Pos}
variable{RM:OR}{dn:Addr}{nm:List ((Int×Int)×Int)}
variable{CM:Addr}{j n:Nat}{p4:Pos}
theorem rep0(n:Nat):(replicate n [int 0]).flatten=(replicate n (0:Int)).map int:=by
 induction n with
 |zero=>rfl
 |succ n ih=>rw[replicate_succ,flatten_cons,ih,replicate_succ,map_cons];rfl
def CO(S:MS):MS:={pg:=S.pg,mem:=replicate S.mem.length 0,bx:=replicate 4 0,here:=0,tz:=false,tl:=false,told:=[],sto:=[],done:=0}
theorem QT(ok:MsOk S):MsOk (CO S):=
 ⟨ok.p1,ok.p8,by show(replicate S.mem.length (0:Int)).length=_;rw[length_replicate];exact ok.ml,λz hz=>by rw[List.eq_of_mem_replicate hz];decide,rfl,λz hz=>by rw[List.eq_of_mem_replicate hz];decide,by show(0:Int)<=0/\(0:Int)<4096;decide⟩
def NQ(C:Addr)(ds:List PyData)(lf:LF)(df:DF):Prop:=∃S:MS,MsOk S/\ds=[mcD C S]/\lf=lfM S/\df=dfM S
theorem JO(S:MS):putM {CO S with mem:=S.mem,told:=S.told,sto:=S.sto} S.bx S.tz S.tl S.here S.done=S:=by
 cases S
 unfold putM CO
 simp only[zero_add]
theorem T6(T:Txt mg)(CM:ClsM K mg C)(D0:OIFn P w K mg base 5 C RC)(D_put:YFn P w K mg base 1 C "put" Sm)(F:Fun K "twin" "Machine.twin" Ck f fd)(hm:Meth K C "twin" f):NMFn P w K mg base 7 C "twin" (NQ C):=by
 refine F.newM hm (by walk_at"b1") sc_Machine_twin (λds lf df ⟨_,_,e,_⟩=>by rw[e];rfl) λcdv A outer s H E ds lf df hr ⟨S,ok,e1,e2,e3⟩=>?_
 subst e1 e2 e3
 have hml:((S.mem.map int).length:Int)=S.mem.length:=by rw[length_map]
 have hp8:=ok.p8
 have hmem:=ok.ml
 refine Rz (C:=C) (i:=1) (lf:=lfM (CO S)) (df:=dfM (CO S)) (OS (ds:=[.list (S.pg.map AJ),.list ((replicate S.mem.length (0:Int)).map int),.list ((replicate 4 (0:Int)).map int),.int 0]) sc_Machine_twin.nd rfl (inl rfl) (by show 1<2;decide) rfl D0 (by walk_at"rm") rfl CM.at_ ?args ⟨CO S,QT ok,rfl,rfl,rfl,rfl,rfl,rfl,rfl,rfl⟩) ?_
 case args=>
  refine Aa (Az CM.cl CM.n0 (evv 0) (FB S)) (Aa (A0 (Em (Mr (k:=(S.mem.length:Int)) (xs:=[.int 0]) (Bf (ds:=[.int 0]) (Aa Ab Ac) (by walk_at"sz")) (A0 (Au "len" (Aa (Az CM.cl CM.n1 (evv 0) (Id S)) Ac) Bt rfl T.b_len (by decide+kernel)) (congrArg int hml)) (by omega) (by omega) (by rw[sizeLine_eq,toNat_natCast];show 1*S.mem.length<=_;omega))) (by rw[toNat_natCast,rep0])) (Aa (A0 (Em (Mr (k:=4) (xs:=[.int 0]) (Bf (ds:=[.int 0]) (Aa Ab Ac) (by walk_at"sz")) Ab (by decide) (by decide) (by rw[sizeLine_eq];decide))) rfl) (Aa Ab Ac)))
 refine Ga (JD (lf2:=lfM {CO S with mem:=S.mem}) (df2:=dfM {CO S with mem:=S.mem}) (FV (f:="memory") CM.cl CM.n1 (pv 1) (AS (Az CM.cl CM.n1 (evv 0) (Id S)) rfl T.b_list) (BF _) (mem_of_getElem? (i:=1) rfl) (by decide)) (On (CO S) S.mem) rfl) ?_
 refine Ga (JD (lf2:=lfM {CO S with mem:=S.mem,told:=S.told}) (df2:=dfM {CO S with mem:=S.mem,told:=S.told}) (FV (f:="told_words") CM.cl CM.n5 (pv 1) (AS (Az CM.cl CM.n5 (evv 0) (Qo S)) rfl T.b_list) (BF _) (mem_of_getElem? (i:=3) rfl) (by decide)) (LY _ S.told) rfl) ?_
 refine Ga (JD (lf2:=lfM {CO S with mem:=S.mem,told:=S.told,sto:=S.sto}) (df2:=dfM {CO S with mem:=S.mem,told:=S.told,sto:=S.sto}) (FV (f:="stored_cells") CM.cl CM.n6 (pv 1) (AS (Az CM.cl CM.n6 (evv 0) (U0 S)) rfl T.b_list) (BF _) (mem_of_getElem? (i:=4) rfl) (by decide)) (Pl _ S.sto) rfl) ?_
 refine Ga (JD (lf2:=lfM S) (df2:=dfM S) (RE (ds:=[.list (S.bx.map int),.tuple [.bool S.tz,.bool S.tl],.int S.here,.int S.done]) CM.cl D_put (by walk_at"rm") (pv 1) (λR hC=>Cr (E9 (Az CM.cl CM.n2 (evv 0) (E_ S))) (Cr (E9 (Az CM.cl CM.n4 (evv 0) (MA S))) (Cr (E9 (Az CM.cl CM.n3 (evv 0) (He S))) (Cr (E9 (Az CM.cl CM.n7 (evv 0) (Qx S))) IT)))) ⟨_,S.bx,S.tz,S.tl,S.here,S.done,rfl,rfl,rfl,rfl,rfl⟩) (by rw[JO]) (by rw[JO])) ?_
 exact TF (pv 1)
theorem Ie{n:Nat}(h:n+64<cLine):n+1<cLine:=by omega
structure ClsC(K:Frag)(mg:Str->Option Value)(C:Addr):Prop where
 cl:Cls K C
 n1:NoAttr K C "led"
 at_:mg "Counts"=some (.ref C)
theorem NC{a:Expr}{i:Nat}{m:Led}{z:Int}{p5 apos dpos:Pos}(hu:X.A.units+1<cLine)(cl:Cls X.K C)(na:NoAttr X.K C "led")(hv:PE X (.Name x pos2) (tVar i))(hG:G[i]?=some (some (ctD C m)))(hi:EV X G a (.int z))
  (m2:M2 X (.Attribute (.Name x pos2) "led" p5) "get" apos a (.Dict [] [] dpos) pos)(hb:attributeBase (.Name x pos2) "led" X.env (eval (.Name x pos2) X.env)=eval (.Name x pos2) X.env:=by rfl):
  EV X G (.Call (.Attribute (.Attribute (.Name x pos2) "led" p5) "get" apos) [a,.Dict [] [] dpos] [] pos) (.dict (dI (inn m z))):=
 (Ia (L:=[]) (I:=λ_=>True) (rs:=[]) ⟨λh _=>h,(λ_ b hb=>by cases hb),(λ_ _ hm=>by cases hm)⟩ hu cl na hv hG hi m2 hb).imp λσ H Q ⟨h,q⟩=>⟨⟨λ_ h=>(by cases h),True.intro,by rw[F_];exact h⟩,λv H' _ s dv=>q v H' (by rw[F_,F_]at s;exact s) (by rw[F_]at dv;exact dv)⟩
def N_(C:Addr)(ds:List PyData)(d:PyData):Prop:=∃(m:Led) (p t:Int),ds=[ctD C m,.int p,.int t]/\d=.int (getI (inn m p) t)
theorem R6(CC:ClsC K mg C)(F:Fun K "often" "Counts.often" Cb f fd)(hm:Meth K C "often" f):MFn P w K mg base 1 C "often" (N_ C):=by
 refine F.dataM hm (by walk_at"b3") FT (λds d ⟨_,_,_,e,_⟩=>by rw[e];rfl) λcdv A outer s H E ds d hr ⟨m,p,t,e,e2⟩=>?_
 subst e e2
 exact Af (Ap (Rw (n:=0) (Ie (by walk_at"un")) (NC (Ie (by walk_at"un")) CC.cl CC.n1 (pv 0) rfl (evv 1) ⟨rfl,rfl,rfl,rfl⟩) (evv 2) Ab ⟨rfl,rfl,rfl,rfl⟩))
abbrev tb54(T:Addr):CoT:=⟨T,⟨16,36,16,54⟩,"Counts.guess.<locals>.<lambda>"⟩
def CW(m:Led)(p:Int):Option Int:=FG (srtI ((inn m p).map (·.1))) (λz=>getI (inn m p) z)
def LI(C:Addr)(ds:List PyData)(d:PyData):Prop:=∃(m:Led) (p:Int),(inn m p).length<64/\ds=[ctD C m,.int p]/\d=Dk (CW m p)
theorem Qp{z:Int}:∀{l:List Int},z∈srtI l->z∈l:=λ{l} h=>(EH z l).mp h
theorem NM{l:List (Int×Int)}{z:Int}(h:z∈l.map (·.1)):l.lookup z=some (getI l z):=by
 unfold getI
 cases e:l.lookup z with
 |some v=>rfl
 |none=>
  exfalso
  induction l with
  |nil=>cases h
  |cons q l ih=>
   rw[lookup_cons]at e
   by_cases hz:z=q.1
   .subst hz;simp at e
   .rw[show(z==q.1)=false from by simpa using hz]at e
    rcases mem_cons.mp h with h|h
    .exact hz h
    .exact ih h e
theorem RB(T:Txt mg){Ta c:Addr}(CC:ClsC K mg C)(hC:CodeHd base c Ta)(hB:base.BuiltinsAt mg Ta)(F:Fun K "guess" "Counts.guess" Ch f fd)(hcd:fd.code=.ref c)(hm:Meth K C "guess" f):TbM P w K mg base 2 (tb54 Ta) C "guess" (LI C):=by
 refine⟨f,fd,["self","place"],tbOk F sc_Counts_guess (λds d ⟨_,_,_,e,_⟩=>by rw[e];rfl) λcdv A outer s H E o ds d ecd hr ⟨m,p,h64,e,e2⟩=>?_,hm,by walk_at"b2"⟩
 subst e e2
 have ecd:cdv=.ref c:=ecd.symm.trans hcd
 subst ecd
 obtain⟨l,el⟩:∃l,l=inn m p:=⟨_,rfl⟩
 unfold CW
 rw[<-el]at h64 ⊢
 refine A_ (G1:=[some (ctD C m),some (.int p),some (.dict (dI l))]) (Bb (i:=2) (d:=.dict (dI l)) sc_Counts_guess.nd rfl (by show 2∉[];decide) (by first|exact inl rfl|exact inr rfl) (by rw[el];exact Ia tb_ok (Ie (by walk_at"un")) CC.cl CC.n1 (pv 0) rfl (evv 1) ⟨rfl,rfl,rfl,rfl⟩)) ?_
 have ek:(dI l).map (λq=>intOf q.1)=l.map (·.1):=by unfold dI;rw[map_map];rfl
 refine OX (NH (m:=l) (c:=c) (jy:=2) rfl (by walk_at"rm") (A0 (Em (Jk rfl (evv 2) (λq hq=>?_) (Op l) (by unfold dI;rw[length_map];exact h64) rfl T.b_sorted)) (by rw[ek])) rfl T.b_max rfl hC hB rfl rfl rfl rfl rfl (inr (inl rfl)) rfl rfl (λz hz=>NM (Qp hz)) (λ_ _ _ _=>rfl) rfl rfl rfl (by decide) rfl (λ_ _ _=>rfl) (λ_ _ _=>rfl))
 obtain⟨q0,_,rfl⟩:=mem_map.mp hq
 exact⟨_,rfl⟩
def stepK(c:Int->Int)(b n:Int):Int:=if c n>c b then n else b
theorem Kg(l:List Int)(c:Int->Int):∀(k j:Nat) (b:Int),j+k=l.length->upK (λi=>l.getD i 0) c b j k=(l.drop j).foldl (stepK c) b
 |0,j,b,h=>by
  rw[List.drop_eq_nil_of_le (by omega)]
  rfl
 |k+1,j,b,h=>by
  have hj:j<l.length:=by omega
  rw[List.drop_eq_getElem_cons hj,foldl_cons,upK,Kg l c k (j+1) _ (by omega)]
  have e:l.getD j 0=l[j]:=by rw[getD_eq_getElem?_getD,getElem?_eq_getElem hj];rfl
  show(l.drop (j+1)).foldl (stepK c) (if c (l.getD j 0)>c b then l.getD j 0 else b)=_
  rw[e]
  rfl
theorem Hg(x:Int)(r:List Int)(c:Int->Int):FG (x::r) c=some (r.foldl (stepK c) x):=by
 unfold FG
 show some (upK (λi=>(x::r).getD i 0) c x 1 ((x::r).length-1))=_
 rw[Kg (x::r) c ((x::r).length-1) 1 x (by rw[length_cons];omega)]
 rfl
def Oq(ds:List PyData)(d:PyData):Prop:=(∃i:Int,ds=[.int i])/\d=.bool true
theorem U4(T:Txt mg)(F:Fun K "_law_whole" "_law_whole" Dx f fd)(hm:mg "_law_whole"=some (.ref f)):DFn P w K mg base 1 "_law_whole" Oq:=by
 refine F.data hm (by walk_at"b1") Ix (λds d ⟨⟨_,e⟩,_⟩=>by rw[e];rfl) λcdv A outer s H E ds d hr ⟨⟨i,e⟩,e2⟩=>?_
 subst e e2
 exact Af (Ap (A0 (Do (Hm (n:="int") (evv 0) rfl T.b_isinstance rfl T.b_int (by decide+kernel) (by rfl)) (λ_=>(Fj (I_ (Hm (n:="bool") (evv 0) rfl T.b_isinstance rfl T.b_bool (by decide+kernel) (by rfl))))) (by walk_at"bf")) rfl))
theorem RV{n:Nat}(h:n+64<cLine):n<cLine:=by omega
def lgS(p:Int)(b:Option (Int×Int))(q:(Int×Int)×Int):Option (Int×Int):=if q.1.1=p/\(∀z,b=some z->HT.lexLt [0-q.2,q.1.2] [z.1,z.2]=true)then some (0-q.2,q.1.2)else b
def bD(b:Option (Int×Int)):PyData:=match b with
 |none=>.none
 |some z=>.tuple [.int z.1,.int z.2]
def lgO(nm:List ((Int×Int)×Int))(p:Int):Option (Int×Int):=nm.foldl (lgS p) none
def OL(ds:List PyData)(d:PyData):Prop:=∃(nm:List ((Int×Int)×Int)) (p:Int),ds=[.dict (ppE nm),.int p]/\d=Dk ((lgO nm p).map (·.2))
abbrev frL(p:Int)(b:Option (Int×Int))(x3 x4:Option PyData):Gam:=[none,some (.int p),some (bD b),x3,x4]
theorem JG(F:Fun K "_law_guess" "_law_guess" Dl f fd)(hm:mg "_law_guess"=some (.ref f)):DFn P w K mg base 1 "_law_guess" OL:=by
 refine⟨f,fd,["noted","place"],F.ok sc_law_guess (λvs H Q E ⟨ds,d,h,⟨_,_,e,_⟩,_⟩=>by rw[h.length,e];rfl) ?_,hm,F.kp,by walk_at"b2"⟩
 rintro cdv A outer s H vs Q E hr ⟨ds,d,dvs,⟨nm,p,e,e2⟩,q⟩
 subst e e2
 obtain⟨v1,v2,rfl,d1,d2⟩:=dvs.two
 have ev:=d2.of_int
 subst ev
 obtain⟨dn,nm',rfl,hdn,em⟩:=d1.of_pp
 have em:=Mg em
 subst em
 have g:Ges ([]++([dn],Pz dn nm')::[]):=Bq To
 have gF:∀ob,Ges ([]++([dn],Fz dn ob nm')::[]):=λob=>Bq Rp
 refine⟨zV K (LZ ([]++([dn],Pz dn nm')::[])) (TZ ([]++([dn],Pz dn nm')::[])) [(0,dn)] [none,some (.int p),none,none,none] (λ_ _ _=>False) (λL' v H'=>L'=[dn]/\Pz dn nm' H'/\DV K (lef L' H') v (Dk ((lgO nm' p).map (·.2)))),?_,⟨?_,?_,?_⟩,λ_ _ _ f=>f.elim,λL' v H' ⟨el,hP,dv⟩ s=>?_⟩
 .refine A_ (G1:=frL p none none none) (Bb (i:=2) (d:=.none) sc_law_guess.nd rfl (by show 2∉[0];decide) (inl rfl) (Bp g.ok DC rfl)) ?_
  refine J2 (j1:=3) (j2:=4) (i:=0) g (λk G=>∃x3 x4,G=frL p ((nm'.take k).foldl (lgS p) none) x3 x4) never rfl (λq hq=>by rw[mem_singleton.mp hq];show 0∉[3,4];decide) (Cn rfl (A3 (Ay (i:=3) sc_law_guess.nd rfl (by first|exact inl rfl|exact inr rfl)) (A3 (Ay (i:=4) sc_law_guess.nd rfl (by first|exact inl rfl|exact inr rfl)) Bv))) (pv 0) mem_cons_self ⟨_,_,rfl⟩ ?body ?done
  case body=>
   rintro ob k p' t v G hk ⟨x3,x4,rfl⟩
   have ok:ZOk (LZ ([]++([dn],Pz dn nm')::[])) (TZ ([]++([dn],Fz dn ob nm')::[])):=(gF ob).ok
   obtain⟨b,eb⟩:∃b,b=(nm'.take k).foldl (lgS p) none:=⟨_,rfl⟩
   have enext:(nm'.take (k+1)).foldl (lgS p) none=lgS p b ((p',t),v):=by rw[List.take_succ,hk,List.foldl_append,<-eb];rfl
   rw[enext,<-eb]
   have e0:atI [int p',.int t] 0=some (.int p'):=rfl
   have e1:atI [int p',.int t] 1=some (.int t):=rfl
   refine A_ (G1:=frL p (lgS p b ((p',t),v)) (some (.tuple [.int p',.int t])) (some (.int v))) ?upd (Eg λσ H rz=>⟨rfl,_,⟨_,_,rfl⟩,rz⟩)
   case upd=>
    by_cases hp:p'=p
    .by_cases hb:∀z,b=some z->HT.lexLt [0-v,t] [z.1,z.2]=true
     .have es:lgS p b ((p',t),v)=some (0-v,t):=by unfold lgS;rw[if_pos ⟨hp,hb⟩]
      rw[es]
      cases b with
      |none=>exact IK (k:=true) (BL (AH ok (Aj (AR (AF (k:=true) (k':=true) (Aj (Al (A4 (evv 3) Ab e0) (evv 1) (AZ (by walk_at"un") rfl rfl (by walk_at"dp") (Bk _ _)) (Ak _)) (decide_eq_true hp)) (λ_=>AI (Aj (AR (B3 (k:=true) (k':=true) (CU (evv 2) rfl) nofun)) rfl)))) rfl))) (λ_=>Aw (Bb (i:=2) (d:=.tuple [.int (0-v),.int t]) sc_law_guess.nd rfl (by show 2∉[0];decide) (inl rfl) (Bp ok (A9 (ds:=[.int (0-v),.int t]) (Aa (Ae Ab (evv 4) Hk) (Aa (A4 (evv 3) Ab e1) Ac)) (by walk_at"sz")) rfl)) A6) nofun
      |some z=>
       have hl:=hb z rfl
       exact IK (k:=true) (BL (AH ok (Aj (AR (AF (k:=true) (k':=true) (Aj (Al (A4 (evv 3) Ab e0) (evv 1) (AZ (by walk_at"un") rfl rfl (by walk_at"dp") (Bk _ _)) (Ak _)) (decide_eq_true hp)) (λ_=>AI (Aj (AR (B3 (k:=false) (k':=true) (CU (evv 2) rfl) (λ_=>By (Aj (Al (A9 (ds:=[.int (0-v),.int t]) (Aa (Ae Ab (evv 4) Hk) (Aa (A4 (evv 3) Ab e1) Ac)) (by walk_at"sz")) (Fu (d:=.tuple [.int z.1,.int z.2]) 2 (by rfl) (pv 2)) (OM (ns:=[0-v,t]) (ms:=[z.1,z.2]) (RV (by walk_at"un"))) (Ak _)) hl)))) rfl)))) rfl))) (λ_=>Aw (Bb (i:=2) (d:=.tuple [.int (0-v),.int t]) sc_law_guess.nd rfl (by show 2∉[0];decide) (inl rfl) (Bp ok (A9 (ds:=[.int (0-v),.int t]) (Aa (Ae Ab (evv 4) Hk) (Aa (A4 (evv 3) Ab e1) Ac)) (by walk_at"sz")) rfl)) A6) nofun
     .have es:lgS p b ((p',t),v)=b:=by unfold lgS;rw[if_neg λz=>hb z.2]
      rw[es]
      obtain⟨z,ez,hl⟩:∃z,b=some z/\HT.lexLt [0-v,t] [z.1,z.2]=false:=by
       cases b with
       |none=>exact(hb λz e=>by cases e).elim
       |some z=>exact⟨z,rfl,by
        cases hh:HT.lexLt [0-v,t] [z.1,z.2]with
        |false=>rfl
        |true=>exact(hb λz' e=>by cases e;exact hh).elim⟩
      subst ez
      exact IK (k:=false) (BL (AH ok (Aj (AR (AF (k:=true) (k':=false) (Aj (Al (A4 (evv 3) Ab e0) (evv 1) (AZ (by walk_at"un") rfl rfl (by walk_at"dp") (Bk _ _)) (Ak _)) (decide_eq_true hp)) (λ_=>AI (Aj (AR (B3 (k:=false) (k':=false) (CU (evv 2) rfl) (λ_=>By (Aj (Al (A9 (ds:=[.int (0-v),.int t]) (Aa (Ae Ab (evv 4) Hk) (Aa (A4 (evv 3) Ab e1) Ac)) (by walk_at"sz")) (Fu (d:=.tuple [.int z.1,.int z.2]) 2 (by rfl) (pv 2)) (OM (ns:=[0-v,t]) (ms:=[z.1,z.2]) (RV (by walk_at"un"))) (Ak _)) hl)))) rfl)))) rfl))) nofun (λ_=>A6)
    .have es:lgS p b ((p',t),v)=b:=by unfold lgS;rw[if_neg λz=>hp z.1]
     rw[es]
     exact IK (k:=false) (BL (AH ok (Aj (AR (AF (k:=false) (k':=false) (Aj (Al (A4 (evv 3) Ab e0) (evv 1) (AZ (by walk_at"un") rfl rfl (by walk_at"dp") (Bk _ _)) (Ak _)) (decide_eq_false hp)) nofun)) rfl))) nofun (λ_=>A6)
  case done=>
   rintro G ⟨x3,x4,rfl⟩
   rw[List.take_length]
   show PSs _ _ (zV K _ _ _ (frL p (lgO nm' p) x3 x4) _ _)
   have el:LZ ([]++([dn],Pz dn nm')::[])=[dn]:=rfl
   have hP:∀H',TZ ([]++([dn],Pz dn nm')::[]) H'->Pz dn nm' H':=λH' t=>t.2 ([dn],Pz dn nm') mem_cons_self
   cases lgO nm' p with
   |none=>
    refine Om (BL (AH g.ok (CU (evv 2) rfl))) ?_
    exact Fb (d:=.none) (Bp g.ok DC rfl) λv H' i' dv=>⟨el,hP _ i',dv⟩
   |some z=>
    refine IQ (BL (AH g.ok (CU (evv 2) rfl))) ?_
    exact Fb (d:=.int z.2) (Bp g.ok (A4 (ds:=[.int z.1,.int z.2]) (evv 2) Ab rfl) rfl) λv H' i' dv=>⟨el,hP _ i',dv⟩
 .intro z hz;rw[mem_singleton.mp hz];rfl
 .exact⟨List.pairwise_singleton _ _,λz hz=>by rw[mem_singleton.mp hz];exact hdn⟩
 .refine⟨rfl,λi d e=>?_⟩
  match i,e with
  |1,e=>cases e;exact⟨_,rfl,.int p⟩
  |0,e=>cases e
  |2,e=>cases e
  |3,e=>cases e
  |4,e=>cases e
 .subst el
  refine q v H' (λc o e=>?_) (dv.mono lef_same)
  by_cases hc:c=dn
  .subst hc
   rw[hdn]at e;cases e
   exact hP
  .have:=s c o (by rw[An (by simpa[LZ]using hc)];exact e)
   rw[An (by simpa using hc)]at this
   exact this
theorem OG{H H':Hp}{p:Int}{l l':List (Int×Int)}{b:Addr}(hb:H' b=some (.dK (intK l'))):∀{kvs:List (Key×V)}{m:Led}{ins:List Addr},InK H kvs m ins->ins.Nodup->(m.map (·.1)).Nodup->m.lookup p=some l->valV kvs (.inl p)=some (.ref b)->(∀c∈ins,c≠b->∀o,H c=some o->H' c=some o)->InK H' kvs (m.map λq=>if q.1=p then(q.1,l')else q) ins
 |_,_,_,.nil,_,_,e,_,_=>by cases e
 |_,_,_,.cons (p:=p0) (l:=l0) (kvs:=kvs) (m:=m) (b:=b0) (ins:=ins) h t,ni,nm,e,hv,k=>by
  rw[nodup_cons]at ni
  rw[map_cons,nodup_cons]at nm
  rw[map_cons]
  by_cases hz:p0=p
  .subst hz
   have eb:b0=b:=by
    rw[DE rfl]at hv
    injection hv with hv
    injection hv
   subst eb
   rw[if_pos rfl]
   refine .cons hb ?_
   have em:(m.map λq=>if q.1=p0 then(q.1,l')else q)=m:=by
    refine(map_congr_left λq hq=>?_).trans (map_id _)
    rw[if_neg λ(e1:q.1=p0)=>nm.1 (mem_map.mpr ⟨q,hq,e1⟩)]
    rfl
   rw[em]
   exact t.mono λc hc o eo=>k c (mem_cons_of_mem _ hc) (λz=>ni.1 (z▸hc)) o eo
  .rw[if_neg hz]
   have e2:m.lookup p=some l:=by
    rw[lookup_cons]at e
    simpa[show(p==p0)=false from by simpa using symm hz]using e
   have hv2:valV kvs (.inl p)=some (.ref b):=by
    rw[Di λz=>hz (Sum.inl.inj z)]at hv
    exact hv
   have hbi:b0≠b:=λz=>by
    obtain⟨c,hc,h1,_⟩:=(t.val p).2 l e2
    rw[hv2]at h1
    injection h1 with h1
    injection h1 with h1
    exact ni.1 (z▸h1▸hc)
   exact .cons (k b0 mem_cons_self hbi _ h) (OG hb t ni.2 nm.2 e2 hv2 λc hc=>k c (mem_cons_of_mem _ hc))
theorem Mm{H:Hp}{p:Int}{l:List (Int×Int)}{b:Addr}(hb:H b=some (.dK (intK l))):∀{kvs:List (Key×V)}{m:Led}{ins:List Addr},InK H kvs m ins->InK H (kvs++[(.inl p,.ref b)]) (m++[(p,l)]) (ins++[b])
 |_,_,_,.nil=>.cons hb .nil
 |_,_,_,.cons h t=>.cons h (Mm hb t)
theorem Jr(l:List (Int×Int))(t:Int):(valV (intK l) (.inl t)).getD (.int 0)=V.int (getI l t):=by
 have h:valV (intK l) (.inl t)=(l.lookup t).map V.int:=(DVk.intsK (K:=[]) (H:=λ_=>none) l).valI t
 rw[h]
 unfold getI
 cases l.lookup t<;>rfl
def spNt(C:Addr):Sp:=λvs H Q _=>∃(R:CtR) (m:Led) (p t:Int),CtZ C R m H/\(m.map (·.1)).Nodup/\m.length<100000/\(inn m p).length<100000/\vs=[.ref R.a,.int p,.int t]/\
 ∀R' H',R'.a=R.a->CtZ C R' (B5 m p t) H'->Same (lef R.L H) (lef R'.L H')->Q .non H'
def NtFn(P:Program)(w:World)(K:Frag)(mg:Str->Option Value)(base:Heap)(k:Nat)(C:Addr):Prop:=
 ∃f fd ps,FnOk P w K mg base CX0 k f fd ps (spNt C)/\Meth K C "note" f/\Binds K fd ps []
theorem R9(CC:ClsC K mg C)(F:Fun K "note" "Counts.note" BA f fd)(hm:Meth K C "note" f):NtFn P w K mg base 1 C:=by
 refine⟨f,fd,["self","place","to"],F.ok sc_Counts_note (λvs H Q E ⟨R,m,p,t,_,_,_,_,e,_⟩=>by rw[e];rfl) ?_,hm,by walk_at"b3"⟩
 rintro cdv A outer s H vs Q E hr ⟨R,m,p,t,hz,nd,l1,l2,e,q⟩
 subst e
 have hu:(cxOf CX0 P w K mg base ["self","place","to","led"] "Counts.note" (Ad BA) f cdv A outer s H E).nox.A.units+1<cLine:=Ie (by walk_at"un")
 refine⟨_,As (Bn (i:=3) sc_Counts_note.nd rfl (inl rfl) (Lb (GJ (pv 0) rfl) (pv 1) GP ⟨rfl,rfl,rfl,rfl⟩)) (M7 (LQ hu (pv 3) (pv 2) (L5 Lk (DL hu (pv 3) (pv 2) pe_int ⟨rfl,rfl,rfl,rfl⟩) pe_int) rfl)),?_⟩
 obtain⟨h1,h2,hn,kvs,h3,h4⟩:=id hz
 have hlk:kvs.length<sizeLine:=by rw[h4.len,sizeLine_eq];omega
 refine⟨.ref R.a,rfl,R.a,C,R.dx,_,.ref R.D,rfl,h1,CC.cl,CC.n1,by simp,R.D,rfl,.inl ⟨kvs,.inl h3⟩,.int p,rfl,λe he=>?_⟩
 have heD:R.D≠e:=Ao h3 he
 have hDe:upd H e (.dK []) R.D=some (.dK kvs):=by rw[Ag heD];exact h3
 have hne:∀b∈R.L,b≠e:=λb hb z=>ct_ok.free hz (z▸he) hb
 have hLD:R.D∈R.L:=mem_cons_of_mem _ (mem_cons_of_mem _ mem_cons_self)
 have hLi:∀b∈R.ins,b∈R.L:=λb hb=>mem_cons_of_mem _ (mem_cons_of_mem _ (mem_cons_of_mem _ hb))
 have hnd:(R.ins).Nodup/\R.a∉R.ins/\R.dx∉R.ins/\R.D∉R.ins/\R.a≠R.dx/\R.a≠R.D/\R.dx≠R.D:=by
  have:=hn
  simp only[CtR.L,nodup_cons,mem_cons,not_or]at this
  exact⟨this.2.2.2,this.1.2.2,this.2.1.2,this.2.2.1,this.1.1,this.1.2.1,this.2.1.1⟩
 obtain⟨ni,na,nx,nD,nadx,naD,nxD⟩:=hnd
 refine⟨kvs,.inl p,hDe,rfl,hlk,λv hv=>?_,λhv=>?_⟩
 .have hpl:∃l,m.lookup p=some l:=by
   cases e0:m.lookup p with
   |none=>rw[(h4.val p).1 e0]at hv;cases hv
   |some l=>exact⟨l,rfl⟩
  obtain⟨l,el⟩:=hpl
  obtain⟨b,hb,hvb,hbl⟩:=(h4.val p).2 l el
  rw[hvb]at hv
  cases hv
  have hbe:upd H e (.dK []) b=some (.dK (intK l)):=by rw[Ag (hne b (hLi b hb))];exact hbl
  have hll:inn m p=l:=by unfold inn;rw[el];rfl
  rw[hll]at l2
  refine⟨.ref b,rfl,b,rfl,.inl ⟨_,.inl hbe⟩,.int t,rfl,_,DGet.k (k:=.inl t) hbe,getI l t,1,Jr l t,rfl,.ref b,rfl,.int t,rfl,b,_,rfl,DPut.k (k:=.inl t) hbe (by show(intK l).length<_;unfold intK;rw[length_map,sizeLine_eq];omega),?_⟩
  rw[Ke]
  have hup:∀c,c≠b->c≠e->upd (upd H e (.dK [])) b (.dK (intK (putI l t (getI l t+1)))) c=H c:=λc c1 c2=>by rw[Ag c1,Ag c2]
  have hbn:∀c,c∉R.ins->c≠b:=λc hc z=>hc (z▸hb)
  have ez:B5 m p t=m.map λq=>if q.1=p then(q.1,putI l t (getI l t+1))else q:=by
   unfold B5 putL
   rw[hll,el]
   rfl
  refine q R _ rfl ⟨?_,?_,hn,kvs,?_,?_⟩ ?_
  .rw[hup _ (hbn _ na) (hne _ mem_cons_self)];exact h1
  .rw[hup _ (hbn _ nx) (hne _ (mem_cons_of_mem _ mem_cons_self))];exact h2
  .rw[hup _ (hbn _ nD) (hne _ hLD)];exact h3
  .rw[ez]
   exact OG Ah h4 ni nd el hvb λc hc cb o eo=>by rw[hup c cb (hne c (hLi c hc))];exact eo
  .intro c o eo
   have hc:c∉R.L:=λz=>by rw[A5 z]at eo;cases eo
   rw[An hc]at eo ⊢
   rw[hup c (λz=>hc (z▸hLi b hb)) (Ao eo he)]
   exact eo
 .have el:m.lookup p=none:=by
   cases e0:m.lookup p with
   |none=>rfl
   |some l=>
    obtain⟨b,_,hvb,_⟩:=(h4.val p).2 l e0
    rw[hvb]at hv;cases hv
  have ekv:putK kvs (.inl p) (.ref e)=kvs++[(.inl p,.ref e)]:=by
   unfold putK
   rw[if_neg (by rw[EJ,hv];simp)]
  rw[ekv]
  have hee:upd (upd H e (.dK [])) R.D (.dK (kvs++[(.inl p,.ref e)])) e=some (.dK (intK [])):=by rw[Ag (symm heD),Ah];rfl
  have hll:inn m p=[]:=by unfold inn;rw[el];rfl
  refine⟨.ref e,rfl,e,rfl,.inl ⟨_,.inl hee⟩,.int t,rfl,_,DGet.k (k:=.inl t) hee,getI [] t,1,Jr [] t,rfl,.ref e,rfl,.int t,rfl,e,_,rfl,DPut.k (k:=.inl t) hee (by rw[sizeLine_eq];show 0<16777216;decide),?_⟩
  rw[Ke]
  obtain⟨H3,eH⟩:∃H3,H3=upd (upd (upd H e (.dK [])) R.D (.dK (kvs++[(.inl p,.ref e)]))) e (.dK (intK (putI [] t (getI [] t+1)))):=⟨_,rfl⟩
  rw[<-eH]
  have hup:∀c,c≠R.D->c≠e->H3 c=H c:=λc c1 c2=>by rw[eH,Ag c2,Ag c1,Ag c2]
  have hD3:H3 R.D=some (.dK (kvs++[(.inl p,.ref e)])):=by rw[eH,Ag heD,Ah]
  have he3:H3 e=some (.dK (intK (putI [] t (getI [] t+1)))):=by rw[eH,Ah]
  have ez:B5 m p t=m++[(p,putI [] t (getI [] t+1))]:=by
   unfold B5 putL
   rw[hll,el]
   rfl
  have neL:e∉R.L:=λz=>hne e z rfl
  refine q ⟨R.a,R.dx,R.D,R.ins++[e]⟩ _ rfl ⟨?_,?_,?_,_,hD3,?_⟩ ?_
  .rw[hup _ naD (hne _ mem_cons_self)];exact h1
  .rw[hup _ nxD (hne _ (mem_cons_of_mem _ mem_cons_self))];exact h2
  .show(R.L++[e]).Nodup
   rw[nodup_append]
   refine⟨hn,nodup_cons.mpr ⟨not_mem_nil,nodup_nil⟩,λc hc d hd z=>?_⟩
   rw[mem_singleton.mp hd]at z
   exact neL (z▸hc)
  .rw[ez]
   exact Mm he3 (h4.mono (H':=H3) λc hc o eo=>by rw[hup c (λz=>nD (z▸hc)) (hne c (hLi c hc))];exact eo)
  .intro c o eo
   have hc:c∉R.L:=λz=>by rw[A5 z]at eo;cases eo
   rw[An hc]at eo
   have hce:=Ao eo he
   show lef (R.L++[e]) H3 c=some o
   rw[An (show c∉R.L++[e]from λz=>(mem_append.mp z).elim hc λz=>hce (mem_singleton.mp z)),hup c (λz=>hc (z▸hLD)) hce]
   exact eo
def putA{α β:Type} [BEq α] [DecidableEq α](l:List (α×β))(k:α)(v:β):List (α×β):=if(l.lookup k).isSome=true then l.map (λq=>if q.1=k then(q.1,v)else q)else l++[(k,v)]
section
variable{α:Type}[BEq α][LawfulBEq α][DecidableEq α]
theorem CT(k:α)(v:β)(l:List (α×β)):((k,v)::l).lookup k=some v:=by rw[lookup_cons];simp
theorem Cg{k k':α}(h:k'≠k)(v:β)(l:List (α×β)):((k,v)::l).lookup k'=l.lookup k':=by
 rw[lookup_cons]
 simp[show(k'==k)=false from by simpa using h]
theorem lk_mem{k:α}:∀{l:List (α×β)},(l.lookup k).isSome=true↔k∈l.map (·.1)
 |[]=>by simp
 |(k0,v)::l=>by
  by_cases h:k=k0
  .subst h;rw[CT];simp
  .rw[Cg h,lk_mem (l:=l),map_cons,mem_cons]
   exact⟨inr,λz=>z.elim (λz=>(h z).elim) id⟩
theorem KC(k:α)(v:β)(k':α):∀(l:List (α×β)),(l.lookup k).isSome=true->(l.map λq=>if q.1=k then(q.1,v)else q).lookup k'=if k'=k then some v else l.lookup k'
 |[],h=>by cases h
 |(k0,v0)::l,h=>by
  rw[map_cons]
  by_cases h0:k0=k
  .subst h0
   rw[if_pos rfl]
   by_cases h1:k'=k0
   .subst h1;rw[CT,if_pos rfl]
   .rw[Cg h1,Cg h1,if_neg h1]
    by_cases h2:(l.lookup k0).isSome=true
    .rw[KC k0 v k' l h2,if_neg h1]
    .have e:(l.map λq=>if q.1=k0 then(q.1,v)else q)=l:=(map_congr_left λq hq=>by
      rw[if_neg λe=>h2 (lk_mem.mpr (mem_map.mpr ⟨q,hq,e⟩))];rfl).trans (map_id _)
     rw[e]
  .rw[if_neg h0]
   have h2:(l.lookup k).isSome=true:=by rw[Cg (symm h0)]at h;exact h
   by_cases h1:k'=k0
   .subst h1;rw[CT,CT,if_neg h0]
   .rw[Cg h1,Cg h1,KC k v k' l h2]
theorem Mi(k:α)(v:β)(k':α):∀(l:List (α×β)),¬(l.lookup k).isSome=true->(l++[(k,v)]).lookup k'=if k'=k then some v else l.lookup k'
 |[],_=>by
  by_cases h:k'=k
  .subst h;rw[if_pos rfl];exact CT _ _ _
  .rw[if_neg h];exact Cg h _ _
 |(k0,v0)::l,h=>by
  have h0:k≠k0:=λe=>h (by subst e;rw[CT];rfl)
  have h2:¬(l.lookup k).isSome=true:=by rw[Cg h0]at h;exact h
  rw[cons_append]
  by_cases h1:k'=k0
  .subst h1;rw[CT,CT,if_neg (symm h0)]
  .rw[Cg h1,Cg h1,Mi k v k' l h2]
theorem NX(l:List (α×β))(k:α)(v:β)(k':α):(putA l k v).lookup k'=if k'=k then some v else l.lookup k':=by
 unfold putA
 split
 .rename_i h;exact KC k v k' l h
 .rename_i h;exact Mi k v k' l h
theorem Lf(l:List (α×β))(k:α)(v:β):(putA l k v).map (·.1)=if(l.lookup k).isSome=true then l.map (·.1)else l.map (·.1)++[k]:=by
 unfold putA
 split
 .rw[map_map]
  refine map_congr_left λq _=>?_
  show(if q.1=k then(q.1,v)else q).1=q.1
  split<;>rfl
 .rw[map_append];rfl
theorem Lr{l:List (α×β)}(h:(l.map (·.1)).Nodup)(k:α)(v:β):((putA l k v).map (·.1)).Nodup:=by
 rw[Lf]
 split
 .exact h
 .rename_i h2
  rw[nodup_append]
  refine⟨h,nodup_cons.mpr ⟨not_mem_nil,nodup_nil⟩,λa ha b hb e=>?_⟩
  rw[mem_singleton.mp hb]at e
  exact h2 (lk_mem.mpr (e▸ha))
theorem SQ{l:List (α×β)}{k x:α}{v:β}(h:x∈(putA l k v).map (·.1)):x∈l.map (·.1)\/x=k:=by
 rw[Lf]at h
 split at h
 .exact .inl h
 .exact(mem_append.mp h).imp id mem_singleton.mp
end
theorem UH(nm:List ((Int×Int)×Int))(p t n:Int):putK (ppK nm) [.inl p,.inl t] (.int n)=ppK (putA nm (p,t) n):=by
 have hany:((ppK nm).any λkv=>decide (kv.1=([.inl p,.inl t]:List Key)))=(nm.lookup (p,t)).isSome:=by
  rw[EJ,Oo]
  cases nm.lookup (p,t)<;>rfl
 unfold putK putA
 rw[hany]
 by_cases h:(nm.lookup (p,t)).isSome=true
 .rw[if_pos h,if_pos h]
  unfold ppK
  rw[map_map,map_map]
  refine map_congr_left λq _=>?_
  show(if([.inl q.1.1,.inl q.1.2]:List Key)=[.inl p,.inl t]then _ else _)=(([.inl (if q.1=(p,t)then(q.1,n)else q).1.1,.inl (if q.1=(p,t)then(q.1,n)else q).1.2]:List Key),V.int (if q.1=(p,t)then(q.1,n)else q).2)
  by_cases hq:q.1=(p,t)
  .rw[if_pos hq,if_pos (by rw[hq])]
  .rw[if_neg hq,if_neg]
   intro e
   injection e with e1 e2
   injection e2 with e2 _
   exact hq (Prod.ext (Sum.inl.inj e1) (Sum.inl.inj e2))
 .rw[if_neg h,if_neg h]
  unfold ppK
  rw[map_append]
  rfl
theorem Dp(m:Led)(p t p':Int):inn (B5 m p t) p'=if p'=p then putI (inn m p) t (getI (inn m p) t+1)else inn m p':=by
 show((putA m p (putI (inn m p) t (getI (inn m p) t+1))).lookup p').getD []=_
 rw[NX]
 by_cases h:p'=p
 .rw[if_pos h,if_pos h];rfl
 .rw[if_neg h,if_neg h];rfl
theorem Ri(nm:List ((Int×Int)×Int))(p t n p' t':Int):rdG (putA nm (p,t) n) p' t'=if p'=p/\t'=t then n else rdG nm p' t':=by
 unfold rdG
 rw[NX]
 by_cases h:p'=p/\t'=t
 .rw[if_pos h,if_pos (by rw[h.1,h.2])];rfl
 .rw[if_neg h,if_neg λe=>h ⟨congrArg (·.1) e,congrArg (·.2) e⟩]
theorem fa3{α:Type}{P:α->Prop}{a b c:α}(h1:P a)(h2:P b)(h3:P c):∀x∈[a,b,c],P x:=λx hx=>by
 simp only[mem_cons,not_mem_nil,or_false]at hx
 rcases hx with rfl|rfl|rfl<;>assumption
abbrev mI(K:Frag)(R:OR)(S:MS):Zt:=(R.L,MZ K R S)
theorem gd_M{R:OR}:Gd (mI K R S):=UN (fa3 rfl rfl rfl)
theorem GK{R:OR}:Ge (mI K R S):=⟨gd_M.ok,gd_M.ap⟩
theorem PZ{R:OR}{H:Hp}(hC:R.C=C)(h:MZ K R S H):DV K H (.ref R.a) (mcD C S):=by
 have:=Oz.dv h
 rw[hC]at this
 exact this
noncomputable def foM:Led->MS->Nat->Led
 |m,_,0=>m
 |m,S,n+1=>if(Am S).1=""then foM (B5 m S.here (Am S).2.here) (Am S).2 n else m
noncomputable def ldP:List ((Int×Int)×Int)->MS->Nat->List ((Int×Int)×Int)
 |nm,_,0=>nm
 |nm,S,n+1=>if(Am S).1=""then ldP (putA nm (S.here,(Am S).2.here) (rdG nm S.here (Am S).2.here+1)) (Am S).2 n else nm
def LB(m:Led)(b:Nat):Prop:=m.length<=b/\∀p,(inn m p).length<=b
theorem GA{α:Type} [BEq α] [LawfulBEq α] [DecidableEq α](l:List (α×β))(k:α)(v:β):(putA l k v).length<=l.length+1:=by
 unfold putA
 split
 .rw[length_map];omega
 .rw[length_append];exact le_refl _
theorem Qk(l:List (Int×Int))(a n:Int):(putI l a n).length<=l.length+1:=by
 unfold putI
 split
 .rw[length_map];omega
 .rw[length_append];exact le_refl _
theorem LB.note{m:Led}{b:Nat}(h:LB m b)(p t:Int):LB (B5 m p t) (b+1):=by
 refine⟨?_,λp'=>?_⟩
 .have:=GA m p (putI (inn m p) t (getI (inn m p) t+1))
  have h1:=h.1
  show(putA m p (putI (inn m p) t (getI (inn m p) t+1))).length<=_
  omega
 .rw[Dp]
  split
  .have:=Qk (inn m p) t (getI (inn m p) t+1)
   have h1:=h.2 p
   omega
  .have:=h.2 p';omega
abbrev its2(K:Frag)(C:Addr)(RM:OR)(R:CtR)(m:Led)(S:MS):List Zt:=[(R.L,CtZ C R m),mI K RM S]
theorem ges2{RM:OR}{R:CtR}{m:Led}:Ges (its2 K C RM R m S):=λz hz=>by
 simp only[mem_cons,not_mem_nil,or_false]at hz
 rcases hz with rfl|rfl
 .exact S_
 .exact GK
def spFo(K:Frag)(C CM:Addr):Sp:=λvs H Q _=>∃(R:CtR) (m:Led) (RM:OR) (S:MS) (n b:Nat),RM.C=CM/\TZ (its2 K C RM R m S) H/\MsOk S/\S.sto.length+n<100000/\S.told.length+n<100000/\(m.map (·.1)).Nodup/\LB m b/\b+n<100000/\vs=[.ref R.a,.ref RM.a,.int (n:Int)]/\
 ∀R' v H',R'.a=R.a->TZ (its2 K C RM R' (foM m S n) (runF n S).2.2) H'->Same (lef (LZ (its2 K C RM R m S)) H) (lef (LZ (its2 K C RM R' (foM m S n) (runF n S).2.2)) H')->DV K (lef (LZ (its2 K C RM R' (foM m S n) (runF n S).2.2)) H') v (.tuple [.int (runF n S).1,.str (runF n S).2.1])->Q v H'
def FoFn(P:Program)(w:World)(K:Frag)(mg:Str->Option Value)(base:Heap)(k:Nat)(C CM:Addr):Prop:=
 ∃f fd ps,FnOk P w K mg base CX0 k f fd ps (spFo K C CM)/\Meth K C "follow" f/\Binds K fd ps []
section
variable{A B:List Zt}{k:Nat}{es:List Expr}{q:Int}
theorem Oh{pl:Sem Bool}(g:Ges (A++(R.L,CtZ C R m)::B))(cl:Cls X.K C)(D:NtFn X.prog X.w X.K X.mg X.base k C)(hr:Room k X.A)(nd:(m.map (·.1)).Nodup){b:Nat}(lb:LB m b)(hb':b<100000)(hi:(i,R.a)∈rs)(hv:PE X (.Name x pos3) (tVar i))(v:Sees X.K (LZ (A++(R.L,CtZ C R m)::B)) (TZ (A++(R.L,CtZ C R m)::B)) rs G G')(ha:AV X G' (e::es) [.int p,.int q])
  (hst:Zst X e es:=by rfl)(hpl:(backTo pos (starEach es X.env)).any (·.1)=false:=by rfl)
  (ht:eval (.Call (.Attribute (.Name x pos3) "note" apos) (e::es) [] pos) X.env=(do
   let ov <-eval (.Name x pos3) X.env
   standAt apos.atName
   let(f,first) <-holding [ov] (getMethod ov "note" pl)
   callWith pos f first (backTo pos (starEach (e::es) X.env)) (backToKw pos (keywordEach [] X.env))):=by rfl)
  (hs:swapsWith (.Call (.Attribute (.Name x pos3) "note" apos) (e::es) [] pos) none pos2.line X.env=pure false:=by rfl):
  PS X (.Expr (.Call (.Attribute (.Name x pos3) "note" apos) (e::es) [] pos) pos2) (zV X.K (LZ (A++(R.L,CtZ C R m)::B)) (TZ (A++(R.L,CtZ C R m)::B)) rs G (λL' σ' H'=>∃R',R'.a=R.a/\L'=LZ (A++(R'.L,CtZ C R' (B5 m p q))::B)/\RZ X.K (LZ (A++(R'.L,CtZ C R' (B5 m p q))::B)) (TZ (A++(R'.L,CtZ C R' (B5 m p q))::B)) rs G σ' H') noRt):=by
 obtain⟨f,fd,ps,ok,hm,hb⟩:=D
 refine(Cu (DS (E:=E0) (dvs:=[]) (ds:=[]) hv cl hm ok hr hb .nil Ci ha hst hpl ht) hs).imp λD σ H ⟨r,q1,_⟩=>⟨.ref R.a,r.1 _ hi,?_⟩
 have hz1:CtZ C R m H:=r.2.1.2 _ (mem_mid.mpr (.inl rfl))
 refine⟨R.a,R.dx,_,rfl,hz1.1,by rw[lookup_cons,show(("note":Str)==("led":Str))=false from by decide];rfl,v σ H r,λvs H2 s2 dv=>?_⟩
 obtain⟨v1,v2,rfl,d1,d2⟩:=dv.two
 have d1:=d1.of_int
 have d2:=d2.of_int
 subst d1 d2
 have r2:=r.step g.ok s2
 have hz2:CtZ C R m H2:=r2.2.1.2 _ (mem_mid.mpr (.inl rfl))
 refine⟨R,m,p,q,hz2,nd,by have:=lb.1;omega,by have:=lb.2 p;omega,rfl,λR' H' ea hz s=>?_⟩
 obtain⟨t3,s3⟩:=Fp (it:=(R.L,CtZ C R m)) (it':=(R'.L,CtZ C R' (B5 m p q))) g r2.2.1 s hz
 have sT:=s2.lef.trans s3
 exact q1 _ _ _ ⟨R',ea,rfl,GX r t3 sT⟩ sT
end
structure YF where
 R:CtR
 m:Led
 S:MS
 k:Nat
 x4:Option PyData
 x5:Option PyData
abbrev frF(n k:Nat)(x4 x5:Option PyData):Gam:=[none,none,some (.int (n:Int)),some (.int (k:Int)),x4,x5]
structure WF(R0:CtR)(m:Led)(S:MS)(n b:Nat)(k:Nat)(y:YF):Prop where
 a:y.R.a=R0.a
 ok:MsOk y.S
 kn:k<=n
 st:y.S.sto.length<=S.sto.length+k
 to:y.S.told.length<=S.told.length+k
 nd:(y.m.map (·.1)).Nodup
 lb:LB y.m (b+k)
 fo:foM m S n=foM y.m y.S (n-k)
 ru:runF n S=((runF (n-k) y.S).1+k,(runF (n-k) y.S).2)
 kk:y.k=k
theorem Nh{CM:Addr}(CC:ClsC K mg C)(CL:ClsM K mg CM)(N_note:NtFn P w K mg base 1 C)(D_place:MFn P w K mg base 1 CM "place" (λds d=>∃S:MS,ds=[mcD CM S]/\d=.int S.here))(D_step:OFn P w K mg base 6 CM "step" Q4)(F:Fun K "follow" "Counts.follow" BK f fd)(hm:Meth K C "follow" f):FoFn P w K mg base 7 C CM:=by
 refine⟨f,fd,["self","machine","most"],F.ok sc_Counts_follow (λvs H Q E ⟨_,_,_,_,_,_,_,_,_,_,_,_,_,_,e,_⟩=>by rw[e];rfl) ?_,hm,by walk_at"b3"⟩
 rintro cdv A outer s H vs Q E hr ⟨R,m,RM,S,n,b,hC,tz,ok,hs,ht,nd,lb,hbn,e,q⟩
 subst e
 have rs0:∀R':CtR,R'.a=R.a->((0:Nat),R'.a)∈[((0:Nat),R.a),(1,RM.a)]:=λR' e=>by rw[e];exact mem_cons_self
 have ne3:∀z∈[((0:Nat),R.a),(1,RM.a)],z.1≠3:=λz hz=>by
  rcases mem_cons.mp hz with e|hz
  .rw[e];show 0≠3;decide
  .rw[mem_singleton.mp hz];show 1≠3;decide
 have rs1:((1:Nat),RM.a)∈[((0:Nat),R.a),(1,RM.a)]:=mem_cons_of_mem _ mem_cons_self
 refine⟨zV K (LZ (its2 K C RM R m S)) (TZ (its2 K C RM R m S)) [(0,R.a),(1,RM.a)] [none,none,some (.int (n:Int)),none,none,none] (λ_ _ _=>False) (λL' v H'=>∃R':CtR,R'.a=R.a/\L'=LZ (its2 K C RM R' (foM m S n) (runF n S).2.2)/\TZ (its2 K C RM R' (foM m S n) (runF n S).2.2) H'/\DV K (lef L' H') v (.tuple [.int (runF n S).1,.str (runF n S).2.1])),?_,⟨?_,tz,?_⟩,λ_ _ _ f=>f.elim,λL' v H' ⟨R',ea,el,t',dv⟩ s=>by subst el;exact q R' v H' ea t' s dv⟩
 .refine A_ (G1:=frF n 0 none none) (Bb (i:=3) (d:=.int 0) sc_Counts_follow.nd rfl (by show 3∉[0,1];decide) (inl rfl) (Bp ges2.ok Ab rfl)) ?_
  refine HR (β:=YF) (Lo:=λy=>LZ (its2 K C RM y.R y.m y.S)) (Io:=λy=>TZ (its2 K C RM y.R y.m y.S)) (Go:=λy=>frF n y.k y.x4 y.x5) (n:=n) (WF R m S n b) (λk _=>decide (k<n)) ⟨R,m,S,0,none,none⟩ never ⟨rfl,ok,zero_le _,le_refl _,le_refl _,nd,lb,rfl,rfl,rfl⟩ ?c (λk y _ h=>of_decide_eq_true h) ?b ?d
  case c=>
   rintro k y hW
   rw[<-hW.kk]
   exact AH ges2.ok (Aj (Al (evv 3) (evv 2) O9 (Ak _)) (decide_eq_decide.mpr (by omega)))
  case b=>
   rintro k ⟨R1,m1,S1,k1,x4,x5⟩ hW hk
   have hk:k<n:=of_decide_eq_true hk
   obtain⟨ha,ok1,_,hs1,ht1,nd1,lb1,fo1,ru1,kk1⟩:=hW
   simp only at ha ok1 hs1 ht1 nd1 lb1 fo1 ru1 kk1
   subst kk1
   have st:=EE ok1
   have kp:=CP ok1 st
   have ks:=kp.sto
   have kt:=kp.told
   have hly:=Gz ok1 st
   obtain⟨j,hj⟩:∃j,n-k1=j+1:=⟨n-k1-1,by omega⟩
   rw[hj]at fo1 ru1
   have see:∀(R2:CtR) (m2:Led) (S2:MS) (G:Gam),Sees K (LZ (its2 K C RM R2 m2 S2)) (TZ (its2 K C RM R2 m2 S2)) [(0,R.a),(1,RM.a)] G (G.set 1 (some (mcD CM S2))):=λR2 m2 S2 G=>Dr rs1 λH t=>PZ hC (t.2 (mI K RM S2) (mem_of_getElem? (i:=1) rfl))
   refine A_ (G1:=frF n k1 (some (.int S1.here)) x5) (Bb (i:=4) (d:=.int S1.here) sc_Counts_follow.nd rfl (by show 4∉[0,1];decide) (inl rfl) (Lh ges2.ok (see R1 m1 S1 _) (AM CL.cl D_place (by walk_at"rm") (evv 1) ⟨S1,rfl,rfl⟩) rfl)) ?_
   rw[<-hC]at D_step
   have CL2:Cls K RM.C:=by rw[hC];exact CL.cl
   refine A_ (G1:=frF n k1 (some (.int S1.here)) (some (.str (Am S1).1))) (I1:=TZ (its2 K C RM R1 m1 (Am S1).2)) (Bb (i:=5) (d:=.str (Am S1).1) sc_Counts_follow.nd rfl (by show 5∉[0,1];decide) (inl rfl) (J7 (A:=[(R1.L,CtZ C R1 m1)]) (B:=[]) (L:=RM.L) (rs1:=[(1,RM.a)]) ges2 GK (λq hq=>by rw[mem_singleton.mp hq];exact rs1) rfl (Jl CL2 D_step (by walk_at"rm") mem_cons_self (pv 1) ⟨S1,_,_,ok1,⟨by omega,by omega⟩,st,rfl,rfl,rfl,rfl,rfl,rfl⟩))) ?_
   have eL:LZ (its2 K C RM R1 m1 S1)=LZ (its2 K C RM R1 m1 (Am S1).2):=rfl
   show PSs _ _ (zV K (LZ (its2 K C RM R1 m1 S1)) _ _ _ _ _)
   rw[eL]
   by_cases he:(Am S1).1=""
   .have hr1:runF (j+1) S1=((runF j (Am S1).2).1+1,(runF j (Am S1).2).2):=by
     show(if(Am S1).1=""then _ else _)=_
     rw[if_pos he]
    have hf1:foM m1 S1 (j+1)=foM (B5 m1 S1.here (Am S1).2.here) (Am S1).2 j:=by
     show(if(Am S1).1=""then _ else _)=_
     rw[if_pos he]
    rw[he]at hly ⊢
    refine IQ (BL (AH ges2.ok (Al (evv 5) Ar (Ct (by walk_at"un") hly (by decide+kernel) (by walk_at"dp") (by decide+kernel)) (Ak _)))) ?_
    refine Ca (β:=CtR) (Lo:=λR'=>LZ (its2 K C RM R' (B5 m1 S1.here (Am S1).2.here) (Am S1).2)) (Io:=λR'=>TZ (its2 K C RM R' (B5 m1 S1.here (Am S1).2.here) (Am S1).2)) (ro:=λ_=>[(0,R.a),(1,RM.a)]) (Go:=λ_=>frF n k1 (some (.int S1.here)) (some (.str ""))) (λR'=>R'.a=R1.a) (Oh (A:=[]) (B:=[mI K RM (Am S1).2]) (i:=0) (p:=S1.here) (q:=(Am S1).2.here) ges2 CC.cl N_note (by walk_at"rm") nd1 lb1 (by omega) (rs0 R1 ha) (pv 0) (see R1 m1 (Am S1).2 _) (Aa (evv 4) (Aa (AM CL.cl D_place (by walk_at"rm") (evv 1) ⟨(Am S1).2,rfl,rfl⟩) Ac))) ?_
    intro R' ea
    refine A_ (G1:=frF n (k1+1) (some (.int S1.here)) (some (.str ""))) (TJ (j:=3) (z:=(k1:Int)) (n:=1) ges2.ok sc_Counts_follow.nd rfl ne3 (inl rfl) Ab rfl) (Eg λσ H rz=>⟨⟨R',B5 m1 S1.here (Am S1).2.here,(Am S1).2,k1+1,_,_⟩,⟨ea.trans ha,kp.ok,hk,?_,?_,Lr nd1 _ _,lb1.note _ _,?_,?_,rfl⟩,rfl,rz⟩)
    .show(Am S1).2.sto.length<=_;omega
    .show(Am S1).2.told.length<=_;omega
    .show foM m S n=foM _ _ (n- (k1+1))
     rw[fo1,hf1,show n- (k1+1)=j by omega]
    .show runF n S=((runF (n- (k1+1)) (Am S1).2).1+(k1+1),_)
     rw[show n- (k1+1)=j by omega,ru1,hr1]
     show((runF j (Am S1).2).1+1+k1,_)=((runF j (Am S1).2).1+(k1+1),_)
     rw[add_assoc,add_comm 1 k1]
   .have hr1:runF (j+1) S1=(0,(Am S1).1,(Am S1).2):=by
     show(if(Am S1).1=""then _ else _)=_
     rw[if_neg he]
    have hf1:foM m1 S1 (j+1)=m1:=by
     show(if(Am S1).1=""then _ else _)=_
     rw[if_neg he]
    have hr2:runF n S=(k1,(Am S1).1,(Am S1).2):=by
     rw[ru1,hr1]
     show(0+k1,_)=_
     rw[Nat.zero_add]
    rw[hf1]at fo1
    refine Om (BL (AH ges2.ok (Aj (Al (evv 5) Ar (Ct (by walk_at"un") hly (by decide+kernel) (by walk_at"dp") (by rw[B4])) (Ak _)) (by rw[decide_eq_false he];rfl)))) ?_
    rw[hr2,fo1]
    exact Fb (d:=.tuple [.int (k1:Int),.str (Am S1).1]) (Bp ges2.ok (A9 (ds:=[.int (k1:Int),.str (Am S1).1]) (Aa (evv 3) (Aa (evv 5) Ac)) (by walk_at"sz")) rfl) λv H' i' dv=>⟨R1,ha,rfl,i',dv⟩
  case d=>
   rintro k ⟨R1,m1,S1,k1,x4,x5⟩ hW hk
   have hk:¬k<n:=of_decide_eq_false hk
   obtain⟨ha,ok1,hkn,hs1,ht1,nd1,lb1,fo1,ru1,kk1⟩:=hW
   simp only at ha ok1 hs1 ht1 nd1 lb1 fo1 ru1 kk1
   subst kk1
   have ek:k1=n:=by omega
   subst ek
   rw[Nat.sub_self]at fo1 ru1
   have fo1:foM m S k1=m1:=fo1
   have ru1:runF k1 S=(k1,("":Str),S1):=by rw[ru1];show(0+k1,_)=_;rw[Nat.zero_add];rfl
   rw[fo1,ru1]
   exact Fb (d:=.tuple [.int (k1:Int),.str ""]) (Bp ges2.ok (A9 (ds:=[.int (k1:Int),.str ""]) (Aa (evv 3) (Aa Ar Ac)) (by walk_at"sz")) rfl) λv H' i' dv=>⟨R1,ha,rfl,i',dv⟩
 .intro z hz
  rcases mem_cons.mp hz with e|hz
  .rw[e];rfl
  .rw[mem_singleton.mp hz];rfl
 .refine⟨rfl,λi d e=>?_⟩
  match i,e with
  |2,e=>cases e;exact⟨_,rfl,.int _⟩
  |0,e=>cases e
  |1,e=>cases e
  |3,e=>cases e
  |4,e=>cases e
  |5,e=>cases e
def spCi(C:Addr):Sp:=λvs H Q _=>∃(a dx:Addr),vs=[.ref a]/\H a=some (.ins C dx [])/\∀D H',H D=none->H' a=some (.ins C dx [("led",.ref D)])->H' D=some (.dK [])->(∀b o,b≠a->H b=some o->H' b=some o)->Q .non H'
def CiFn(P:Program)(w:World)(K:Frag)(mg:Str->Option Value)(base:Heap)(k:Nat)(C:Addr):Prop:=
 ∃f fd ps,FnOk P w K mg base CX0 k f fd ps (spCi C)/\Mk K C f/\Binds K fd ps []
theorem RN(CC:ClsC K mg C)(F:Fun K "__init__" "Counts.__init__" C7 f fd)(hm:Mk K C f):CiFn P w K mg base 1 C:=by
 refine⟨f,fd,["self"],F.ok GB (λvs H Q E ⟨a,dx,e,_⟩=>by rw[e];rfl) ?_,hm,by walk_at"b1"⟩
 rintro cdv A outer s H vs Q E hr ⟨a,dx,e,ha,q⟩
 subst e
 refine⟨_,M7 (G5 (pv 0) GP rfl),?_⟩
 intro D hD
 have haD:a≠D:=Ao ha hD
 refine⟨.ref a,rfl,a,C,dx,[],rfl,by rw[Ag haD];exact ha,CC.cl,CC.n1,by decide,?_⟩
 refine q D _ hD (by rw[Ah];rfl) (by rw[Ag (symm haD),Ah]) λb o hb e=>?_
 rw[Ag hb,Ag (Ao e hD)]
 exact e
theorem Sz{k:Nat}{p:Pos}(D:CiFn X.prog X.w X.K X.mg X.base k C)(hr:Room (k+1) X.A)(hg:Gl X "Counts")(hm:X.mg "Counts"=some (.ref C)):
  PE X (.Call (.Name "Counts" p) [] [] pos) (Oe (λR:CtR=>R.ins=[]) (λR=>R.L) (λR=>CtZ C R []) λR=>R.a):=by
 obtain⟨f,fd,ps,ok,mk,hb⟩:=D
 refine(OW (E:=E0) (dvs:=[]) (ds:=[]) mk ok hr hg hm hb .nil Ci).imp λσ H Q q=>?_
 intro x dx hx hdx hne
 refine⟨x,dx,rfl,Ah,λD H' hD h1 h2 hk=>⟨rfl,?_⟩⟩
 have hDx:D≠x:=λz=>by rw[z,Ah]at hD;cases hD
 have hDd:D≠dx:=λz=>by rw[z,Ag hne,Ah]at hD;cases hD
 have hxd:H' dx=some (.own x):=hk dx _ hne (by rw[Ag hne,Ah])
 refine q ⟨x,dx,D,[]⟩ H' rfl ⟨h1,hxd,?_,[],h2,.nil⟩ λc o e=>?_
 .show[x,dx,D].Nodup
  simp[symm hne,symm hDx,symm hDd]
 .have c1:c≠x:=Ao e hx
  have c2:c≠dx:=Ao e hdx
  have e':upd (upd H dx (.own x)) x (.ins C dx []) c=some o:=by rw[Ag c1,Ag c2];exact e
  have c3:c≠D:=Ao e' hD
  show lef [x,dx,D] H' c=some o
  rw[An (by simp[c1,c2,c3])]
  exact hk c o c1 e'
abbrev itsD(K:Frag)(RM:OR)(dn:Addr)(S:MS)(nm:List ((Int×Int)×Int)):List Zt:=[mI K RM S,([dn],Pz dn nm)]
theorem gesD{RM:OR}{dn:Addr}{nm:List ((Int×Int)×Int)}:Ges (itsD K RM dn S nm):=λz hz=>by
 simp only[mem_cons,not_mem_nil,or_false]at hz
 rcases hz with rfl|rfl
 .exact GK
 .exact To
def spLd(K:Frag)(CM:Addr):Sp:=λvs H Q _=>∃(RM:OR) (S:MS) (dn:Addr) (nm:List ((Int×Int)×Int)) (n:Nat),RM.C=CM/\TZ (itsD K RM dn S nm) H/\MsOk S/\S.sto.length+n<100000/\S.told.length+n<100000/\nm.length+n<900/\vs=[.ref RM.a,.int (n:Int),.ref dn]/\
 ∀v H',TZ (itsD K RM dn (runF n S).2.2 (ldP nm S n)) H'->Same (lef (LZ (itsD K RM dn S nm)) H) (lef (LZ (itsD K RM dn S nm)) H')->DV K (lef (LZ (itsD K RM dn S nm)) H') v (.tuple [.int (runF n S).1,.str (runF n S).2.1])->Q v H'
def LdFn(P:Program)(w:World)(K:Frag)(mg:Str->Option Value)(base:Heap)(k:Nat)(CM:Addr):Prop:=
 ∃f fd ps,FnOk P w K mg base CX0 k f fd ps (spLd K CM)/\mg "_law_led"=some (.ref f)/\keepIn K (.ref f)=true/\Binds K fd ps []
structure YL where
 S:MS
 nm:List ((Int×Int)×Int)
 k:Nat
 w:Str
 x5:Option PyData
 x6:Option PyData
abbrev frE(n k:Nat)(w:Str)(x5 x6:Option PyData):Gam:=[none,some (.int (n:Int)),none,some (.int (k:Int)),some (.str w),x5,x6]
structure WL(S:MS)(nm:List ((Int×Int)×Int))(n:Nat)(k:Nat)(y:YL):Prop where
 ok:MsOk y.S
 st:y.S.sto.length<=S.sto.length+k
 to:y.S.told.length<=S.told.length+k
 ln:y.nm.length<=nm.length+k
 ly:canLay0 (.str y.w)=true
 go:y.w=""->y.k=k/\k<=n/\ldP nm S n=ldP y.nm y.S (n-k)/\runF n S=((runF (n-k) y.S).1+k,(runF (n-k) y.S).2)
 no:y.w≠""->ldP nm S n=y.nm/\runF n S=(y.k,y.w,y.S)
theorem T4{CM:Addr}(CL:ClsM K mg CM)(D_place:MFn P w K mg base 1 CM "place" (λds d=>∃S:MS,ds=[mcD CM S]/\d=.int S.here))(D_step:OFn P w K mg base 6 CM "step" Q4)(F:Fun K "_law_led" "_law_led" Ff f fd)(hm:mg "_law_led"=some (.ref f)):LdFn P w K mg base 7 CM:=by
 refine⟨f,fd,["machine","most","noted"],F.ok sc_law_led (λvs H Q E ⟨_,_,_,_,_,_,_,_,_,_,_,e,_⟩=>by rw[e];rfl) ?_,hm,F.kp,by walk_at"b3"⟩
 rintro cdv A outer s H vs Q E hr ⟨RM,S,dn,nm,n,hC,tz,ok,hs,ht,hln,e,q⟩
 subst e
 have rs0:((0:Nat),RM.a)∈[((0:Nat),RM.a),(2,dn)]:=mem_cons_self
 have rs2:((2:Nat),dn)∈[((0:Nat),RM.a),(2,dn)]:=mem_cons_of_mem _ mem_cons_self
 obtain⟨L,eL⟩:∃L,L=LZ (itsD K RM dn S nm):=⟨_,rfl⟩
 have eLs:∀S2 nm2,LZ (itsD K RM dn S2 nm2)=L:=λS2 nm2=>by rw[eL];rfl
 have okz:∀S2 nm2,ZOk L (TZ (itsD K RM dn S2 nm2)):=λS2 nm2=>by rw[<-eLs S2 nm2];exact gesD.ok
 refine⟨zV K L (TZ (itsD K RM dn S nm)) [(0,RM.a),(2,dn)] [none,some (.int (n:Int)),none,none,none,none,none] (λ_ _ _=>False) (λL' v H'=>L'=L/\TZ (itsD K RM dn (runF n S).2.2 (ldP nm S n)) H'/\DV K (lef L H') v (.tuple [.int (runF n S).1,.str (runF n S).2.1])),?_,⟨?_,tz,?_⟩,λ_ _ _ f=>f.elim,λL' v H' ⟨el,t',dv⟩ s=>by subst el;rw[eL]at s dv;exact q v H' t' s dv⟩
 .refine A_ (G1:=[none,some (.int (n:Int)),none,some (.int 0),none,none,none]) (Bb (i:=3) (d:=.int 0) sc_law_led.nd rfl (by show 3∉[0,2];decide) (inl rfl) (Bp (okz S nm) Ab rfl)) ?_
  refine A_ (G1:=frE n 0 "" none none) (Bb (i:=4) (d:=.str "") sc_law_led.nd rfl (by show 4∉[0,2];decide) (inl rfl) (Bp (okz S nm) Ar rfl)) ?_
  refine HR (β:=YL) (Lo:=λ_=>L) (Io:=λy=>TZ (itsD K RM dn y.S y.nm)) (Go:=λy=>frE n y.k y.w y.x5 y.x6) (n:=n) (WL S nm n) (λk y=>decide (y.k<n)&&decide (y.w="")) ⟨S,nm,0,"",none,none⟩ never ⟨ok,le_refl _,le_refl _,le_refl _,(by decide+kernel:canLay0 (.str "")=true),λ_=>⟨rfl,zero_le _,rfl,rfl⟩,λh=>(h rfl).elim⟩ ?c ?n ?b ?d
  case c=>
   rintro k y hW
   refine AH (okz _ _) (Aj (AR (AF (k:=decide (y.k<n)) (k':=decide (y.w="")) (Aj (Al (evv 3) (evv 1) O9 (Ak _)) (decide_eq_decide.mpr (by omega))) (λ_=>AI (Aj (Al (evv 4) Ar (AZ (by walk_at"un") hW.ly (by decide+kernel) (by walk_at"dp") (by rw[B4])) (Ak _)) rfl)))) ?_)
   cases decide (y.k<n)<;>rfl
  case n=>
   rintro k y hW hc
   rw[and_eq_true]at hc
   have h1:=of_decide_eq_true hc.1
   rw[(hW.go (of_decide_eq_true hc.2)).1]at h1
   exact h1
  case b=>
   rintro k ⟨S1,nm1,k1,w1,x5,x6⟩ hW hc
   rw[and_eq_true]at hc
   have hk:=of_decide_eq_true hc.1
   have hw:=of_decide_eq_true hc.2
   simp only at hk hw
   subst hw
   obtain⟨ok1,hs1,ht1,ln1,_,go,_⟩:=hW
   have go:=go rfl
   simp only at ok1 hs1 ht1 ln1 go
   obtain⟨kk,hkn,ld1,ru1⟩:=go
   subst kk
   have st:=EE ok1
   have kp:=CP ok1 st
   have ks:=kp.sto
   have kt:=kp.told
   have hly:=Gz ok1 st
   obtain⟨j,hj⟩:∃j,n-k1=j+1:=⟨n-k1-1,by omega⟩
   rw[hj]at ld1 ru1
   have see:∀(S2:MS) (nm2) (G:Gam),Sees K L (TZ (itsD K RM dn S2 nm2)) [(0,RM.a),(2,dn)] G (G.set 0 (some (mcD CM S2))):=λS2 nm2 G=>Dr rs0 λH t=>PZ hC (t.2 (mI K RM S2) mem_cons_self)
   refine A_ (G1:=frE n k1 "" (some (.int S1.here)) x6) (Bb (i:=5) (d:=.int S1.here) sc_law_led.nd rfl (by show 5∉[0,2];decide) (inl rfl) (Lh (okz S1 nm1) (see S1 nm1 _) (AM CL.cl D_place (by walk_at"rm") (evv 0) ⟨S1,rfl,rfl⟩) rfl)) ?_
   rw[<-hC]at D_step
   have CL2:Cls K RM.C:=by rw[hC];exact CL.cl
   refine A_ (G1:=frE n k1 (Am S1).1 (some (.int S1.here)) x6) (I1:=TZ (itsD K RM dn (Am S1).2 nm1)) (Bb (i:=4) (d:=.str (Am S1).1) sc_law_led.nd rfl (by show 4∉[0,2];decide) (inl rfl) (by
    rw[<-eLs S1 nm1]
    exact J7 (A:=[]) (B:=[([dn],Pz dn nm1)]) (L:=RM.L) (rs1:=[(0,RM.a)]) gesD GK (λq hq=>by rw[mem_singleton.mp hq];exact rs0) rfl (Jl CL2 D_step (by walk_at"rm") mem_cons_self (pv 0) ⟨S1,_,_,ok1,⟨by omega,by omega⟩,st,rfl,rfl,rfl,rfl,rfl,rfl⟩))) ?_
   by_cases he:(Am S1).1=""
   .have hr1:runF (j+1) S1=((runF j (Am S1).2).1+1,(runF j (Am S1).2).2):=by
     show(if(Am S1).1=""then _ else _)=_
     rw[if_pos he]
    have hf1:ldP nm1 S1 (j+1)=ldP (putA nm1 (S1.here,(Am S1).2.here) (rdG nm1 S1.here (Am S1).2.here+1)) (Am S1).2 j:=by
     show(if(Am S1).1=""then _ else _)=_
     rw[if_pos he]
    rw[he]at hly ⊢
    refine Po (RW (k:=true) (BL (AH (okz _ _) (Aj (Al (evv 4) Ar (AZ (by walk_at"un") hly (by decide+kernel) (by walk_at"dp") (by rw[B4])) (Ak _)) (by decide+kernel)))) (λ_=>?_) nofun)
    refine A_ (G1:=frE n (k1+1) "" (some (.int S1.here)) x6) (Bb (i:=3) (d:=.int ((k1+1:Nat):Int)) sc_law_led.nd rfl (by show 3∉[0,2];decide) (inl rfl) (Bp (okz _ _) (A0 (Ae (evv 3) Ab A7) (by rw[Int.natCast_add];rfl)) rfl)) ?_
    refine Ca (β:=Addr) (λ_=>True) (RG (j:=6) (ds:=[.int S1.here,.int (Am S1).2.here]) (vs0:=[.int S1.here,.int (Am S1).2.here]) (okz _ _) (see (Am S1).2 nm1 _) (Aa (evv 5) (Aa (AM CL.cl D_place (by walk_at"rm") (evv 0) ⟨(Am S1).2,rfl,rfl⟩) Ac)) (λ{H vs} dv=>by
     obtain⟨v1,v2,rfl,d1,d2⟩:=dv.two
     rw[d1.of_int,d2.of_int]) (λH=>.cons (.int _) (.cons (.int _) .nil)) (by rw[sizeLine_eq];show 2<=16777216;decide) sc_law_led.nd rfl (by show 6∉[0,2];decide) (inl rfl) (by show 6<7;decide)) ?_
    intro b _
    refine A_ (G1:=frE n (k1+1) "" (some (.int S1.here)) (some (.tuple [.int S1.here,.int (Am S1).2.here]))) (I1:=TZ (itsD K RM dn (Am S1).2 (putA nm1 (S1.here,(Am S1).2.here) (rdG nm1 S1.here (Am S1).2.here+1)))) (QM (its:=itsD K RM dn (Am S1).2 nm1) (A:=[mI K RM (Am S1).2]) (B:=[]) (i:=6) (nm:=nm1) rfl gesD (eLs _ _).symm (Ie (by walk_at"un")) (HX (i:=2) (mem_cons_of_mem _ rs2) (pv 2)) (HX (i:=2) (mem_cons_of_mem _ rs2) (pv 2)) mem_cons_self (pv 6) (pv 6) (by omega) (UH _ _ _ _) ⟨rfl,rfl,rfl,rfl⟩) (Eg λσ H rz=>⟨⟨(Am S1).2,_,k1+1,"",_,_⟩,⟨kp.ok,?_,?_,?_,hly,λ_=>⟨rfl,hk,?_,?_⟩,λh=>(h rfl).elim⟩,rfl,⟨λz hz=>rz.1 z (mem_cons_of_mem _ hz),rz.2⟩⟩)
    .show(Am S1).2.sto.length<=_;omega
    .show(Am S1).2.told.length<=_;omega
    .have:=GA nm1 (S1.here,(Am S1).2.here) (rdG nm1 S1.here (Am S1).2.here+1)
     show(putA nm1 (S1.here,(Am S1).2.here) (rdG nm1 S1.here (Am S1).2.here+1)).length<=_
     omega
    .show ldP nm S n=ldP (putA nm1 (S1.here,(Am S1).2.here) (rdG nm1 S1.here (Am S1).2.here+1)) (Am S1).2 (n- (k1+1))
     rw[ld1,hf1,show n- (k1+1)=j by omega]
    .show runF n S=((runF (n- (k1+1)) (Am S1).2).1+(k1+1),_)
     rw[show n- (k1+1)=j by omega,ru1,hr1]
     show((runF j (Am S1).2).1+1+k1,_)=((runF j (Am S1).2).1+(k1+1),_)
     rw[add_assoc,add_comm 1 k1]
   .have hr1:runF (j+1) S1=(0,(Am S1).1,(Am S1).2):=by
     show(if(Am S1).1=""then _ else _)=_
     rw[if_neg he]
    have hf1:ldP nm1 S1 (j+1)=nm1:=by
     show(if(Am S1).1=""then _ else _)=_
     rw[if_neg he]
    have hr2:runF n S=(k1,(Am S1).1,(Am S1).2):=by
     rw[ru1,hr1]
     show(0+k1,_)=_
     rw[Nat.zero_add]
    rw[hf1]at ld1
    refine Po (RW (k:=false) (BL (AH (okz _ _) (Aj (Al (evv 4) Ar (AZ (by walk_at"un") hly (by decide+kernel) (by walk_at"dp") (by rw[B4])) (Ak _)) (by rw[decide_eq_false he])))) nofun (λ_=>?_))
    exact Eg λσ H rz=>⟨⟨(Am S1).2,nm1,k1,(Am S1).1,_,_⟩,⟨kp.ok,by show(Am S1).2.sto.length<=_;omega,by show(Am S1).2.told.length<=_;omega,by show nm1.length<=_;omega,hly,λh=>(he h).elim,λ_=>⟨ld1,hr2⟩⟩,rfl,rz⟩
  case d=>
   rintro k ⟨S1,nm1,k1,w1,x5,x6⟩ hW hc
   obtain⟨ok1,_,_,_,_,go,no⟩:=hW
   simp only at ok1 go no hc
   have hfin:ldP nm S n=nm1/\runF n S=(k1,w1,S1):=by
    by_cases hw:w1=""
    .obtain⟨kk,hkn,ld1,ru1⟩:=go hw
     subst kk hw
     have hk:¬k1<n:=λh=>by rw[decide_eq_true h]at hc;cases hc
     have ek:k1=n:=by omega
     subst ek
     rw[Nat.sub_self]at ld1 ru1
     refine⟨ld1,?_⟩
     rw[ru1];show(0+k1,_)=_;rw[Nat.zero_add];rfl
    .exact no hw
   rw[hfin.1,hfin.2]
   exact Fb (d:=.tuple [.int (k1:Int),.str w1]) (Bp (okz _ _) (A9 (ds:=[.int (k1:Int),.str w1]) (Aa (evv 3) (Aa (evv 4) Ac)) (by walk_at"sz")) rfl) λv H' i' dv=>⟨rfl,i',dv⟩
 .intro z hz
  rcases mem_cons.mp hz with e|hz
  .rw[e];rfl
  .rw[mem_singleton.mp hz];rfl
 .refine⟨rfl,λi d e=>?_⟩
  match i,e with
  |1,e=>cases e;exact⟨_,rfl,.int _⟩
  |0,e=>cases e
  |2,e=>cases e
  |3,e=>cases e
  |4,e=>cases e
  |5,e=>cases e
  |6,e=>cases e
def Best(c:Int->Int)(l:List Int)(b:Int):Prop:=b∈l/\∀t∈l,c t<c b\/(c t=c b/\b<=t)
theorem Best.uniq{c:Int->Int}{l:List Int}{a b:Int}(h1:Best c l a)(h2:Best c l b):a=b:=by
 have x:=h1.2 b h2.1
 have y:=h2.2 a h1.1
 omega
theorem Ib(c:Int->Int):∀(r P:List Int) (b:Int),(P++r).Pairwise (· < ·)->Best c P b->Best c (P++r) (r.foldl (stepK c) b)
 |[],P,b,_,h=>by rw[append_nil];exact h
 |n::r,P,b,hp,h=>by
  have e:P++n::r=(P++[n])++r:=by simp
  rw[e]at hp ⊢
  refine Ib c r (P++[n]) (stepK c b n) hp ?_
  have hlt:∀t∈P,t<n:=λt ht=>(List.pairwise_append.mp (List.pairwise_append.mp hp).1).2.2 t ht n mem_cons_self
  unfold stepK
  by_cases hc:c n>c b
  .rw[if_pos hc]
   refine⟨mem_append_right _ mem_cons_self,λt ht=>?_⟩
   rcases mem_append.mp ht with ht|ht
   .have:=h.2 t ht;omega
   .rw[mem_singleton.mp ht];exact .inr ⟨rfl,Int.le_refl _⟩
  .rw[if_neg hc]
   refine⟨mem_append_left _ h.1,λt ht=>?_⟩
   rcases mem_append.mp ht with ht|ht
   .exact h.2 t ht
   .rw[mem_singleton.mp ht]
    have:=hlt b h.1
    omega
theorem KM(c:Int->Int){l:List Int}(hl:l.Pairwise (· < ·)){b:Int}(e:FG l c=some b):Best c l b:=by
 cases l with
 |nil=>cases e
 |cons x r=>
  rw[Hg]at e
  have e:=Option.some.inj e
  subst e
  exact Ib c r [x] x hl ⟨mem_cons_self,λt ht=>by rw[mem_singleton.mp ht];exact .inr ⟨rfl,Int.le_refl _⟩⟩
theorem Ld(c:Int->Int){l:List Int}(e:FG l c=none):l=[]:=by
 cases l with
 |nil=>rfl
 |cons x r=>rw[Hg]at e;cases e
def LgI(p:Int)(P:List ((Int×Int)×Int))(b:Option (Int×Int)):Prop:=(b=none->∀q∈P,q.1.1≠p)/\∀z,b=some z->∃q∈P,q.1.1=p/\z=(0-q.2,q.1.2)/\∀q'∈P,q'.1.1=p->q'.2<q.2\/(q'.2=q.2/\q.1.2<=q'.1.2)
theorem lex2(a b c d:Int):HT.lexLt [a,b] [c,d]=decide (a<c\/(a=c/\b<d)):=by
 rw[HT.lexLt_cons]
 by_cases h:a=c
 .rw[if_pos h,HT.lexLt_cons]
  by_cases h2:b=d
  .rw[if_pos h2,HT.lexLt_nil_nil];exact(decide_eq_false (by omega)).symm
  .rw[if_neg h2];exact decide_eq_decide.mpr (by omega)
 .rw[if_neg h];exact decide_eq_decide.mpr (by omega)
theorem LgI.step{P:List ((Int×Int)×Int)}{b:Option (Int×Int)}(h:LgI p P b)(q:(Int×Int)×Int):LgI p (P++[q]) (lgS p b q):=by
 unfold lgS
 by_cases hp:q.1.1=p
 .by_cases hb:∀z,b=some z->HT.lexLt [0-q.2,q.1.2] [z.1,z.2]=true
  .rw[if_pos ⟨hp,hb⟩]
   refine⟨λe=>(by cases e),λz e=>?_⟩
   cases e
   refine⟨q,List.mem_append_right _ List.mem_cons_self,hp,rfl,λq' hq' hp'=>?_⟩
   rcases List.mem_append.mp hq' with hq'|hq'
   .cases b with
    |none=>exact(h.1 rfl q' hq' hp').elim
    |some z=>
     obtain⟨q0,h0,hp0,ez,hall⟩:=h.2 z rfl
     have hl:=hb z rfl
     rw[lex2]at hl
     have hl:=of_decide_eq_true hl
     have:=hall q' hq' hp'
     rw[ez]at hl
     simp only at hl
     omega
   .rw[List.mem_singleton.mp hq'];exact .inr ⟨rfl,Int.le_refl _⟩
  .rw[if_neg λz=>hb z.2]
   refine⟨λe=>(hb λz ez=>by rw[e]at ez;cases ez).elim,λz e=>?_⟩
   obtain⟨q0,h0,hp0,ez,hall⟩:=h.2 z e
   refine⟨q0,List.mem_append_left _ h0,hp0,ez,λq' hq' hp'=>?_⟩
   rcases List.mem_append.mp hq' with hq'|hq'
   .exact hall q' hq' hp'
   .rw[List.mem_singleton.mp hq']
    have hn:¬(0-q.2<0-q0.2\/(0-q.2=0-q0.2/\q.1.2<q0.1.2)):=λhh=>hb λz' ez'=>by
     rw[e]at ez'
     have ez':=Option.some.inj ez'
     rw[<-ez',ez,lex2]
     exact decide_eq_true hh
    omega
 .rw[if_neg λz=>hp z.1]
  refine⟨λe q' hq'=>?_,λz e=>?_⟩
  .rcases List.mem_append.mp hq' with hq'|hq'
   .exact h.1 e q' hq'
   .rw[List.mem_singleton.mp hq'];exact hp
  .obtain⟨q0,h0,hp0,ez,hall⟩:=h.2 z e
   refine⟨q0,List.mem_append_left _ h0,hp0,ez,λq' hq' hp'=>?_⟩
   rcases List.mem_append.mp hq' with hq'|hq'
   .exact hall q' hq' hp'
   .rw[List.mem_singleton.mp hq']at hp';exact(hp hp').elim
theorem LgI.all(p:Int):∀(r P:List ((Int×Int)×Int)) (b:Option (Int×Int)),LgI p P b->LgI p (P++r) (r.foldl (lgS p) b)
 |[],P,b,h=>by rw[List.append_nil];exact h
 |q::r,P,b,h=>by
  have e:P++q::r=(P++[q])++r:=by simp
  rw[e,List.foldl_cons]
  exact LgI.all p r (P++[q]) _ (h.step q)
theorem Rr(nm:List ((Int×Int)×Int))(p:Int):LgI p nm (lgO nm p):=LgI.all p nm [] none ⟨λ_ q hq=>(by cases hq),λz e=>(by cases e)⟩
structure C5(m:Led)(nm:List ((Int×Int)×Int)):Prop where
 same:∀p t,rdG nm p t=getI (inn m p) t
 key:∀p t,t∈(inn m p).map (·.1)↔(p,t)∈nm.map (·.1)
 mn:(m.map (·.1)).Nodup
 nn:(nm.map (·.1)).Nodup
 ni:∀p,((inn m p).map (·.1)).Nodup
theorem C5.nil:C5 [] []:=⟨λ_ _=>rfl,λ_ _=>⟨λh=>(by cases h),λh=>(by cases h)⟩,List.nodup_nil,List.nodup_nil,λ_=>List.nodup_nil⟩
theorem O_{α:Type} [BEq α] [LawfulBEq α] [DecidableEq α]{l:List (α×β)}{k x:α}{v:β}:x∈(putA l k v).map (·.1)↔x∈l.map (·.1)\/x=k:=by
 refine⟨SQ,λh=>?_⟩
 rw[Lf]
 split
 .rename_i h2
  rcases h with h|h
  .exact h
  .rw[h];exact lk_mem.mp h2
 .rcases h with h|h
  .exact mem_append_left _ h
  .rw[h];exact mem_append_right _ mem_cons_self
theorem OK{l:List (Int×Int)}{a n x:Int}:x∈(putI l a n).map (·.1)↔x∈l.map (·.1)\/x=a:=by
 have e:=LP l a n
 unfold kys at e
 rw[e]
 by_cases h:a∈l.map (·.1)
 .rw[if_pos h];exact⟨.inl,λz=>z.elim id λz=>z▸h⟩
 .rw[if_neg h,mem_append,mem_singleton]
theorem C5.put{nm:List ((Int×Int)×Int)}(h:C5 m nm)(p t:Int):C5 (B5 m p t) (putA nm (p,t) (rdG nm p t+1)):=by
 refine⟨λp' t'=>?_,λp' t'=>?_,Lr h.mn p _,Lr h.nn (p,t) _,λp'=>?_⟩
 .rw[Ri,Dp,h.same p t,h.same p' t']
  by_cases h1:p'=p
  .subst h1
   rw[if_pos rfl,Qu]
   by_cases h2:t'=t
   .rw[if_pos ⟨rfl,h2⟩,if_pos h2]
   .rw[if_neg λz=>h2 z.2,if_neg h2]
  .rw[if_neg λz=>h1 z.1,if_neg h1]
 .rw[O_,Dp]
  by_cases h1:p'=p
  .subst h1
   rw[if_pos rfl,OK,h.key p' t']
   exact or_congr Iff.rfl ⟨λz=>by rw[z],λz=>congrArg (·.2) z⟩
  .rw[if_neg h1,h.key p' t']
   exact⟨.inl,λz=>z.elim id λz=>(h1 (congrArg (·.1) z)).elim⟩
 .rw[Dp]
  by_cases h1:p'=p
  .rw[if_pos h1];exact MG _ _ (h.ni p)
  .rw[if_neg h1];exact h.ni p'
theorem C5.run:∀(n:Nat) {m:Led}{nm:List ((Int×Int)×Int)}{S:MS},C5 m nm->C5 (foM m S n) (ldP nm S n)
 |0,_,_,_,h=>h
 |n+1,m,nm,S,h=>by
  unfold foM ldP
  split
  .exact C5.run n (h.put _ _)
  .exact h
theorem LB.run:∀(n:Nat) {m:Led}{S:MS}{b:Nat},LB m b->LB (foM m S n) (b+n)
 |0,_,_,_,h=>h
 |n+1,m,S,b,h=>by
  unfold foM
  split
  .rw[show b+(n+1)=b+1+n by omega];exact LB.run n (h.note _ _)
  .exact⟨by have:=h.1;omega,λp=>by have:=h.2 p;omega⟩
theorem LA:∀(n:Nat) {nm:List ((Int×Int)×Int)}{S:MS},(ldP nm S n).length<=nm.length+n
 |0,_,_=>le_refl _
 |n+1,nm,S=>by
  unfold ldP
  split
  .have h1:=LA n (nm:=putA nm (S.here,(Am S).2.here) (rdG nm S.here (Am S).2.here+1)) (S:=(Am S).2)
   have h2:=GA nm (S.here,(Am S).2.here) (rdG nm S.here (Am S).2.here+1)
   omega
  .omega
theorem Fh{nm:List ((Int×Int)×Int)}(h:(nm.map (·.1)).Nodup){q:(Int×Int)×Int}(hq:q∈nm):rdG nm q.1.1 q.1.2=q.2:=by
 unfold rdG
 induction nm with
 |nil=>cases hq
 |cons x r ih=>
  rw[map_cons,nodup_cons]at h
  rcases mem_cons.mp hq with e|hq
  .subst e
   rw[show(q::r).lookup (q.1.1,q.1.2)=some q.2 from CT _ _ _];rfl
  .have hne:((q.1.1,q.1.2):Int×Int)≠x.1:=λe=>h.1 (mem_map.mpr ⟨q,hq,e⟩)
   rw[show(x::r).lookup (q.1.1,q.1.2)=r.lookup (q.1.1,q.1.2)from Cg hne _ _]
   exact ih h.2 hq
theorem C5.guess{nm:List ((Int×Int)×Int)}(h:C5 m nm)(p:Int):CW m p=(lgO nm p).map (·.2):=by
 have inv:=Rr nm p
 have hkey:∀t,t∈srtI ((inn m p).map (·.1))↔(p,t)∈nm.map (·.1):=λt=>by rw[EH,h.key p t]
 have hb:∀b,CW m p=some b->Best (λz=>getI (inn m p) z) (srtI ((inn m p).map (·.1))) b:=λb e=>KM _ (Fw _) e
 cases e:lgO nm p with
 |none=>
  rw[e]at inv
  show CW m p=none
  cases e2:CW m p with
  |none=>rfl
  |some b=>
   obtain⟨q,hq,eq⟩:=List.mem_map.mp ((hkey b).mp (hb b e2).1)
   exact(inv.1 rfl q hq (by rw[eq])).elim
 |some z=>
  rw[e]at inv
  obtain⟨q,hq,hp,ez,hall⟩:=inv.2 z rfl
  have eq2:((p,q.1.2):Int×Int)=q.1:=by rw[<-hp]
  have hmem:q.1.2∈srtI ((inn m p).map (·.1)):=(hkey q.1.2).mpr (List.mem_map.mpr ⟨q,hq,eq2.symm⟩)
  have hB:Best (λz=>getI (inn m p) z) (srtI ((inn m p).map (·.1))) q.1.2:=⟨hmem,λt ht=>by
   obtain⟨q',hq',eq'⟩:=List.mem_map.mp ((hkey t).mp ht)
   have v1:=Fh h.nn hq
   have v2:=Fh h.nn hq'
   have a:=hall q' hq' (by rw[eq'])
   rw[eq']at v2 a
   rw[hp,h.same]at v1
   rw[h.same]at v2
   simp only at v1 v2 a ⊢
   rw[v1,v2]
   omega⟩
  show CW m p=some z.2
  cases e2:CW m p with
  |none=>
   have:=Ld _ e2
   rw[this]at hmem;cases hmem
  |some b=>
   rw[ez]
   exact congrArg some ((hb b e2).uniq hB)
theorem stuck{S':MS}{wd:Str}(st:Ee S wd S')(h:wd≠""):S'=S:=by
 rcases st with⟨_,e⟩|⟨j,q,nums,row,_,ew,e⟩
 .exact e
 .rw[e,if_neg (λz=>h (ew.trans z))]
def offL(l:List (Int×Int))(p:Int):List (Int×Int):=l.filter λq=>decide (q.1≠p)
theorem QA(l:List (Int×Int))(p t n:Int):(offL (putI l t n) p).length<=(offL l p).length+(if t=p then 0 else 1):=by
 have hmap:∀l:List (Int×Int),(offL (l.map λq=>if q.1=t then(q.1,n)else q) p).length=(offL l p).length:=λl=>by
  unfold offL
  induction l with
  |nil=>rfl
  |cons q l ih=>
   have e1:(if q.1=t then(q.1,n)else q).1=q.1:=by split<;>rfl
   rw[map_cons,List.filter_cons,List.filter_cons,e1]
   split
   .rw[length_cons,length_cons,ih]
   .exact ih
 unfold putI
 split
 .rw[hmap];omega
 .unfold offL
  rw[List.filter_append,length_append]
  by_cases h:t=p
  .rw[if_pos h,List.filter_cons_of_neg (by rw[decide_eq_true_iff];exact λz=>z h)]
   simp
  .rw[if_neg h,List.filter_cons_of_pos (p:=λq:Int×Int=>decide (q.1≠p)) (decide_eq_true h)]
   simp
theorem Ms{p:Int}:∀{l:List (Int×Int)},(l.map (·.1)).Nodup->l.length<=(offL l p).length+1
 |[],_=>zero_le _
 |q::l,h=>by
  rw[map_cons,nodup_cons]at h
  by_cases hq:q.1=p
  .have e:offL l p=l:=by
    unfold offL
    rw[List.filter_eq_self]
    intro z hz
    refine decide_eq_true λe=>h.1 (mem_map.mpr ⟨z,hz,e.trans hq.symm⟩)
   unfold offL at e ⊢
   rw[List.filter_cons_of_neg (by rw[decide_eq_true_iff];exact λz=>z hq),e]
   exact le_refl _
  .have:=Ms (p:=p) h.2
   unfold offL at this ⊢
   rw[List.filter_cons_of_pos (p:=λq:Int×Int=>decide (q.1≠p)) (decide_eq_true hq),length_cons,length_cons]
   omega
def JF(m:Led)(S:MS)(k:Nat):Prop:=∀p,2*(offL (inn m p) p).length<=k+(if S.here=p then 0 else 1)
theorem JF.step{S':MS}{k:Nat}(h:JF m S k):JF (B5 m S.here S'.here) S' (k+1):=λp=>by
 have hp:=h p
 rw[Dp]
 by_cases h1:p=S.here
 .subst h1
  rw[if_pos rfl]at hp ⊢
  have:=QA (inn m S.here) S.here S'.here (getI (inn m S.here) S'.here+1)
  by_cases h2:S'.here=S.here
  .rw[if_pos h2]at this ⊢;omega
  .rw[if_neg h2]at this ⊢;omega
 .rw[if_neg h1]
  rw[if_neg (Ne.symm h1)]at hp
  split<;>omega
theorem JF.run:∀(n:Nat) {m:Led}{S:MS}{k:Nat},MsOk S->JF m S k->JF (foM m S n) (runF n S).2.2 (k+n)
 |0,_,_,_,_,h=>h
 |n+1,m,S,k,ok,h=>by
  have st:=EE ok
  unfold foM runF
  by_cases he:(Am S).1=""
  .rw[if_pos he,if_pos he,show k+(n+1)=k+1+n by omega]
   exact JF.run n (CP ok st).ok h.step
  .rw[if_neg he,if_neg he]
   show JF m (Am S).2 (k+(n+1))
   rw[stuck st he]
   exact λp=>by have:=h p;omega
theorem JF.few{k:Nat}(h:JF m S k)(hk:k<=120)(hn:((inn m p).map (·.1)).Nodup):(inn m p).length<64:=by
 have h1:=h p
 have h2:=Ms (p:=p) hn
 split at h1<;>omega
def GM(ds:List PyData)(d:PyData):Prop:=∃ns:List Int,ds=[.list (ns.map int),.int 0]/\d=.int (ns.headD 0)
theorem Hr(T:Txt mg)(F:Fun K "_law_cell_at" "_law_cell_at" C8 f fd)(hm:mg "_law_cell_at"=some (.ref f)):DFn P w K mg base 1 "_law_cell_at" GM:=by
 refine F.data hm (by walk_at"b2") Gy (λds d ⟨_,e,_⟩=>by rw[e];rfl) λcdv A outer s H E ds d hr ⟨ns,e,e2⟩=>?_
 subst e e2
 cases ns with
 |nil=>
  refine Ai (Av (k:=false) (Aj (Al (evv 1) (Au "len" (Aa (evv 0) Ac) (by walk_at"cd") rfl T.b_len (by decide+kernel)) (by walk_at"od") (Ak _)) rfl) nofun (λ_=>At)) ?_
  exact Af (Ap Ab)
 |cons a r=>
  refine Af (Av (k:=true) (Aj (Al (evv 1) (Au "len" (Aa (evv 0) Ac) (by walk_at"cd") rfl T.b_len (by decide+kernel)) (by walk_at"od") (Ak _)) (decide_eq_true (by simp))) (λ_=>Af (Ap (A1 (evv 0) (evv 1) (Bi (by decide) rfl)))) nofun)
theorem CZ(l:List Int):(list (l.map int)).depth<=2:=by
 have:=EK (f:=int) (n:=1) l λ_ _=>by simp[depth]
 simp[depth]
 omega
theorem Ei(l:List Int):(list (l.map int)).canLay0=true:=Eb l λ_ _=>rfl
theorem IJ(S:MS):(staD S).canLay0=true:=by
 have h1:=Ei S.bx
 have h2:=Ei S.mem
 have h3:=Ei S.told
 unfold staD
 unfold canLay0 at h1 h2 h3 ⊢
 simp only[canLayAll0,canLay0,h1,h2,h3,Bool.and_self]
theorem Nc(S:MS):(staD S).depth<=60:=by
 have h1:=CZ S.bx
 have h2:=CZ S.mem
 have h3:=CZ S.told
 have:(staD S).depth<=60:=by
  unfold staD
  simp only[depth,depthAll]at h1 h2 h3 ⊢
  omega
 exact this
theorem M5:∀(n:Nat) {S:MS},MsOk S->canLay0 (.str (runF n S).2.1)=true
 |0,_,_=>(by decide+kernel:canLay0 (.str "")=true)
 |n+1,S,ok=>by
  have st:=EE ok
  unfold runF
  split
  .exact M5 n (CP ok st).ok
  .exact Gz ok st
theorem SW(c:Int){w:Str}(h:canLay0 (.str w)=true):(tuple [.int c,.str w]).canLay0=true:=by
 unfold canLay0 at h ⊢
 simp only[canLayAll0,canLay0,h,Bool.and_self]
theorem Od(c:Int)(w:Str):(tuple [.int c,.str w]).depth<=60:=by
 simp[depth,depthAll]
abbrev z6(K:Frag)(t:CoT)(C:Addr)(RM RO:OR)(dn:Addr)(o:Option Addr)(R:CtR)(m:Led)(S1 S2:MS)(nm:List ((Int×Int)×Int)):List Zt:=[(t.L o,t.I o),(R.L,CtZ C R m),mI K RM S1,mI K RO S2,([dn],Pz dn nm)]
section
variable{t:CoT}{RO:OR}{o:Option Addr}{S1 S2:MS}
theorem ges6:Ges (z6 K t C RM RO dn o R m S1 S2 nm):=by
 intro z hz
 simp only[mem_cons,not_mem_nil,or_false]at hz
 rcases hz with rfl|rfl|rfl|rfl|rfl
 .exact PQ
 .exact S_
 .exact GK
 .exact GK
 .exact To
variable{k i8 i6 i7 i9:Nat}{b:Nat}{x8 x6 x7 x9 y:Str}{p1 p6 p0 p7 p9:Pos}
theorem Te{pl:Sem Bool}(cl:Cls X.K C)(D:FoFn X.prog X.w X.K X.mg X.base k C CM)(hr:Room k X.A)(hC:RM.C=CM)(ok:MsOk S1)(hs:S1.sto.length+n<100000)(ht:S1.told.length+n<100000)(nd:(m.map (·.1)).Nodup)(lb:LB m b)(hbn:b+n<100000)(h8:(i8,R.a)∈rs)(h6:(i6,RM.a)∈rs)(hv8:PE X (.Name x8 pos2) (tVar i8))(hv6:PE X (.Name x6 p6) (tVar i6))(ha:EV X G e (.int (n:Int)))
  (hN:X.N.Nodup)(hj:X.N[j]?=some y)(hj0:j∉rs.map (·.1))(hy:Loc X.env.scope y)
  (he:starEach [.Name x6 p6,e] X.env=(false,eval (.Name x6 p6) X.env)::starEach [e] X.env:=by rfl)(he2:starEach [e] X.env=(false,eval e X.env)::starEach [] X.env:=by rfl)(hpl:(backTo pos (starEach [e] X.env)).any (·.1)=false:=by rfl)
  (hev:eval (.Call (.Attribute (.Name x8 pos2) "follow" apos) [.Name x6 p6,e] [] pos) X.env=(do
   let ov <-eval (.Name x8 pos2) X.env
   standAt apos.atName
   let(f,first) <-holding [ov] (getMethod ov "follow" pl)
   callWith pos f first (backTo pos (starEach [.Name x6 p6,e] X.env)) (backToKw pos (keywordEach [] X.env))):=by rfl)
  (hsw:swapsWith (.Call (.Attribute (.Name x8 pos2) "follow" apos) [.Name x6 p6,e] [] pos) (some (.Name y p1)) p4.line X.env=pure false:=by rfl)
  (hfn:Zlo X y:=by first|exact .inl rfl|exact .inr rfl|assumption):
  PS X (.Assign [.Name y p1] (.Call (.Attribute (.Name x8 pos2) "follow" apos) [.Name x6 p6,e] [] pos) p4) (zV X.K (LZ (z6 X.K t C RM RO dn o R m S1 S2 nm)) (TZ (z6 X.K t C RM RO dn o R m S1 S2 nm)) rs G (λL' σ' H'=>∃R':CtR,R'.a=R.a/\L'=LZ (z6 X.K t C RM RO dn o R' (foM m S1 n) (runF n S1).2.2 S2 nm)/\RZ X.K (LZ (z6 X.K t C RM RO dn o R' (foM m S1 n) (runF n S1).2.2 S2 nm)) (TZ (z6 X.K t C RM RO dn o R' (foM m S1 n) (runF n S1).2.2 S2 nm)) rs (G.set j (some (.tuple [.int (runF n S1).1,.str (runF n S1).2.1]))) σ' H') noRt):=by
 obtain⟨f,fd,ps,okf,hm,hb⟩:=D
 refine(Bn hN hj hy (DS (E:=E0) (dvs:=[]) (ds:=[]) hv8 cl hm okf hr hb .nil Ci (Cq hv6 (Aa ha Ac he2) he) he hpl hev) hsw hfn).imp λD σ H ⟨r,q1,_⟩=>⟨.ref R.a,r.1 _ h8,?_⟩
 have hz1:CtZ C R m H:=r.2.1.2 (R.L,CtZ C R m) (mem_of_getElem? (i:=1) rfl)
 refine⟨R.a,R.dx,_,rfl,hz1.1,by rw[lookup_cons,show(("follow":Str)==("led":Str))=false from by decide];rfl,.ref RM.a,r.1 _ h6,r.sd,λvs H2 s2 dv=>?_⟩
 obtain⟨v1,rfl,d1⟩:=dv.one
 have d1:=d1.of_int
 subst d1
 have r2:=r.step ges6.ok s2
 have tz2:TZ ([(t.L o,t.I o)]++(its2 X.K C RM R m S1++[mI X.K RO S2,([dn],Pz dn nm)])) H2:=r2.2.1
 refine⟨R,m,RM,S1,n,b,hC,(TZ.mid2.mp tz2).2.1,ok,hs,ht,nd,lb,hbn,rfl,λR' v H' ea t' s' dv'=>?_⟩
 obtain⟨t3,s3⟩:=LN (M:=its2 X.K C RM R m S1) (M':=its2 X.K C RM R' (foM m S1 n) (runF n S1).2.2) ges6 tz2 s' t'
 have sT:=s2.lef.trans s3
 have nt:=ges6.ok.notup t3
 have dv3:=DV.lef (L:=LZ (z6 X.K t C RM RO dn o R' (foM m S1 n) (runF n S1).2.2 S2 nm)) nt (dv'.mono lef_same) rfl
 have r3:=GX r t3 sT
 refine q1 _ _ _ ⟨R',ea,rfl,λz hz=>?_,t3,r3.2.2.set dv3⟩ sT
 rw[getElem?_set_ne λw=>hj0 (mem_map.mpr ⟨z,hz,w.symm⟩)]
 exact r.1 z hz
theorem Uj(D:LdFn X.prog X.w X.K X.mg X.base k CM)(hr:Room k X.A)(hg:Gl X "_law_led")(hC:RO.C=CM)(ok:MsOk S2)(hs:S2.sto.length+n<100000)(ht:S2.told.length+n<100000)(hln:nm.length+n<900)(h7:(i7,RO.a)∈rs)(h9:(i9,dn)∈rs)(hv7:PE X (.Name x7 p7) (tVar i7))(hv9:PE X (.Name x9 p9) (tVar i9))(ha:EV X G e (.int (n:Int)))
  (hN:X.N.Nodup)(hj:X.N[j]?=some y)(hj0:j∉rs.map (·.1))(hy:Loc X.env.scope y)
  (he:starEach [.Name x7 p7,e,.Name x9 p9] X.env=(false,eval (.Name x7 p7) X.env)::starEach [e,.Name x9 p9] X.env:=by rfl)(he2:starEach [e,.Name x9 p9] X.env=(false,eval e X.env)::starEach [.Name x9 p9] X.env:=by rfl)(he3:starEach [.Name x9 p9] X.env=(false,eval (.Name x9 p9) X.env)::starEach [] X.env:=by rfl)(hpl:(backTo pos (starEach [e,.Name x9 p9] X.env)).any (·.1)=false:=by rfl)
  (hsw:swapsWith (.Call (.Name "_law_led" p0) [.Name x7 p7,e,.Name x9 p9] [] pos) (some (.Name y p1)) p4.line X.env=pure false:=by rfl)
  (hfn:Zlo X y:=by first|exact .inl rfl|exact .inr rfl|assumption):
  PS X (.Assign [.Name y p1] (.Call (.Name "_law_led" p0) [.Name x7 p7,e,.Name x9 p9] [] pos) p4) (zN X.K (LZ (z6 X.K t C RM RO dn o R m S1 S2 nm)) (TZ (z6 X.K t C RM RO dn o R m S1 S2 nm)) rs G (G.set j (some (.tuple [.int (runF n S2).1,.str (runF n S2).2.1]))) (TZ (z6 X.K t C RM RO dn o R m S1 (runF n S2).2.2 (ldP nm S2 n)))):=by
 obtain⟨f,fd,ps,okf,hm,hk,hb⟩:=D
 refine(Bn hN hj hy (Jb (E:=E0) (dvs:=[]) (ds:=[]) okf hr hg hm hk hb .nil Ci (Cq hv7 (Cq ha (Cq hv9 pa_nil he3) he2) he) (by decide) he hpl) hsw hfn).imp λD σ H ⟨r,q1⟩=>⟨.ref RO.a,r.1 _ h7,r.sd,λv1 H2 s2 d1=>⟨.ref dn,r.1 _ h9,?_⟩⟩
 have d1:=d1.of_int
 subst d1
 have r2:=r.step ges6.ok s2
 have tz2:TZ ([(t.L o,t.I o),(R.L,CtZ C R m),mI X.K RM S1]++(itsD X.K RO dn S2 nm++[])) H2:=r2.2.1
 refine⟨RO,S2,dn,nm,n,hC,(TZ.mid2.mp tz2).2.1,ok,hs,ht,hln,rfl,λv H' t' s' dv'=>?_⟩
 obtain⟨t3,s3⟩:=LN (M:=itsD X.K RO dn S2 nm) (M':=itsD X.K RO dn (runF n S2).2.2 (ldP nm S2 n)) ges6 tz2 s' t'
 have sT:=s2.lef.trans s3
 have nt:=ges6.ok.notup t3
 have dv3:=DV.lef (L:=LZ (z6 X.K t C RM RO dn o R m S1 S2 nm)) nt (dv'.mono lef_same) rfl
 have r3:=GX r t3 sT
 refine q1 _ _ ⟨λz hz=>?_,t3,r3.2.2.set dv3⟩ sT
 rw[getElem?_set_ne λw=>hj0 (mem_map.mpr ⟨z,hz,w.symm⟩)]
 exact r.1 z hz
theorem NW{pl:Sem Bool}{e2:Expr}{g:Option Int}{z:Int}(cl:Cls X.K C)(D:TbM X.prog X.w X.K X.mg X.base k t C "guess" (LI C))(hr:Room k X.A)(hln:(inn m z).length<64)(hg:CW m z=g)(h8:(i8,R.a)∈rs)(hv8:PE X (.Name x8 pos2) (tVar i8))(ha:EV X G e (.int z))
  (v:∀o',Sees X.K (LZ (z6 X.K t C RM RO dn o' R m S1 S2 nm)) (TZ (z6 X.K t C RM RO dn o' R m S1 S2 nm)) rs G G')(h2:EV X G' e2 (Dk g))(hu:X.A.units+64<cLine)(hnm:behindInMarks .NotEq e2=false)
  (he:starEach [e] X.env=(false,eval e X.env)::starEach [] X.env:=by rfl)(hpl:(backTo pos (starEach [] X.env)).any (·.1)=false:=by rfl)
  (hev:eval (.Call (.Attribute (.Name x8 pos2) "guess" apos) [e] [] pos) X.env=(do
   let ov <-eval (.Name x8 pos2) X.env
   standAt apos.atName
   let(f,first) <-holding [ov] (getMethod ov "guess" pl)
   callWith pos f first (backTo pos (starEach [e] X.env)) (backToKw pos (keywordEach [] X.env))):=by rfl):
  PT X (.Compare (.Call (.Attribute (.Name x8 pos2) "guess" apos) [e] [] pos) [.NotEq] [e2] pos3) (zTE X.K (LZ (z6 X.K t C RM RO dn o R m S1 S2 nm)) (TZ (z6 X.K t C RM RO dn o R m S1 S2 nm)) rs G false (λo':Option Addr=>LZ (z6 X.K t C RM RO dn o' R m S1 S2 nm)) λo'=>TZ (z6 X.K t C RM RO dn o' R m S1 S2 nm)):=by
 obtain⟨f,fd,ps,okf,hm,hb⟩:=D
 have hly:(Dk g).canLay0=true:=by cases g<;>rfl
 have hdp:(Dk g).depth<=60:=by cases g<;>simp[Dk,depth]
 have hne:OD X (compareOp .NotEq) (Dk g) (Dk g) (.bool false):=Ct hu hly hly (le_trans (Nat.min_le_left _ _) hdp) (by rw[Ds _ hly];rfl)
 refine(LL hne (DS (E:=E0) (dvs:=[]) (ds:=[]) hv8 cl hm okf hr hb .nil Ci (Aa ha Ac he) he hpl hev) h2 hnm).imp λσ H Q ⟨r,q⟩=>⟨.ref R.a,r.1 _ h8,?_⟩
 have hz1:CtZ C R m H:=r.2.1.2 (R.L,CtZ C R m) (mem_of_getElem? (i:=1) rfl)
 refine⟨R.a,R.dx,_,rfl,hz1.1,by rw[lookup_cons,show(("guess":Str)==("led":Str))=false from by decide];rfl,r.sd,λvs H2 s2 dv=>?_⟩
 obtain⟨v1,rfl,d1⟩:=dv.one
 have d1:=d1.of_int
 subst d1
 have r2:=r.step ges6.ok s2
 have tz2:=r2.2.1
 have hCt:CtZ C R m (lef (t.L o) H2):=T_ (it:=(t.L o,t.I o)) (it2:=(R.L,CtZ C R m)) (A:=[]) (B:=(z6 X.K t C RM RO dn o R m S1 S2 nm).tail) rfl tz2 ges6 mem_cons_self
 refine⟨o,[ctD C m,.int z],Dk g,tz2.2 (t.L o,t.I o) mem_cons_self,.cons hCt.dv (.cons (.int z) .nil),⟨m,z,hln,rfl,by rw[hg]⟩,λo' u H' i' s' dv'=>?_⟩
 obtain⟨t4,s4⟩:=Fp (A:=[]) (B:=(z6 X.K t C RM RO dn o R m S1 S2 nm).tail) (it:=(t.L o,t.I o)) (it':=(t.L o',t.I o')) ges6 tz2 s' i'
 have sT:=s2.lef.trans s4
 have r4:RZ X.K (LZ (z6 X.K t C RM RO dn o' R m S1 S2 nm)) (TZ (z6 X.K t C RM RO dn o' R m S1 S2 nm)) rs G σ H':=GX r t4 sT
 refine⟨v o' σ H' r4,λu2 H3 s3 dv2=>⟨?_,dv2,λu3 H5 s5 dv3=>?_⟩⟩
 .cases g with
  |none=>cases dv';exact .non
  |some z=>cases dv';exact .int z
 .refine⟨false,dv3.of_bl,q o' H5 (ges6.ok.step (ges6.ok.step t4 s3) s5) (sT.trans (s3.trans s5).lef)⟩
end
def spL6(K:Frag)(Ta:Addr):Sp:=λvs H Q _=>∃(a:Addr) (ns:List Int),vs=[.ref a]/\ns.length<=63/\H Ta=some (.tbl #[])/\SqL K H a (ns.map V.int)/\∀H',Q (.bl true) H'
abbrev fr6(ns:List Int)(ld:Int)(S0:MS)(x10 x11 x12 x13 x14 x15:Option PyData):Gam:=[some (.list (ns.map int)),some (.int ld),some (.list (S0.pg.map AJ)),some (.list (S0.mem.map int)),some (.list (S0.bx.map int)),some (.int S0.here),none,none,none,none,x10,x11,x12,x13,x14,x15]
structure Y6 where
 o:Option Addr
 R:CtR
 m:Led
 S:MS
 nm:List ((Int×Int)×Int)
structure G6(R0:CtR)(k:Nat)(y:Y6):Prop where
 a:y.R.a=R0.a
 ok:MsOk y.S
 st:y.S.sto.length<=60*k
 to:y.S.told.length<=60*k
 c:C5 y.m y.nm
 lb:LB y.m (60*k)
 jf:JF y.m y.S (60*k)
 ln:y.nm.length<=60*k
set_option maxHeartbeats 20000000 in
theorem SN(T:Txt mg){Ta:Addr}(CC:ClsC K mg C)(CL:ClsM K mg CM)(D0:OIFn P w K mg base 5 CM RC)(D_cell:DFn P w K mg base 1 "_law_cell_at" GM)(D_whole:DFn P w K mg base 1 "_law_whole" Oq)(R_law_program:RFn P w K mg base 3 "_law_program" LW Mv)(D_twin:NMFn P w K mg base 7 CM "twin" (NQ CM))(C_init:CiFn P w K mg base 1 C)(D_fol:FoFn P w K mg base 7 C CM)(D_led:LdFn P w K mg base 7 CM)(D_state:MFn P w K mg base 2 CM "state" (λds d=>∃S:MS,ds=[mcD CM S]/\d=staD S))(M_often:MFn P w K mg base 1 C "often" (N_ C))(M_guess:TbM P w K mg base 2 (tb54 Ta) C "guess" (LI C))(D_guess:DFn P w K mg base 1 "_law_guess" OL)
  (F:Fun K "law" "law" PN f fd):FnOk P w K mg base CX0 20 f fd ["script"] (spL6 K Ta):=by
 refine F.ok sc_law (λvs H Q E ⟨_,_,e,_⟩=>by rw[e];rfl) ?_
 rintro cdv A outer s H vs Q E hr ⟨a,ns,e,hns,hT,hS,q⟩
 subst e
 refine⟨tDTb K (tb54 Ta).T [some (.list (ns.map int)),none,none,none,none,none,none,none,none,none,none,none,none,none,none,none],?_,SD.start (.cons (.lst hS (DVs.ints ns)) .nil),hT,q⟩
 refine TC (i:=1) (d:=.int (ns.headD 0)) sc_law.nd rfl (inl rfl) (Aq D_cell (by walk_at"rm") rfl (Aa (evv 0) (Aa Ab Ac)) ⟨ns,rfl,rfl⟩) ?_
 refine RJ (is:=[2,3,4,5]) (Jz R_law_program (by walk_at"rm") rfl (Aa (evv 0) (Aa Ab Ac)) ⟨ns,1,hns,rfl⟩) (Cn rfl (A3 (Ay (i:=2) sc_law.nd rfl (by first|exact inl rfl|exact inr rfl)) (A3 (Ay (i:=3) sc_law.nd rfl (by first|exact inl rfl|exact inr rfl)) (A3 (Ay (i:=4) sc_law.nd rfl (by first|exact inl rfl|exact inr rfl)) (A3 (Ay (i:=5) sc_law.nd rfl (by first|exact inl rfl|exact inr rfl)) Bv))))) ?_ ?_
 .rintro d ⟨S,_,rfl⟩
  exact⟨_,rfl,rfl⟩
 rintro dd ⟨S00,ok00,e⟩ _
 cases e
 obtain⟨S0,hS0,ok0⟩:∃S0:MS,S0={S00 with tz:=false,tl:=false,told:=[],sto:=[],done:=0}/\MsOk S0:=⟨_,rfl,⟨ok00.p1,ok00.p8,ok00.ml,ok00.mw,ok00.bl,ok00.bw,ok00.h⟩⟩
 have q1:S00.pg=S0.pg:=by rw[hS0]
 have q2:S00.mem=S0.mem:=by rw[hS0]
 have q3:S00.bx=S0.bx:=by rw[hS0]
 have q4:S00.here=S0.here:=by rw[hS0]
 have q5:S0.sto=[]:=by rw[hS0]
 have q6:S0.told=[]:=by rw[hS0]
 have mk:RC [.list (S0.pg.map AJ),.list (S0.mem.map int),.list (S0.bx.map int),.int S0.here] (lfM S0) (dfM S0):=⟨S0,ok0,by rw[hS0],by rw[hS0],q6,q5,by rw[hS0],rfl,rfl,rfl⟩
 rw[q1,q2,q3,q4]
 clear hS0 q1 q2 q3 q4
 obtain⟨ld,eld⟩:∃ld,ld=ns.headD 0:=⟨_,rfl⟩
 rw[<-eld]
 refine Ru (t:=tb54 Ta) ?_
 refine T8 (it:=((tb54 Ta).L none,(tb54 Ta).I none)) ?_
 have g1:Ges ([((tb54 Ta).L none,(tb54 Ta).I none)]++[]):=Bq PQ
 refine Ca (β:=OR) (λR=>R.C=CM) (EO (G:=fr6 ns ld S0 none none none none none none) (P:=λR:OR=>R.C=CM) (Lo:=OR.L) (Io:=λR=>Oz K R (lfM S0) (dfM S0)) (ad:=OR.a) (A:=[((tb54 Ta).L none,(tb54 Ta).I none)]) (B:=[]) (j:=6) g1 sc_law.nd rfl (by show 6∉[];decide) (inl rfl) rfl (Kq (lf:=lfM S0) (df:=dfM S0) (λσ H r=>r.sd) D0 (by walk_at"rm") rfl CL.at_ (Aa (evv 2) (Aa (evv 3) (Aa (evv 4) (Aa (evv 5) Ac)))) mk)) ?_
 intro RM hM
 have hM:RM.C=CM:=hM
 have g2:Ges ([((tb54 Ta).L none,(tb54 Ta).I none),mI K RM S0]++[]):=DW (A:=[((tb54 Ta).L none,(tb54 Ta).I none)]) (B:=[mI K RM S0]) (Bq PQ) (Bq GK)
 refine Ca (β:=OR) (λR=>R.C=CM) (EO (G:=fr6 ns ld S0 none none none none none none) (P:=λR:OR=>R.C=CM) (Lo:=OR.L) (Io:=λR=>Oz K R (lfM S0) (dfM S0)) (ad:=OR.a) (A:=[((tb54 Ta).L none,(tb54 Ta).I none),mI K RM S0]) (B:=[]) (j:=7) g2 sc_law.nd rfl (by show 7∉[6];decide) (inl rfl) rfl (KW (lf:=lfM S0) (df:=dfM S0) (Dr (i:=6) mem_cons_self λH t=>PZ hM (t.2 (mI K RM S0) (mem_of_getElem? (i:=1) rfl))) CL.cl D_twin (by walk_at"rm") (evv 6) ⟨S0,ok0,rfl,rfl,rfl⟩)) ?_
 intro RO hO
 have hO:RO.C=CM:=hO
 have g3:Ges ([((tb54 Ta).L none,(tb54 Ta).I none)]++[mI K RM S0,mI K RO S0]):=DW (Bq PQ) (DW (A:=[mI K RM S0]) (B:=[mI K RO S0]) (Bq GK) (Bq GK))
 refine Ca (β:=CtR) (λR=>R.ins=[]) (EO (G:=fr6 ns ld S0 none none none none none none) (A:=[((tb54 Ta).L none,(tb54 Ta).I none)]) (B:=[mI K RM S0,mI K RO S0]) (j:=8) g3 sc_law.nd rfl (by show 8∉[7,6];decide) (inl rfl) rfl (Ov (Sz C_init (by walk_at"rm") (by rfl) CC.at_))) ?_
 intro R0 _
 have g4:Ges ([((tb54 Ta).L none,(tb54 Ta).I none),(R0.L,CtZ C R0 []),mI K RM S0,mI K RO S0]++[]):=DW (A:=[((tb54 Ta).L none,(tb54 Ta).I none),(R0.L,CtZ C R0 [])]) (B:=[mI K RM S0,mI K RO S0]) (DW (A:=[((tb54 Ta).L none,(tb54 Ta).I none)]) (B:=[(R0.L,CtZ C R0 [])]) (Bq PQ) (Bq S_)) (DW (A:=[mI K RM S0]) (B:=[mI K RO S0]) (Bq GK) (Bq GK))
 refine Ca (β:=Addr) (λ_=>True) (EO (G:=fr6 ns ld S0 none none none none none none) (A:=[((tb54 Ta).L none,(tb54 Ta).I none),(R0.L,CtZ C R0 []),mI K RM S0,mI K RO S0]) (B:=[]) (j:=9) g4 sc_law.nd rfl (by show 9∉[8,7,6];decide) (inl rfl) rfl (Ov QL)) ?_
 intro dn _
 show PSs _ _ (zV K (LZ (z6 K (tb54 Ta) C RM RO dn none R0 [] S0 S0 [])) (TZ (z6 K (tb54 Ta) C RM RO dn none R0 [] S0 S0 [])) [(9,dn),(8,R0.a),(7,RO.a),(6,RM.a)] (fr6 ns ld S0 none none none none none none) _ _)
 have h9:((9:Nat),dn)∈[((9:Nat),dn),(8,R0.a),(7,RO.a),(6,RM.a)]:=mem_of_getElem? (i:=0) rfl
 have h8:((8:Nat),R0.a)∈[((9:Nat),dn),(8,R0.a),(7,RO.a),(6,RM.a)]:=mem_of_getElem? (i:=1) rfl
 have h7:((7:Nat),RO.a)∈[((9:Nat),dn),(8,R0.a),(7,RO.a),(6,RM.a)]:=mem_of_getElem? (i:=2) rfl
 have h6:((6:Nat),RM.a)∈[((9:Nat),dn),(8,R0.a),(7,RO.a),(6,RM.a)]:=mem_of_getElem? (i:=3) rfl
 have nrs:∀j:Nat,10<=j->∀q∈[((9:Nat),dn),(8,R0.a),(7,RO.a),(6,RM.a)],q.1≠j:=λj hj q hq=>by
  simp only[mem_cons,not_mem_nil,or_false]at hq
  rcases hq with rfl|rfl|rfl|rfl<;>(show _≠_;omega)
 have ok6:∀(o:Option Addr) (R:CtR) (m:Led) (S1 S2:MS) (nm),ZOk (LZ (z6 K (tb54 Ta) C RM RO dn o R m S1 S2 nm)) (TZ (z6 K (tb54 Ta) C RM RO dn o R m S1 S2 nm)):=λ_ _ _ _ _ _=>ges6.ok
 refine Ps (β:=Y6×Gam) (Lo:=λq=>LZ (z6 K (tb54 Ta) C RM RO dn q.1.o q.1.R q.1.m q.1.S q.1.S q.1.nm)) (Io:=λq=>TZ (z6 K (tb54 Ta) C RM RO dn q.1.o q.1.R q.1.m q.1.S q.1.S q.1.nm)) (Go:=λq=>q.2) (j:=10) (ds:=[.int (ld%60),.int (ld/60%60)])
  (λk q=>G6 R0 k q.1/\∃x10 x11 x12,q.2=fr6 ns ld S0 x10 x11 x12 none none none) (⟨none,R0,[],S0,[]⟩,fr6 ns ld S0 none none none none none none) (λq=>ok6 _ _ _ _ _ _) never rfl (nrs 10 (by decide)) (Ay (i:=10) sc_law.nd rfl (inl rfl)) H_ (ES (Aa (A0 (Ae (evv 1) Ab (by walk_at"od")) rfl) (Aa (A0 (Ae (Ae (evv 1) Ab (by walk_at"od")) Ab (by walk_at"od")) rfl) Ac)) (by rw[sizeLine_eq];show 2<=16777216;decide)) rfl ⟨⟨rfl,ok0,by rw[q5];exact le_refl _,by rw[q6];exact le_refl _,C5.nil,⟨le_refl _,λ_=>le_refl _⟩,(λ_=>zero_le _),le_refl _⟩,_,_,_,rfl⟩ ?body ?done
 case body=>
  rintro k dd ⟨⟨o,R,m,S,nm⟩,G1⟩ hdd ⟨hg,x10,x11,x12,e⟩
  simp only at e
  subst e
  obtain⟨n,hn60,hk2,ed⟩:∃n:Nat,n<60/\k<2/\dd=.int (n:Int):=by
   match k,hdd with
   |0,hdd=>cases hdd;exact⟨(ld%60).toNat,by omega,by decide,by rw[Int.toNat_of_nonneg (by omega)]⟩
   |1,hdd=>cases hdd;exact⟨(ld/60%60).toNat,by omega,by decide,by rw[Int.toNat_of_nonneg (by omega)]⟩
   |k+2,hdd=>cases hdd
  subst ed
  obtain⟨ha,ok,st,to,c5,lb,jf,ln⟩:=hg
  simp only at ha ok st to c5 lb jf ln
  have h8':((8:Nat),R.a)∈[((9:Nat),dn),(8,R0.a),(7,RO.a),(6,RM.a)]:=by rw[ha];exact h8
  have b1:S.sto.length+n<100000:=by omega
  have b2:S.told.length+n<100000:=by omega
  have b3:60*k+n<100000:=by omega
  have b4:nm.length+n<900:=by omega
  refine Ca (β:=CtR) (Lo:=λR'=>LZ (z6 K (tb54 Ta) C RM RO dn o R' (foM m S n) (runF n S).2.2 S nm)) (Io:=λR'=>TZ (z6 K (tb54 Ta) C RM RO dn o R' (foM m S n) (runF n S).2.2 S nm)) (ro:=λ_=>[(9,dn),(8,R0.a),(7,RO.a),(6,RM.a)]) (Go:=λ_=>fr6 ns ld S0 (some (.int (n:Int))) (some (.tuple [.int (runF n S).1,.str (runF n S).2.1])) x12 none none none) (λR'=>R'.a=R.a) (Te (j:=11) (i8:=8) (i6:=6) CC.cl D_fol (by walk_at"rm") hM ok b1 b2 c5.mn lb b3 h8' h6 (pv 8) (pv 6) (evv 10) sc_law.nd rfl (by show 11∉[9,8,7,6];decide) (inl rfl)) ?_
  intro R' ea
  refine A_ (G1:=fr6 ns ld S0 (some (.int (n:Int))) (some (.tuple [.int (runF n S).1,.str (runF n S).2.1])) (some (.tuple [.int (runF n S).1,.str (runF n S).2.1])) none none none) (I1:=TZ (z6 K (tb54 Ta) C RM RO dn o R' (foM m S n) (runF n S).2.2 (runF n S).2.2 (ldP nm S n))) (Uj (j:=12) (i7:=7) (i9:=9) D_led (by walk_at"rm") rfl hO ok b1 b2 b4 h7 h9 (pv 7) (pv 9) (evv 10) sc_law.nd rfl (by show 12∉[9,8,7,6];decide) (inl rfl)) ?_
  have hly:=SW ((runF n S).1:Int) (M5 n ok)
  obtain⟨okw,hsw,htw,hpw⟩:=HV n ok
  have c5':=C5.run n (S:=S) c5
  have lb':=LB.run n (S:=S) lb
  have jf':=JF.run n ok jf
  have ln':=LA n (nm:=nm) (S:=S)
  have hW:G6 R0 (k+1) ⟨o,R',foM m S n,(runF n S).2.2,ldP nm S n⟩:=⟨ea.trans ha,okw,by show(runF n S).2.2.sto.length<=_;omega,by show(runF n S).2.2.told.length<=_;omega,c5',⟨by have:=lb'.1;show(foM m S n).length<=_;omega,λp=>by have:=lb'.2 p;show(inn (foM m S n) p).length<=_;omega⟩,λp=>le_trans (jf' p) (Nat.add_le_add_right (show 60*k+n<=60*(k+1) by omega) _),by show(ldP nm S n).length<=_;omega⟩
  generalize (runF n S).2.2=Sw at okw hsw htw hpw hW
  generalize (runF n S).2.1=wd at hly
  generalize (runF n S).1=cn at hly
  generalize foM m S n=m' at hW c5' lb'
  generalize ldP nm S n=nm' at hW c5' ln'
  have eLZ:LZ (z6 K (tb54 Ta) C RM RO dn o R' m' Sw S nm)=LZ (z6 K (tb54 Ta) C RM RO dn o R' m' Sw Sw nm'):=rfl
  show PSs _ _ (zV K (LZ (z6 K (tb54 Ta) C RM RO dn o R' m' Sw S nm)) _ _ _ _ _)
  rw[eLZ]
  refine IQ (BL (OQ (ok6 _ _ _ _ _ _) (Kk h6 h7 (λH t=>PZ hM (t.2 (mI K RM Sw) (mem_of_getElem? (i:=2) rfl))) (λH t=>PZ hO (t.2 (mI K RO Sw) (mem_of_getElem? (i:=3) rfl)))) (Aj (AR (B3 (k:=false) (k':=false) (Aj (AU (k:=true) (AQ (Hm (n:="tuple") (evv 11) rfl T.b_isinstance rfl T.b_tuple (by decide+kernel) (by rfl)))) rfl) (λ_=>B3 (k:=false) (k':=false) (Al (evv 11) (evv 12) (Ct (by walk_at"un") hly hly (le_trans (Nat.min_le_left _ _) (Od _ _)) (by rw[Ds _ hly];rfl)) (Ak _)) (λ_=>B3 (k:=false) (k':=false) (Aj (AU (k:=true) (AQ (Aq D_whole (by walk_at"rm") rfl (Aa (A4 (ds:=[.int (cn:Int),.str wd]) (evv 11) Ab (Bi (by decide) rfl)) Ac) ⟨⟨_,rfl⟩,rfl⟩))) rfl) (λ_=>By (Al (AM CL.cl D_state (by walk_at"rm") (evv 6) ⟨Sw,rfl,rfl⟩) (AM CL.cl D_state (by walk_at"rm") (evv 7) ⟨Sw,rfl,rfl⟩) (Ct (by walk_at"un") (IJ _) (IJ _) (le_trans (Nat.min_le_left _ _) (Nc _)) (by rw[Ds _ (IJ _)];rfl)) (Ak _))))))) rfl))) ?_
  exact Eg λσ H rz=>⟨(⟨o,R',m',Sw,nm'⟩,_),⟨hW,_,_,_,rfl⟩,rfl,rz⟩
 case done=>
  rintro⟨⟨o,R,m,S,nm⟩,G1⟩ ⟨hg,x10,x11,x12,e⟩
  simp only at e
  subst e
  obtain⟨ha,ok,st,to,c5,lb,jf,ln⟩:=hg
  simp only at ha ok st to c5 lb jf ln
  have h8':((8:Nat),R.a)∈[((9:Nat),dn),(8,R0.a),(7,RO.a),(6,RM.a)]:=by rw[ha];exact h8
  refine J2 (A:=[((tb54 Ta).L o,(tb54 Ta).I o),(R.L,CtZ C R m),mI K RM S,mI K RO S]) (B:=[]) (d:=dn) (nm:=nm) (j1:=13) (j2:=14) (i:=9) ges6 (λk G=>∃x13 x14,G=fr6 ns ld S0 x10 x11 x12 x13 x14 none) never rfl (λq hq=>by
   have a:=nrs 13 (by decide) q hq
   have b:=nrs 14 (by decide) q hq
   simp[a,b]) (Cn rfl (A3 (Ay (i:=13) sc_law.nd rfl (by first|exact inl rfl|exact inr rfl)) (A3 (Ay (i:=14) sc_law.nd rfl (by first|exact inl rfl|exact inr rfl)) Bv))) (pv 9) h9 ⟨_,_,rfl⟩ ?ibody ?idone
  case ibody=>
   rintro ob k p t v G hk ⟨x13,x14,rfl⟩
   have hv:getI (inn m p) t=v:=by rw[<-c5.same];exact Fh c5.nn (mem_of_getElem? hk)
   have okF:ZOk (LZ ([((tb54 Ta).L o,(tb54 Ta).I o),(R.L,CtZ C R m),mI K RM S,mI K RO S]++([dn],Pz dn nm)::[])) (TZ ([((tb54 Ta).L o,(tb54 Ta).I o),(R.L,CtZ C R m),mI K RM S,mI K RO S]++([dn],Fz dn ob nm)::[])):=by
    have h:=(II (A:=[((tb54 Ta).L o,(tb54 Ta).I o),(R.L,CtZ C R m),mI K RM S,mI K RO S]) (B:=[]) (it:=([dn],Pz dn nm)) (it':=([dn],Fz dn ob nm)) (ges6 (K:=K) (t:=tb54 Ta) (C:=C) (RM:=RM) (RO:=RO) (dn:=dn) (o:=o) (R:=R) (m:=m) (S1:=S) (S2:=S) (nm:=nm)) Rp).ok
    exact h
   refine IQ (BL (OQ okF (Dr h8' λH t=>CtZ.dv (t.2 (R.L,CtZ C R m) (mem_of_getElem? (i:=1) rfl))) (Aj (Al (Bc CC.cl M_often (by walk_at"rm") (evv 8) (Aa (A4 (ds:=[.int p,.int t]) (evv 13) Ab rfl) (Aa (A4 (ds:=[.int p,.int t]) (evv 13) Ab rfl) Ac)) ⟨m,p,t,rfl,rfl⟩) (evv 14) (Ct (by walk_at"un") rfl rfl (by walk_at"dp") rfl) (Ak _)) (by rw[hv,Ds _ rfl];rfl)))) ?_
   exact Eg λσ H rz=>⟨rfl,_,⟨_,_,rfl⟩,rz⟩
  case idone=>
   rintro G ⟨x13,x14,rfl⟩
   have hlen:S0.mem.length<1000:=by rw[ok0.ml];have:=ok0.p8;omega
   refine Nq (β:=Option Addr×Gam) (Lo:=λq=>LZ (z6 K (tb54 Ta) C RM RO dn q.1 R m S S nm)) (Io:=λq=>TZ (z6 K (tb54 Ta) C RM RO dn q.1 R m S S nm)) (Go:=λq=>q.2) (j:=15) (n:=S0.mem.length)
    (λ_ q=>∃x15,q.2=fr6 ns ld S0 x10 x11 x12 x13 x14 x15) (o,fr6 ns ld S0 x10 x11 x12 x13 x14 none) (λq=>ok6 _ _ _ _ _ _) never rfl (nrs 15 (by decide)) (Ay (i:=15) sc_law.nd rfl (inl rfl)) H_ (A0 (Au "len" (Aa (evv 3) Ac) Bt rfl T.b_len (by decide+kernel)) (by rw[length_map])) hlen rfl T.b_range ⟨_,rfl⟩ ?hbody ?hdone
   case hbody=>
    rintro k ⟨o1,G1⟩ hk ⟨x15,e⟩
    simp only at e
    subst e
    have see9:∀(o':Option Addr) (G:Gam),Sees K (LZ (z6 K (tb54 Ta) C RM RO dn o' R m S S nm)) (TZ (z6 K (tb54 Ta) C RM RO dn o' R m S S nm)) [(9,dn),(8,R0.a),(7,RO.a),(6,RM.a)] G (G.set 9 (some (.dict (ppE nm)))):=λo' G=>Dr h9 λH t=>.dtt (t.2 ([dn],Pz dn nm) (mem_of_getElem? (i:=4) rfl))
    refine Re (NW (i8:=8) (z:=(k:Int)) (g:=(lgO nm (k:Int)).map (·.2)) CC.cl M_guess (by walk_at"rm") (jf.few (show 60*2<=120 by decide) (c5.ni _)) (c5.guess (k:Int)) h8' (pv 8) (evv 15) (λo'=>see9 o' _) (Aq D_guess (by walk_at"rm") rfl (Aa (evv 9) (Aa (evv 15) Ac)) ⟨nm,(k:Int),rfl,rfl⟩) (by walk_at"un") (Ak _)) λo'=>?_
    exact Eg λσ H rz=>⟨(o',_),⟨_,rfl⟩,rfl,rz⟩
   case hdone=>
    rintro⟨o1,G1⟩ ⟨x15,e⟩
    simp only at e
    subst e
    refine Fb (d:=.bool true) (Lh (ok6 _ _ _ _ _ _) (Kk h8' h9 (λH t=>CtZ.dv (t.2 (R.L,CtZ C R m) (mem_of_getElem? (i:=1) rfl))) (λH t=>.dtt (t.2 ([dn],Pz dn nm) (mem_of_getElem? (i:=4) rfl)))) (A0 (BP (Bc CC.cl M_often (by walk_at"rm") (evv 8) (Aa Ab (Aa Ab Ac)) ⟨m,4095,4095,rfl,rfl⟩) (Qt (Ie (by walk_at"un")) (evv 9) Ab Ab Ab ⟨rfl,rfl,rfl,rfl⟩) (AZ (by walk_at"un") rfl rfl (by walk_at"dp") (Bk _ _)) (Ak _)) (by rw[c5.same,decide_eq_true rfl])) rfl) λv H' _ dv=>dv.of_bl
def Ba(K:Frag)(C:Addr)(m qual:Str)(st:Stmt):Prop:=∃f fd,Fun K m qual st f fd/\Meth K C m f
theorem mthIn_mk{f:Addr}{m qual:Str}{st:Stmt}{oc:Value}{od an:Option Addr}{osl:Array (Option Value)}{kV doc pm cdv ct:Value}(a:findIn K (.ref C) m=some (some (.ref f)))(i:isFn K (.ref f)=true)(l:K.lookup f=some ⟨oc,od,.func (fnOf m qual (BT st) (AB st) (Ad st) .none kV doc pm an cdv ct),osl⟩)(c:codeIn K cdv qual=true)(k:keepIn K (.ref f)=true):Ba K C m qual st:=⟨f,_,IB l c k,a,i,k⟩
def OJ(K:Frag)(C c:Addr)(m qual:Str)(st:Stmt):Prop:=∃f fd,Fun K m qual st f fd/\Meth K C m f/\fd.code=.ref c
theorem mthCIn_mk{f cc:Addr}{m qual:Str}{st:Stmt}{oc:Value}{od an:Option Addr}{osl:Array (Option Value)}{kV doc pm ct:Value}(a:findIn K (.ref C) m=some (some (.ref f)))(i:isFn K (.ref f)=true)(l:K.lookup f=some ⟨oc,od,.func (fnOf m qual (BT st) (AB st) (Ad st) .none kV doc pm an (.ref cc) ct),osl⟩)(c:codeIn K (.ref cc) qual=true)(k:keepIn K (.ref f)=true):OJ K C cc m qual st:=⟨f,_,IB l c k,⟨a,i,k⟩,rfl⟩
def Pc(K:Frag)(C:Addr)(qual:Str)(st:Stmt):Prop:=∃f fd,Fun K "__init__" qual st f fd/\Mk K C f
theorem iniIn_mk{f:Addr}{qual:Str}{st:Stmt}{oc:Value}{od an:Option Addr}{osl:Array (Option Value)}{kV doc pm cdv ct:Value}(a:findIn K (.ref C) "__init__"=some (some (.ref f)))(i:isFn K (.ref f)=true)(l:K.lookup f=some ⟨oc,od,.func (fnOf "__init__" qual (BT st) (AB st) (Ad st) .none kV doc pm an cdv ct),osl⟩)(c:codeIn K cdv qual=true)(k:keepIn K (.ref f)=true)(m1:makesIn K C=true)(m2:keepIn K (.ref C)=true):Pc K C qual st:=⟨f,_,IB l c k,m1,a,i,m2⟩
theorem all_mk{l:PySem.W.OpenLaw}{h:Heap}{fa Cc c Ta:Addr}{t0:Tok}(X:K.In h)(G:h.Ns mainGlobals mg)(hfa:mg "law"=some (.ref fa))(hcd:codeHdIn K c Ta=true)
  (f1:∃f fd,FnIn K "is_below" Eu f fd)
  (f2:∃f fd,FnIn K "is_row" Ha f fd)
  (f3:∃f fd,FnIn K "first_word" Dc f fd)
  (f4:∃f fd,FnIn K "number_in" DJ f fd)
  (f5:∃f fd,FnIn K "is_word" Fn f fd)
  (f6:∃f fd,FnIn K "row_in" Hn f fd)
  (f7:∃f fd,FnIn K "cells_of" E1 f fd)
  (f8:∃f fd,FnIn K "cells_from" CY f fd)
  (f9:∃f fd,FnIn K "has_right" Dg f fd)
  (f10:∃f fd,FnIn K "may_read" Eh f fd)
  (f11:∃f fd,FnIn K "may_write" DG f fd)
  (f12:∃f fd,FnIn K "may_run" Fk f fd)
  (f13:∃f fd,FnIn K "are_words" DK f fd)
  (f14:∃f fd,FnIn K "check_pages" CF f fd)
  (f15:∃f fd,FnIn K "check_state" CA f fd)
  (f16:∃f fd,FnIn K "row_at" E6 f fd)
  (f17:∃f fd,FnIn K "result_of" Cv f fd)
  (f18:∃f fd,FnIn K "less_of" CS f fd)
  (f19:∃f fd,FnIn K "branch_goes" C1 f fd)
  (f20:∃f fd,FnIn K "_law_numbers" C9 f fd)
  (f21:∃f fd,FnIn K "_law_kind" Ew f fd)
  (f22:∃f fd,FnIn K "_law_wide" Ey f fd)
  (f23:∃f fd,FnIn K "_law_row_words" AL f fd)
  (f24:∃f fd,FnIn K "_law_goal" El f fd)
  (f25:∃f fd,FnIn K "_law_pages" Du f fd)
  (f26:∃f fd,FnIn K "_law_laid" Ev f fd)
  (f27:∃f fd,FnIn K "_law_program" Bo f fd)
  (f28:∃f fd,FnIn K "_law_cell_at" C8 f fd)
  (f29:∃f fd,FnIn K "_law_whole" Dx f fd)
  (f30:∃f fd,FnIn K "_law_led" Ff f fd)
  (f31:∃f fd,FnIn K "_law_guess" Dl f fd)
  (f32:∃f fd,FnIn K "law" PN f fd)
  (z1:nsIn K mainGlobals "len"=some none)
  (z2:nsIn K mainGlobals "isinstance"=some none)
  (z3:nsIn K mainGlobals "int"=some none)
  (z4:nsIn K mainGlobals "bool"=some none)
  (z5:nsIn K mainGlobals "all"=some none)
  (z6:nsIn K mainGlobals "zip"=some none)
  (z7:nsIn K mainGlobals "sum"=some none)
  (z8:nsIn K mainGlobals "tuple"=some none)
  (z9:nsIn K mainGlobals "list"=some none)
  (z10:nsIn K mainGlobals "range"=some none)
  (z11:nsIn K mainGlobals "sorted"=some none)
  (z12:nsIn K mainGlobals "max"=some none)
  (i1:nsIn K mainGlobals "PAGE_CELLS"=some (some (.int 16 t0)))
  (p0:nsIn K mainGlobals "Machine"=some (some (.ref C)))(p1:plainGet K C Str.empty=true)(p2:hasDictIn K C=true)(p3:plainOver K C=true)(p4:findIn K (.ref C) "__setattr__"=some (some (.builtin "object.__setattr__")))(p5:findIn K (.ref C) "rights"=some none)(p6:findIn K (.ref C) "memory"=some none)(p7:findIn K (.ref C) "box_words"=some none)(p8:findIn K (.ref C) "here"=some none)(p9:findIn K (.ref C) "truth_pair"=some none)(p10:findIn K (.ref C) "told_words"=some none)(p11:findIn K (.ref C) "stored_cells"=some none)(p12:findIn K (.ref C) "done_count"=some none)
  (j0:Pc K C "Machine.__init__" Cl)
  (m1:Ba K C "address" "Machine.address" B2)
  (m2:Ba K C "hindrance" "Machine.hindrance" Bm)
  (m3:Ba K C "next_place" "Machine.next_place" Bg)
  (m4:Ba K C "peek" "Machine.peek" BX)
  (m5:Ba K C "poke" "Machine.poke" BV)
  (m6:Ba K C "tell" "Machine.tell" Ce)
  (m7:Ba K C "reckon" "Machine.reckon" B9)
  (m8:Ba K C "fill" "Machine.fill" Cd)
  (m9:Ba K C "do" "Machine.do" C_)
  (m10:Ba K C "step" "Machine.step" Cm)
  (m11:Ba K C "pages" "Machine.pages" BO)
  (m12:Ba K C "cells" "Machine.cells" BN)
  (m13:Ba K C "boxes" "Machine.boxes" BJ)
  (m14:Ba K C "truths" "Machine.truths" B6)
  (m15:Ba K C "place" "Machine.place" BM)
  (m16:Ba K C "told" "Machine.told" Cf)
  (m17:Ba K C "done" "Machine.done" B_)
  (m18:Ba K C "state" "Machine.state" BQ)
  (m19:Ba K C "put" "Machine.put" C2)
  (m20:Ba K C "twin" "Machine.twin" Ck)
  (t1:GTup K mg "NAMES" nameL)(d1:FE K mg w.params "PARTS" OU)(d2:FE K mg w.params "BOUNDS" Kp)(d3:FE K mg w.params "WEIGHTS" IC)(t2:GTup K mg "RECKONING" ["add","sub","mul","and","xor","cmp"])
  (c0:nsIn K mainGlobals "Counts"=some (some (.ref Cc)))(c1:plainGet K Cc Str.empty=true)(c2:hasDictIn K Cc=true)(c3:plainOver K Cc=true)(c4:findIn K (.ref Cc) "__setattr__"=some (some (.builtin "object.__setattr__")))(c5:findIn K (.ref Cc) "led"=some none)
  (k0:Pc K Cc "Counts.__init__" C7)(k1:Ba K Cc "note" "Counts.note" BA)(k2:Ba K Cc "often" "Counts.often" Cb)(k3:OJ K Cc c "guess" "Counts.guess" Ch)(k4:Ba K Cc "follow" "Counts.follow" BK):
  ∃fd:FuncData,(∀(s:Shared) (v:Value),BindsTo s fd ⟨[v],[]⟩ [("script",v)])/\∀base:Heap,K.In base->base.Ns mainGlobals mg->base.BuiltinsAt mg Ta->FnOk l.prog w K mg base CX0 20 fa fd ["script"] (spL6 K Ta):=by
 have T:TxtR K mg w.params:=⟨⟨mg_none_of X G z1,mg_none_of X G z2,mg_none_of X G z3,mg_none_of X G z4,mg_none_of X G z5,mg_none_of X G z6,mg_none_of X G z7,mg_none_of X G z8,mg_none_of X G z9,mg_none_of X G z10,mg_none_of X G z11,mg_none_of X G z12,⟨t0,mg_of X G i1⟩⟩,t1,d1,d2,d3,t2⟩
 have CM:ClsM K mg C:=⟨⟨p1,p2,p3,p4⟩,p5,p6,p7,p8,p9,p10,p11,p12,mg_of X G p0⟩
 have CC:ClsC K mg Cc:=⟨⟨c1,c2,c3,c4⟩,c5,mg_of X G c0⟩
 obtain⟨ai,bi,FI,MI⟩:=j0
 obtain⟨aci,bci,FCI,MCI⟩:=k0
 obtain⟨ac1,bc1,FC1,MC1⟩:=k1
 obtain⟨ac2,bc2,FC2,MC2⟩:=k2
 obtain⟨ac4,bc4,FC4,MC4⟩:=k4
 obtain⟨ac3,bc3,FC3,MC3,ec3⟩:=k3
 obtain⟨am1,bm1,FM1,MM1⟩:=m1
 obtain⟨am2,bm2,FM2,MM2⟩:=m2
 obtain⟨am3,bm3,FM3,MM3⟩:=m3
 obtain⟨am4,bm4,FM4,MM4⟩:=m4
 obtain⟨am5,bm5,FM5,MM5⟩:=m5
 obtain⟨am6,bm6,FM6,MM6⟩:=m6
 obtain⟨am7,bm7,FM7,MM7⟩:=m7
 obtain⟨am8,bm8,FM8,MM8⟩:=m8
 obtain⟨am9,bm9,FM9,MM9⟩:=m9
 obtain⟨am10,bm10,FM10,MM10⟩:=m10
 obtain⟨am11,bm11,FM11,MM11⟩:=m11
 obtain⟨am12,bm12,FM12,MM12⟩:=m12
 obtain⟨am13,bm13,FM13,MM13⟩:=m13
 obtain⟨am14,bm14,FM14,MM14⟩:=m14
 obtain⟨am15,bm15,FM15,MM15⟩:=m15
 obtain⟨am16,bm16,FM16,MM16⟩:=m16
 obtain⟨am17,bm17,FM17,MM17⟩:=m17
 obtain⟨am18,bm18,FM18,MM18⟩:=m18
 obtain⟨am19,bm19,FM19,MM19⟩:=m19
 obtain⟨am20,bm20,FM20,MM20⟩:=m20
 obtain⟨a1,b1,F1⟩:=f1
 obtain⟨a2,b2,F2⟩:=f2
 obtain⟨a3,b3,F3⟩:=f3
 obtain⟨a4,b4,F4⟩:=f4
 obtain⟨a5,b5,F5⟩:=f5
 obtain⟨a6,b6,F6⟩:=f6
 obtain⟨a7,b7,F7⟩:=f7
 obtain⟨a8,b8,F8⟩:=f8
 obtain⟨a9,b9,F9⟩:=f9
 obtain⟨a10,b10,F10⟩:=f10
 obtain⟨a11,b11,F11⟩:=f11
 obtain⟨a12,b12,F12⟩:=f12
 obtain⟨a13,b13,F13⟩:=f13
 obtain⟨a14,b14,F14⟩:=f14
 obtain⟨a15,b15,F15⟩:=f15
 obtain⟨a16,b16,F16⟩:=f16
 obtain⟨a17,b17,F17⟩:=f17
 obtain⟨a18,b18,F18⟩:=f18
 obtain⟨a19,b19,F19⟩:=f19
 obtain⟨a20,b20,F20⟩:=f20
 obtain⟨a21,b21,F21⟩:=f21
 obtain⟨a22,b22,F22⟩:=f22
 obtain⟨a23,b23,F23⟩:=f23
 obtain⟨a24,b24,F24⟩:=f24
 obtain⟨a25,b25,F25⟩:=f25
 obtain⟨a26,b26,F26⟩:=f26
 obtain⟨a27,b27,F27⟩:=f27
 obtain⟨a28,b28,F28⟩:=f28
 obtain⟨a29,b29,F29⟩:=f29
 obtain⟨a30,b30,F30⟩:=f30
 obtain⟨a31,b31,F31⟩:=f31
 obtain⟨a32,b32,F32⟩:=f32
 have e:=hfa.symm.trans (mg_of X G F32.ns)
 cases e
 have bs:∀(s:Shared) (v:Value),BindsTo s b32 ⟨[v],[]⟩ [("script",v)]:=by
  obtain⟨oc,od,kV,doc,pm,an,cdv,ct,osl,rfl,_⟩:=F32.fn.ex
  exact λs v=>.of_eq rfl
 refine⟨b32,bs,λbase KB NB BB=>?_⟩
 have D1:DFn l.prog w K mg base 1 "is_below" Cp:=K9 T.toTxt F1.fn (mg_of X G F1.ns)
 have D2:=Qs T D1 F2.fn (mg_of X G F2.ns)
 have D3:DFn l.prog w K mg base 1 "first_word" DR:=IE T F3.fn (mg_of X G F3.ns)
 have D4:DFn l.prog w K mg base 1 "number_in" Gn:=Jy T F4.fn (mg_of X G F4.ns)
 have D5:=MR D1 F5.fn (mg_of X G F5.ns)
 have D6:=Pp T D5 D2 D3 D4 F6.fn (mg_of X G F6.ns)
 have D7:=FFn.data (K6 T D2 D3 F7.fn (mg_of X G F7.ns))
 have D8:=IN T D6 D7 F8.fn (mg_of X G F8.ns)
 have D9:=Je T.toTxt D1 F9.fn (mg_of X G F9.ns)
 have D10:=Ln D9 F10.fn (mg_of X G F10.ns)
 have D11:=Jx D9 F11.fn (mg_of X G F11.ns)
 have D12:=MF D9 F12.fn (mg_of X G F12.ns)
 have D15:=JZ T.toTxt D5 F13.fn (mg_of X G F13.ns)
 have D16:=Hu (P:=l.prog) (w:=w) (base:=base) T.toTxt F14.fn (mg_of X G F14.ns)
 have D17:=HA T.toTxt D16 D15 D5 F15.fn (mg_of X G F15.ns)
 have I0:=SG T.toTxt CM D17 FI MI
 have D18:=NS T.toTxt D12 D8 D6 F16.fn (mg_of X G F16.ns)
 have D19:DFn l.prog w K mg base 1 "result_of" P8:=Jt F17.fn (mg_of X G F17.ns)
 have D20:DFn l.prog w K mg base 1 "less_of" Qy:=MO F18.fn (mg_of X G F18.ns)
 have D21:DFn l.prog w K mg base 1 "branch_goes" SY:=Ht F19.fn (mg_of X G F19.ns)
 have M1:MFn l.prog w K mg base 1 C "address" (Km C):=Nm CM FM1 MM1
 have M2:=JX CM D10 D11 M1 FM2 MM2
 have M3:=IG CM D21 FM3 MM3
 have M4:MFn l.prog w K mg base 1 C "peek" (Ow C):=TX CM FM4 MM4
 have O1:OFn l.prog w K mg base 1 C "poke" (Dd Qa):=SJ CM FM5 MM5
 have O2:OFn l.prog w K mg base 1 C "tell" (Dd Pa):=Ty CM FM6 MM6
 have O4:=Qd CM D19 D20 FM7 MM7
 have O5:=S7 CM M4 M1 FM8 MM8
 have O6:=UM T CM D7 M3 M1 O4 O1 O2 O5 FM9 MM9
 have O7:=S4 CM D18 M2 O6 FM10 MM10
 have R1:RFn l.prog w K mg base 1 "_law_numbers" numF KZ:=Ho T.toTxt F20.fn (mg_of X G F20.ns)
 have D22:DFn l.prog w K mg base 1 "_law_kind" KA:=Lm F21.fn (mg_of X G F21.ns)
 have D23:DFn l.prog w K mg base 1 "_law_wide" Lj:=K8 T.toTxt F22.fn (mg_of X G F22.ns)
 have D24:DFn l.prog w K mg base 1 "_law_row_words" T0:=FN F23.fn (mg_of X G F23.ns)
 have D25:DFn l.prog w K mg base 1 "_law_goal" KS:=Lp T.toTxt F24.fn (mg_of X G F24.ns)
 have D26:DFn l.prog w K mg base 1 "_law_pages" Mh:=Ka T.toTxt F25.fn (mg_of X G F25.ns)
 have D27:=KN T.toTxt D22 D23 D24 D25 F26.fn (mg_of X G F26.ns)
 have R2:=Hw T.toTxt R1 D27 D26 F27.fn (mg_of X G F27.ns)
 have N1:=Q9 (P:=l.prog) (w:=w) (base:=base) T.toTxt CM FM11 MM11
 have N2:=RH (P:=l.prog) (w:=w) (base:=base) T.toTxt CM FM12 MM12
 have N3:=QG (P:=l.prog) (w:=w) (base:=base) T.toTxt CM FM13 MM13
 have N4:=PV (P:=l.prog) (w:=w) (base:=base) T.toTxt CM FM14 MM14
 have N5:=RU (P:=l.prog) (w:=w) (base:=base) T.toTxt CM FM15 MM15
 have N6:=Tr (P:=l.prog) (w:=w) (base:=base) T.toTxt CM FM16 MM16
 have N7:=Td (P:=l.prog) (w:=w) (base:=base) T.toTxt CM FM17 MM17
 have N8:=Ry CM N3 N4 N5 N2 N6 N7 FM18 MM18
 have Y1:=UD (P:=l.prog) (w:=w) (base:=base) T.toTxt CM FM19 MM19
 have N9:=T6 T.toTxt CM I0 Y1 FM20 MM20
 have CI:CiFn l.prog w K mg base 1 Cc:=RN CC FCI MCI
 have NT:NtFn l.prog w K mg base 1 Cc:=R9 CC FC1 MC1
 have OF:MFn l.prog w K mg base 1 Cc "often" (N_ Cc):=R6 CC FC2 MC2
 have GU:TbM l.prog w K mg base 2 (tb54 Ta) Cc "guess" (LI Cc):=RB T.toTxt CC (codeHd_of_K KB hcd) BB FC3 ec3 MC3
 have FO:=Nh CC CM NT N5 O7 FC4 MC4
 have LD:=T4 CM N5 O7 F30.fn (mg_of X G F30.ns)
 have LG:DFn l.prog w K mg base 1 "_law_guess" OL:=JG F31.fn (mg_of X G F31.ns)
 have CE:DFn l.prog w K mg base 1 "_law_cell_at" GM:=Hr T.toTxt F28.fn (mg_of X G F28.ns)
 have WH:DFn l.prog w K mg base 1 "_law_whole" Oq:=U4 T.toTxt F29.fn (mg_of X G F29.ns)
 exact SN T.toTxt CC CM I0 CE WH R2 N9 CI FO LD N8 OF GU LG F32.fn
theorem law_sp{Ta a:Addr}{H:Hp}{ns:List Int}(hl:ns.length<=63)(hT:H Ta=some (.tbl #[]))(hS:SqL K H a (ns.map V.int)):spL6 K Ta [.ref a] H (λv _=>v=.bl true) λ_ _ _=>False:=⟨a,ns,rfl,hl,hT,hS,λ_=>rfl⟩
end My
open PySem PySem.W PyProof.Rows
local macro_rules| `(tactic|walk_at"f")=>`(tactic|(refine' L2.fnIn_mk ?a ?l ?c ?k;(case a=>k_is);(case l=>k_is);(case c=>k_is);(case k=>k_is)))
local macro_rules| `(tactic|walk_at"m")=>`(tactic|(refine' My.mthIn_mk ?a ?i ?l ?c ?k;(case a=>k_is);(case i=>k_is);(case l=>k_is);(case c=>k_is);(case k=>k_is)))
set_option maxRecDepth 100000 in
set_option maxHeartbeats 0 in
theorem PySem.Challenge.cw_likewise_k55_steps_followed_holds : PySem.Challenge.rw_likewise_k55_steps_followed.Holds := by
 w_on;o_law;k_head;(case hw=>w_witness2)
 k_fill
 refine L2.walk_T (l:=PySem.Challenge.rw_likewise_k55_steps_followed) (n:=63) (k:=20) (x:="script") (T:=44) (c:=48) (CX:=fun _=>L2.CX0) (sp:=fun w=>My.spL6 _ 44) rfl (by decide) rfl ⟨rfl,by decide,by decide⟩ (fun w h Y=>⟨PySem.W.km_in_of Y,PySem.W.km_tabs_of Y 44 List.mem_cons_self⟩) (fun w=>?kt7) (fun w=>?hq7) ?F (fun w H a ns hl hT hS ha=>My.law_sp hl hT hS) (fun _ _ _ _ _ z=>z)
 case kt7=>kernel_rfl
 case hq7=>kernel_rfl
 case F=>
  intro w mg fa h KX G hmg
  refine' My.all_mk KX G hmg ?hcd ?f1 ?f2 ?f3 ?f4 ?f5 ?f6 ?f7 ?f8 ?f9 ?f10 ?f11 ?f12 ?f13 ?f14 ?f15 ?f16 ?f17 ?f18 ?f19 ?f20 ?f21 ?f22 ?f23 ?f24 ?f25 ?f26 ?f27 ?f28 ?f29 ?f30 ?f31 ?f32 ?z1 ?z2 ?z3 ?z4 ?z5 ?z6 ?z7 ?z8 ?z9 ?z10 ?z11 ?z12 ?i1 ?p0 ?p1 ?p2 ?p3 ?p4 ?p5 ?p6 ?p7 ?p8 ?p9 ?p10 ?p11 ?p12 ?j0 ?m1 ?m2 ?m3 ?m4 ?m5 ?m6 ?m7 ?m8 ?m9 ?m10 ?m11 ?m12 ?m13 ?m14 ?m15 ?m16 ?m17 ?m18 ?m19 ?m20 ?t1 ?d1 ?d2 ?d3 ?t2 ?c0 ?c1 ?c2 ?c3 ?c4 ?c5 ?k0 ?k1 ?k2 ?k3 ?k4
  (case f1=>walk_at "f")
  (case f2=>walk_at "f")
  (case f3=>walk_at "f")
  (case f4=>walk_at "f")
  (case f5=>walk_at "f")
  (case f6=>walk_at "f")
  (case f7=>walk_at "f")
  (case f8=>walk_at "f")
  (case f9=>walk_at "f")
  (case f10=>walk_at "f")
  (case f11=>walk_at "f")
  (case f12=>walk_at "f")
  (case f13=>walk_at "f")
  (case f14=>walk_at "f")
  (case f15=>walk_at "f")
  (case f16=>walk_at "f")
  (case f17=>walk_at "f")
  (case f18=>walk_at "f")
  (case f19=>walk_at "f")
  (case f20=>walk_at "f")
  (case f21=>walk_at "f")
  (case f22=>walk_at "f")
  (case f23=>walk_at "f")
  (case f24=>walk_at "f")
  (case f25=>walk_at "f")
  (case f26=>walk_at "f")
  (case f27=>walk_at "f")
  (case f28=>walk_at "f")
  (case f29=>walk_at "f")
  (case f30=>walk_at "f")
  (case f31=>walk_at "f")
  (case f32=>walk_at "f")
  (case z1=>k_is)
  (case z2=>k_is)
  (case z3=>k_is)
  (case z4=>k_is)
  (case z5=>k_is)
  (case z6=>k_is)
  (case z7=>k_is)
  (case z8=>k_is)
  (case z9=>k_is)
  (case z10=>k_is)
  (case z11=>k_is)
  (case z12=>k_is)
  (case i1=>k_is)
  (case p0=>k_is)
  (case p1=>k_is)
  (case p2=>k_is)
  (case p3=>k_is)
  (case p4=>k_is)
  (case p5=>k_is)
  (case p6=>k_is)
  (case p7=>k_is)
  (case p8=>k_is)
  (case p9=>k_is)
  (case p10=>k_is)
  (case p11=>k_is)
  (case p12=>k_is)
  (case j0=>refine' My.iniIn_mk ?a ?i ?l ?c ?k ?mk1 ?mk2;(case a=>k_is);(case i=>k_is);(case l=>k_is);(case c=>k_is);(case k=>k_is);(case mk1=>k_is);(case mk2=>k_is))
  (case m1=>walk_at "m")
  (case m2=>walk_at "m")
  (case m3=>walk_at "m")
  (case m4=>walk_at "m")
  (case m5=>walk_at "m")
  (case m6=>walk_at "m")
  (case m7=>walk_at "m")
  (case m8=>walk_at "m")
  (case m9=>walk_at "m")
  (case m10=>walk_at "m")
  (case m11=>walk_at "m")
  (case m12=>walk_at "m")
  (case m13=>walk_at "m")
  (case m14=>walk_at "m")
  (case m15=>walk_at "m")
  (case m16=>walk_at "m")
  (case m17=>walk_at "m")
  (case m18=>walk_at "m")
  (case m19=>walk_at "m")
  (case m20=>walk_at "m")
  (case t1=>refine' L2.gtup_mk KX G ?a ?l ?s ?v;(case a=>k_is);(case l=>k_is);(case s=>rfl);(case v=>rfl))
  (case d1=>refine' L2.gdict_mk KX G ?a ?l ?k ?t ?n;(case a=>k_is);(case l=>k_is);(case k=>k_keys);(case t=>rfl);(case n=>decide +kernel))
  (case d2=>refine' L2.gdict_mk KX G ?a ?l ?k ?t ?n;(case a=>k_is);(case l=>k_is);(case k=>k_keys);(case t=>rfl);(case n=>decide +kernel))
  (case d3=>refine' L2.gdict_mk KX G ?a ?l ?k ?t ?n;(case a=>k_is);(case l=>k_is);(case k=>k_keys);(case t=>rfl);(case n=>decide +kernel))
  (case t2=>refine' L2.gtup_mk KX G ?a ?l ?s ?v;(case a=>k_is);(case l=>k_is);(case s=>rfl);(case v=>rfl))
  (case c0=>k_is)
  (case c1=>k_is)
  (case c2=>k_is)
  (case c3=>k_is)
  (case c4=>k_is)
  (case c5=>k_is)
  (case k0=>refine' My.iniIn_mk ?a ?i ?l ?c ?k ?mk1 ?mk2;(case a=>k_is);(case i=>k_is);(case l=>k_is);(case c=>k_is);(case k=>k_is);(case mk1=>k_is);(case mk2=>k_is))
  (case k1=>walk_at "m")
  (case k2=>walk_at "m")
  (case k4=>walk_at "m")
  (case k3=>refine' My.mthCIn_mk ?a ?i ?l ?c ?k;(case a=>k_is);(case i=>k_is);(case l=>k_is);(case c=>k_is);(case k=>k_is))
  (case hcd=>kernel_rfl)

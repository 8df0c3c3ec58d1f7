import PyProof.Rows.All
import Wide.All
import OpenK.AllK
import Wide.FinOn
import Lean
import PyProof.EqAt
import PyProof.EqKinds
import PyProof.TupleCall
import KE.KSortTup
import KE.KItemsList
import PyProof.Draws
import PyProof.EnumFor
import PyProof.EnumStmt
import PyProof.AttrMissHeap
import PyProof.WalksS
import PyProof.WalksMore
import KE.KDictOf
import KE.KDictSum
import PyProof.TupleKey
import PyProof.P3Eq
import PyProof.Rows.TupTab
import PyProof.DictRoadsH
import PyProof.MinMaxWalk
import PyProof.WalkInts
import PyProof.FactsAll.tuple_1
import PyProof.FactsAll.tuple_2
import PyProof.P3In
import PyProof.Walks
import PyProof.Seq
import PyProof.Rows.CallKwBuiltin
import KE.KRevSl
import PySem.Challenge.RW_likewise_k18_whole_built_programs
set_option maxRecDepth 100000
set_option maxHeartbeats 8000000
set_option Elab.async false
set_option linter.all false
namespace PySem.W.Fast
def tw18080872728620281344:=()
def tw8283319666822375008:=()
def tw14418322668993814049:=()
def tw12430747003316418722:=()
def tw17159653989866438020:=()
def tw7955033587072974404:=()
def tw1080452537342319237:=()
def tw5684188028385377670:=()
def tw14954127946473339527:=()
def tw3713193445517506728:=()
def tw6777609651230936969:=()
def tw15371686536297060265:=()
def tw7580663243582397743:=()
def tw18065174729412021967:=()
def tw7819249719705361136:=()
def tw10010974957338830355:=()
def tw11831982383549791732:=()
def tw7917171483836624533:=()
def tw17676440013055748758:=()
def tw14008900804358415096:=()
def tw5789859223829046585:=()
def tw8766267093924439993:=()
def tw5372760415649386010:=()
def tw17802465993903245980:=()
def tw5330339986662643997:=()
def tw16838421408594483103:=()
def tw5657158815880026243:=()
def tw7403904769788338471:=()
def tw14543243994985744804:=()
def tw14333075782188088027:=()
def tw13530957961254021104:=()
def tw14028352711336450907:=()
def tw13511104247169889169:=()
def tw11771216635416199561:=()
def tw17738444352875993521:=()
def tw6213984258607580519:=()
def tw1518935886737173820:=()
def tw6787681461397739219:=()
def tw16335668199631295803:=()
def tw9525477802237145722:=()
def tw13372322645925927224:=()
def tw5622434853935977111:=()
def tw12531277031021706257:=()
def tw3517218277123797005:=()
def tw16600480951033295911:=()
def tw11670480430223574702:=()
def tw8973338417210364114:=()
def tw1052183925949108432:=()
def tw7238991765856098461:=()
def tw56722137451796931:=()
def tw8601852485444570121:=()
def tw111632377589444712:=()
def tw6875201635264493039:=()
def tw14008597483275200503:=()
def tw4799120385290752609:=()
def tw2888395841774926874:=()
def tw677325853783691683:=()
def tw3439408126164473571:=()
def tw11642641050150551089:=()
def tw9026832318041627972:=()
def tw5946994363800160953:=()
def tw13789715949398961833:=()
def tw7760303939337247688:=()
def tw4940337656932192829:=()
def tw11955069020501186171:=()
def tw17565999834921997149:=()
def tw9861911450496102636:=()
def tw13095496843878899691:=()
def tw175395803074728077:=()
def tw13844784095918763125:=()
def tw10373033968235376878:=()
def tw18325431121118210912:=()
def tw5992102968228131830:=()
def tw15548046736551660970:=()
def tw7177079823663810795:=()
def tw749786970896243242:=()
def tw15391244490388526559:=()
def tw3719701261369489298:=()
def tw12860971553117225055:=()
def tw7128602640688121712:=()
def tw8688162267362599519:=()
def tw11027230824178942922:=()
def tw12885015802154751641:=()
def tw15868871253288431092:=()
def tw8221699454212181117:=()
def tw13165414515394998256:=()
def tw16195852546490140163:=()
def tw2239031755975142647:=()
def tw14557146718397884140:=()
def tw17671378077477115199:=()
def tw14668514608067298929:=()
def tw3469396381152895241:=()
end PySem.W.Fast
namespace L2
open PySem PySem.Spec PyProof.Rows
abbrev Key:=Sum Int Str
def FE:Key→Value→Bool
 | .inl k,v=>Value.isInt k v
 | .inr x,v=>Value.isStrOf x v
def keyH (w:World):Key→Int
 | .inl k=>hashInt k
 | .inr x=>hashStr w x
theorem AN:∀{k:Key} {v:Value},FE k v=true→(∃i t,k=Sum.inl i∧v=Value.int i t)∨(∃x t,k=Sum.inr x∧v=Value.str x t)
 | .inl i,v,h=>by
   obtain ⟨t,e⟩:=Value.isInt_shape (k:=i) (v:=v) h
   exact .inl ⟨i,t,rfl,e⟩
 | .inr x,v,h=>by
   obtain ⟨t,e⟩:=Value.isStrOf_shape (x:=x) (v:=v) h
   exact .inr ⟨x,t,rfl,e⟩
theorem JL (i:Int) (t:Tok):FE (.inl i) (.int i t)=true:=by simp [FE,Value.isInt]
theorem Kd (x:Str) (t:Tok):FE (.inr x) (.str x t)=true:=by simp [FE,Value.isStrOf]
theorem Pg (a b:Int):decide ((Sum.inl a:Key)=Sum.inl b)=(a==b):=by
 by_cases e:a=b
 ·subst e;simp
 ·have h:¬(Sum.inl a:Key)=Sum.inl b:=fun q=>e (Sum.inl.inj q)
  rw [decide_eq_false h]
  exact (beq_eq_false_iff_ne.mpr e).symm
theorem Pj (a b:Str):decide ((Sum.inr a:Key)=Sum.inr b)=decide (a=b):=by
 by_cases e:a=b
 ·subst e;simp
 ·have h:¬(Sum.inr a:Key)=Sum.inr b:=fun q=>e (Sum.inr.inj q)
  rw [decide_eq_false h,decide_eq_false e]
theorem Pm (a:Int) (b:Str):decide ((Sum.inl a:Key)=Sum.inr b)=false:=decide_eq_false (fun q=>nomatch q)
theorem Oe (a:Str) (b:Int):decide ((Sum.inr a:Key)=Sum.inl b)=false:=decide_eq_false (fun q=>nomatch q)
def Bk (prog:Program) (w:World):PySem.KeyKind prog w Key where
 is:=FE
 hash:=keyH w
 inj:=fun v a b ha hb=>by
  rcases AN ha with ⟨i,t,rfl,rfl⟩ | ⟨x,t,rfl,rfl⟩
  ·rcases AN hb with ⟨j,u,rfl,e⟩ | ⟨y,u,rfl,e⟩
   ·injection e with e1 _;rw [e1]
   ·exact nomatch e
  ·rcases AN hb with ⟨j,u,rfl,e⟩ | ⟨y,u,rfl,e⟩
   ·exact nomatch e
   ·injection e with e1 _;rw [e1]
 byValue:=fun k v h=>by
  rcases AN h with ⟨i,t,rfl,rfl⟩ | ⟨x,t,rfl,rfl⟩ <;> rfl
 pyHash:=fun hv h=>by
  rcases AN hv with ⟨i,t,rfl,rfl⟩ | ⟨x,t,rfl,rfl⟩
  ·exact wpAny_pyHash_int h
  ·exact wpAny_pyHash_str h
 eqBool:=fun hu hv h=>by
  rcases AN hu with ⟨i,t,rfl,rfl⟩ | ⟨x,t,rfl,rfl⟩
  ·rcases AN hv with ⟨j,u,rfl,rfl⟩ | ⟨y,u,rfl,rfl⟩
   ·rw [Pg] at h;exact wpAny_eqBool_int h
   ·rw [Pm] at h;exact SeqAt.EqAt.int_str i t y u _ _ _ _ h
  ·rcases AN hv with ⟨j,u,rfl,rfl⟩ | ⟨y,u,rfl,rfl⟩
   ·rw [Oe] at h;exact SeqAt.EqAt.str_int x t j u _ _ _ _ h
   ·rw [Pj] at h;exact wpAny_eqBool_str h
 «strs»:=fun k x t v h=>by
  rcases AN h with ⟨i,u,rfl,e⟩ | ⟨y,u,rfl,e⟩
  ·exact nomatch e
  ·injection e with e1 _
   subst e1
   cases v <;> rfl
theorem Hy (prog:Program) (w:World) (i:Int) (t:Tok):(Bk prog w).is (.inl i) (.int i t)=true:=JL i t
theorem HK (prog:Program) (w:World) (x:Str) (t:Tok):(Bk prog w).is (.inr x) (.str x t)=true:=Kd x t
inductive V where
 | non | bl (b:Bool) | int (i:Int) | str (x:Str) | byt (b:Array UInt8) | flt (b:UInt64) | ref (a:Addr) | ty (n:String)
 deriving DecidableEq
def RelV:V→Value→Prop
 | .non,u=>u=Value.none
 | .bl b,u=>u=Value.bool b
 | .int i,u=>∃t,u=Value.int i t
 | .str x,u=>∃t,u=Value.str x t
 | .byt b,u=>∃t,u=Value.bytes b t
 | .flt b,u=>∃t,u=Value.float b t
 | .ref a,u=>u=Value.ref a
 | .ty n,u=>u=Value.type n
abbrev Vals:List V→List Value→Prop:=Paired RelV
theorem Vals.length {xs:List V} {us:List Value} (r:Vals xs us):xs.length=us.length:=Paired.length r
theorem Vals.get:∀{xs:List V} {us:List Value} {i:Nat} {x:V},Vals xs us→xs[i]?=some x→∃u,us[i]?=some u∧RelV x u
 | _,_,_,_,.nil,e=>by simp at e
 | _,_,0,_,.cons r _,e=>by simp at e;subst e;exact ⟨_,rfl,r⟩
 | _,_,i + 1,x,.cons _ t,e=>by
   obtain ⟨u,h1,h2⟩:=Vals.get (i:=i) (x:=x) t (by simpa using e)
   exact ⟨u,by simpa using h1,h2⟩
theorem Vals.set {x:V} {u:Value} (r:RelV x u):∀{xs:List V} {us:List Value} (i:Nat),Vals xs us→Vals (xs.set i x) (us.set i u)
 | _,_,_,.nil=>.nil
 | _,_,0,.cons _ t=>.cons r t
 | _,_,i + 1,.cons q t=>.cons q (Vals.set r i t)
theorem Vals.append:∀{xs ys:List V} {us ws:List Value},Vals xs us→Vals ys ws→Vals (xs++ys) (us++ws)
 | _,_,_,_,.nil,s=>s
 | _,_,_,_,.cons r t,s=>.cons r (Vals.append t s)
theorem Vals.take:∀{xs:List V} {us:List Value} (n:Nat),Vals xs us→Vals (xs.take n) (us.take n)
 | _,_,0,_=>.nil
 | _,_,_ + 1,.nil=>.nil
 | _,_,n + 1,.cons r t=>.cons r (Vals.take n t)
theorem Vals.drop:∀{xs:List V} {us:List Value} (n:Nat),Vals xs us→Vals (xs.drop n) (us.drop n)
 | _,_,0,r=>r
 | _,_,_ + 1,.nil=>.nil
 | _,_,n + 1,.cons _ t=>Vals.drop n t
def RelO:Option V→Option Value→Prop
 | some v,some u=>RelV v u
 | none,none=>True
 | _,_=>False
def KV {κ:Type}:List (κ×V)→List (κ×Value)→Prop:=Paired fun (p:κ×V) (q:κ×Value)=>p.1=q.1∧RelV p.2 q.2
def kV:Key→V
 | .inl i=>.int i
 | .inr x=>.str x
inductive HO where
 | lst (xs:List V)
 | tup (xs:List V)
 | dK (kvs:List (Key×V)) | dT (kvs:List (List Key×V))
 | set (S:Int→Bool) (n:Nat)
 | ins (C dx:Addr) (fs:List (Str×V))
 | own (x:Addr)
 | xd (fs:List (Str×V))
 | met (f x:Addr)
 | rng (lo hi:Int)
 | frz (o:Obj) (u:HO)
 | tbl (ps:Array Value)
 | ext (φ:Heap→Prop)
abbrev Hp:=Addr→Option HO
def upd (H:Hp) (a:Addr) (o:HO):Hp:=fun b=>if b=a then some o else H b
theorem Am {H:Hp} {a:Addr} {o:HO}:upd H a o a=some o:=by unfold upd;rw [if_pos rfl]
theorem Aj {H:Hp} {a b:Addr} {o:HO} (h:b≠a):upd H a o b=H b:=by unfold upd;rw [if_neg h]
theorem Mj {H:Hp} {a:Addr} {o u:HO}:upd (upd H a o) a u=upd H a u:=by
 funext b;unfold upd;split <;> rfl
theorem A6 {H:Hp} {a b:Addr} {o:HO} (h:H a=some o) (h':H b=none):a≠b:=by
 intro e;subst e;rw [h] at h';cases h'
section
variable (P:Program) (w:World)
def ObjOk (H:Hp) (h:Heap) (a:Addr):HO→Prop
 | .lst xs=>xs.length≤sizeLine∧∃(its:List Value) (n:Nat),Vals xs its∧h.get? a=some {cls:=.type "list",data:=.seq its.toArray n}
 | .tup xs=>xs.length≤sizeLine∧(∃its:List Value,Vals xs its∧IsTup h a its.toArray)∧∃o,h.get? a=some o∧o.dict=none
 | .dK kvs=>kvs.length≤sizeLine∧(a==sysModules)=false∧∃vs,KV kvs vs∧h.DictOf (Bk P w) a vs
 | .dT kvs=>kvs.length≤sizeLine∧(a==sysModules)=false∧∃xs:List (List Key×Addr×Value),
   Paired (fun (p:List Key×V) (q:List Key×Addr×Value)=>p.1=q.1∧H q.2.1=some (.tup (p.1.map kV))∧RelV p.2 q.2.2) kvs xs∧
   ∃o es ep,h.get? a=some o∧o.ExactDict∧o.data=.dict es ep∧es.toList=xs.map (entryOfKey (tupleKind (Bk P w)))∧(xs.map (·.1)).Nodup
 | .set S n=>h.SetOf (intKind P w) a S n
 | .ins C dx fs=>H dx=some (.own a)∧fs.length≤1000∧dx≠a∧h.get? a=some (PySem.W.instObj C dx)∧
   ∃mA,h.Ns1 dx mA∧(∀f,RelO (fs.lookup f) (mA f))∧PySem.Within mA (fs.map (·.1))
 | .own _=>∃o,h.get? a=some o
 | .xd fs=>∃mA,h.Ns1 a mA∧∀f,RelO (fs.lookup f) (mA f)
 | .rng lo hi=>∃t u v,h.get? a=some {cls:=.type "range",data:=.fields #[.int lo t,.int hi u,.int 1 v]}
 | .frz o u=>h.get? a=some o∧ObjOk H h a u
 | .tbl ps=>h.get? a=some {cls:=.none,data:=.fields ps}
 | .met f x=>h.get? a=some (PySem.W.methodObj (.ref f) (.ref x))
 | .ext φ=>φ h∧(∃o,h.get? a=some o)∧∀h1 h2:Heap,φ h1→(∀o,h1.get? a=some o→h2.get? a=some o)→φ h2
def HOk (H:Hp) (h:Heap):Prop:=∀a o,H a=some o→ObjOk P w H h a o
end
section
variable {P:Program} {w:World} {H H':Hp} {h h':Heap} {a:Addr} {o:HO}
theorem ObjOk.lt (x:ObjOk P w H h a o):a < h.objs.size:=by
 cases o with
 | lst xs=>obtain ⟨_,_,_,_,e⟩:=x;exact Heap.lt_size e
 | tup xs=>obtain ⟨_,⟨_,_,p⟩,_⟩:=x;exact p.lt
 | dK kvs=>obtain ⟨_,_,_,_,o,_,_,e,_⟩:=x;exact Heap.lt_size e
 | dT kvs=>obtain ⟨_,_,_,_,o,_,_,e,_⟩:=x;exact Heap.lt_size e
 | set S n=>obtain ⟨o,_,_,_,e,_⟩:=x;exact Heap.lt_size e
 | ins C dx fs=>obtain ⟨_,_,_,e,_⟩:=x;exact Heap.lt_size e
 | own y=>obtain ⟨_,e⟩:=x;exact Heap.lt_size e
 | xd fs=>obtain ⟨_,⟨_,_,_,e,_⟩,_⟩:=x;exact Heap.lt_size e
 | rng lo hi=>obtain ⟨_,_,_,e⟩:=x;exact Heap.lt_size e
 | frz ob u=>obtain ⟨e,_⟩:=x;exact Heap.lt_size e
 | tbl ps=>exact Heap.lt_size (show h.get? a=some _ from x)
 | met f y=>exact Heap.lt_size (show h.get? a=some _ from x)
 | ext φ=>obtain ⟨_,⟨_,e⟩,_⟩:=x;exact Heap.lt_size e
theorem Paired.mapP {α β:Type} {F G:α→β→Prop}:∀{l₁:List α} {l₂:List β},Paired F l₁ l₂→(∀a b,F a b→G a b)→Paired G l₁ l₂
 | _,_,.nil,_=>.nil
 | _,_,.cons r t,f=>.cons (f _ _ r) (Paired.mapP t f)
theorem ObjOk.stay (x:ObjOk P w H h a o) (k:∀b u,(b=a∨H b=some (.own a))→h.get? b=some u→h'.get? b=some u)
  (ho:∀b,H b=some (.own a)→H' b=some (.own a)) (ht:∀b xs,H b=some (.tup xs)→H' b=some (.tup xs)):ObjOk P w H' h' a o:=by
 induction o with
 | lst xs=>obtain ⟨z,its,n,r,e⟩:=x;exact ⟨z,its,n,r,k _ _ (.inl rfl) e⟩
 | tup xs=>obtain ⟨z,⟨its,r,ob,e,c⟩,od,e2,c2⟩:=x;exact ⟨z,⟨its,r,ob,k _ _ (.inl rfl) e,c⟩,od,k _ _ (.inl rfl) e2,c2⟩
 | dK kvs=>obtain ⟨z,y,vs,r,ob,es,ep,e,c⟩:=x;exact ⟨z,y,vs,r,ob,es,ep,k _ _ (.inl rfl) e,c⟩
 | dT kvs=>
   obtain ⟨z,y,xs,r,ob,es,ep,e,c⟩:=x
   exact ⟨z,y,xs,Paired.mapP r fun p q z=>⟨z.1,ht _ _ z.2.1,z.2.2⟩,ob,es,ep,k _ _ (.inl rfl) e,c⟩
 | set S n=>obtain ⟨ob,es,ep,t,e,c⟩:=x;exact ⟨ob,es,ep,t,k _ _ (.inl rfl) e,c⟩
 | ins C dx fs=>
   obtain ⟨d,z,ne,e,mA,⟨od,es,ep,e2,c⟩,r⟩:=x
   exact ⟨ho _ d,z,ne,k _ _ (.inl rfl) e,mA,⟨od,es,ep,k _ _ (.inr d) e2,c⟩,r⟩
 | own y=>obtain ⟨ob,e⟩:=x;exact ⟨ob,k _ _ (.inl rfl) e⟩
 | xd fs=>obtain ⟨mA,⟨od,es,ep,e,c⟩,r⟩:=x;exact ⟨mA,⟨od,es,ep,k _ _ (.inl rfl) e,c⟩,r⟩
 | rng lo hi=>obtain ⟨t,u,v,e⟩:=x;exact ⟨t,u,v,k _ _ (.inl rfl) e⟩
 | frz ob u ih=>obtain ⟨e,q⟩:=x;exact ⟨k _ _ (.inl rfl) e,ih q⟩
 | tbl ps=>
   have e:h.get? a=some {cls:=.none,data:=.fields ps}:=x
   show h'.get? a=some {cls:=.none,data:=.fields ps}
   exact k a _ (.inl rfl) e
 | met f y=>
   have e:h.get? a=some (PySem.W.methodObj (.ref f) (.ref y)):=x
   show h'.get? a=some (PySem.W.methodObj (.ref f) (.ref y))
   exact k a _ (.inl rfl) e
 | ext φ=>obtain ⟨p,⟨o,e⟩,st⟩:=x;exact ⟨st _ _ p fun o q=>k _ _ (.inl rfl) q,⟨o,k _ _ (.inl rfl) e⟩,st⟩
theorem HOk.lt (x:HOk P w H h) (e:H a=some o):a < h.objs.size:=(x a o e).lt
theorem HOk.fresh (x:HOk P w H h) (e:h.objs.size≤a):H a=none:=by
 cases q:H a with
 | none=>rfl
 | some u=>exact absurd (Nat.lt_of_lt_of_le (x.lt q) e) (Nat.lt_irrefl _)
theorem HOk.kept (x:HOk P w H h) (k:∀b u,h.get? b=some u→h'.get? b=some u):HOk P w H h':=fun a o e=>
 (x a o e).stay (fun b u _ q=>k b u q) (fun _ q=>q) fun _ _ q=>q
theorem HOk.laid (x:HOk P w H h) (k:∀b u,h.get? b=some u→h'.get? b=some u) (hp:h.objs.size≤a) (new:ObjOk P w (upd H a o) h' a o):HOk P w (upd H a o) h':=fun b u e=>by
 have hn:=x.fresh hp
 by_cases hb:b=a
 ·subst hb;rw [Am] at e;cases e;exact new
 ·rw [Aj hb] at e
  exact (x b u e).stay (fun c v _ q=>k c v q) (fun c q=>by rw [Aj (A6 q hn)];exact q) fun c xs q=>by rw [Aj (A6 q hn)];exact q
end
def Rd (H:Hp) (a:Addr) (u:HO):Prop:=H a=some u∨∃o,H a=some (.frz o u)
theorem Rd.ok {P:Program} {w:World} {H:Hp} {h:Heap} {a:Addr} {u:HO} (r:Rd H a u) (x:HOk P w H h):ObjOk P w H h a u:=by
 rcases r with r | ⟨o,r⟩
 ·exact x a u r
 ·obtain ⟨_,q⟩:=x a _ r
  exact q
def Mut:Option HO→Prop
 | some (.lst _)=>True
 | some (.dK _)=>True
 | some (.dT _)=>True
 | some (.set _ _)=>True
 | some (.ins _ _ _)=>True
 | some (.ext _)=>True
 | _=>False
section
variable {P:Program} {w:World} {H:Hp} {h h':Heap} {x e:Addr} {o':HO}
theorem HOk.write (ok:HOk P w H h) (mu:Mut (H x)) (he:e=x∨H e=some (.own x)) (k:∀b u,b≠e→h.get? b=some u→h'.get? b=some u) (heo:∃u,h'.get? e=some u)
  (new:ObjOk P w (upd H x o') h' x o'):HOk P w (upd H x o') h':=fun b u q=>by
 have nown:∀c y,H c=some (.own y)→c≠x:=fun c y r z=>by subst z;rw [r] at mu;exact mu
 have ntup:∀c xs,H c=some (.tup xs)→c≠x:=fun c xs r z=>by subst z;rw [r] at mu;exact mu
 by_cases hb:b=x
 ·subst hb;rw [Am] at q;cases q;exact new
 ·rw [Aj hb] at q
  by_cases hbe:b=e
  ·have q':H b=some (.own x):=by
    rcases he with z | z
    ·exact absurd (hbe.trans z) hb
    ·rw [hbe];exact z
   rw [q] at q';cases q'
   obtain ⟨v,hv⟩:=heo
   exact ⟨v,by rw [hbe];exact hv⟩
  ·refine (ok b u q).stay (fun c v hc r=>k c v ?_ r) (fun c r=>by rw [Aj (nown c b r)];exact r) fun c xs r=>by rw [Aj (ntup c xs r)];exact r
   rcases hc with rfl | hc
   ·exact hbe
   ·rintro rfl
    rcases he with z | z
    ·exact nown c b hc z
    ·rw [hc] at z;cases z;exact hb rfl
end
structure Un (fs ex:List Addr) (H H':Hp) (h h':Heap):Prop where
 keep:∀b o,h.get? b=some o→H b=none→b∉fs→b∉ex→h'.get? b=some o
 slot:∀b o,h.get? b=some o→H b=none→b∈fs→b∉ex→∃sl,h'.get? b=some {o with slots:=sl}
 free:∀b o,h.get? b=some o→H b=none→b∉ex→H' b=none
 there:∀b o,h.get? b=some o→b∉ex→∃o',h'.get? b=some o'
 tups:∀b xs,H b=some (.tup xs)→H' b=some (.tup xs)
 frzs:∀b o u,H b=some (.frz o u)→H' b=some (.frz o u)
 tbls:∀b ps,H b=some (.tbl ps)→∃more,H' b=some (.tbl (ps++more))
section
variable {fs fs' ex ex':List Addr} {H H1 H2:Hp} {h h1 h2 h':Heap} {a x e:Addr} {o:HO}
theorem Un.any (u:Un fs ex H H1 h h1) {b:Addr} {ob:Obj} (q:h.get? b=some ob) (n:H b=none) (hx:b∉ex):∃sl,h1.get? b=some {ob with slots:=sl}:=by
 by_cases hb:b∈fs
 ·exact u.slot b ob q n hb hx
 ·exact ⟨ob.slots,u.keep b ob q n hb hx⟩
theorem Un.kept (k:∀b u,h.get? b=some u→h'.get? b=some u):Un fs ex H H h h':=
 ⟨fun b ob q _ _ _=>k b ob q,fun b ob q _ _ _=>⟨ob.slots,k b ob q⟩,fun _ _ _ n _=>n,fun b ob q _=>⟨ob,k b ob q⟩,fun _ _ q=>q,fun _ _ _ q=>q,fun _ ps q=>⟨#[],by rw [q];simp⟩⟩
theorem Un.refl:Un fs ex H H h h:=Un.kept fun _ _ q=>q
theorem Un.laid (k:∀b u,h.get? b=some u→h'.get? b=some u) (hp:h.objs.size≤a) (hn:H a=none):Un fs ex H (upd H a o) h h' where
 keep:=fun b u q _ _ _=>k b u q
 slot:=fun b u q _ _ _=>⟨u.slots,k b u q⟩
 free:=fun b u q n _=>by rw [Aj (Nat.ne_of_lt (Nat.lt_of_lt_of_le (Heap.lt_size q) hp))];exact n
 there:=fun b u q _=>⟨u,k b u q⟩
 tups:=fun b xs q=>by rw [Aj (A6 q hn)];exact q
 frzs:=fun b u xs q=>by rw [Aj (A6 q hn)];exact q
 tbls:=fun b ps q=>⟨#[],by rw [Aj (A6 q hn),q];simp⟩
theorem Un.write (mu:Mut (H x)) (he:e=x∨H e=some (.own x)) (k:∀b u,b≠e→h.get? b=some u→h'.get? b=some u) (heo:∃u,h'.get? e=some u):Un fs ex H (upd H x o) h h':=by
 have hx:∀b,H b=none→b≠x:=fun b n z=>by subst z;rw [n] at mu;exact mu
 have hb:∀b,H b=none→b≠e:=fun b n z=>by
  subst z
  rcases he with r | r
  ·exact hx b n r
  ·rw [n] at r;cases r
 have hm:∀b u,H b=some u→¬Mut (some u)→b≠x:=fun b u q nm z=>by subst z;rw [q] at mu;exact nm mu
 refine ⟨fun b u q n _ _=>k b u (hb b n) q,fun b u q n _ _=>⟨u.slots,k b u (hb b n) q⟩,fun b u q n _=>by rw [Aj (hx b n)];exact n,fun b u q _=>?_,
  fun b xs q=>by rw [Aj (hm b _ q fun z=>z)];exact q,fun b u xs q=>by rw [Aj (hm b _ q fun z=>z)];exact q,fun b ps q=>⟨#[],by rw [Aj (hm b _ q fun z=>z),q];simp⟩⟩
 by_cases hbe:b=e
 ·subst hbe;exact heo
 ·exact ⟨u,k b u hbe q⟩
end
def trk (h:Heap) (H:Hp):List Addr:=(List.range h.objs.size).filter fun a=>(H a).isSome
def hidT (h:Heap) (H:Hp):Heap:=PySem.W.hideAll h (trk h H)
theorem JI (h:Heap) (H:Hp):(hidT h H).objs.size=h.objs.size:=PySem.W.hideAll_size _ _
theorem K0 {h:Heap} {H:Hp} {b:Addr} {o:Obj} (e:h.get? b=some o) (n:H b=none):(hidT h H).get? b=some o:=
 PySem.W.hideAll_get _ e fun hm=>by
  have q:(H b).isSome=true:=(List.mem_filter.mp hm).2
  rw [n] at q;simp at q
theorem MU {h:Heap} {H:Hp} {b:Addr} {o:Obj} (e:(hidT h H).get? b=some o):h.get? b=some o∧H b=none:=by
 have e':h.get? b=some o:=PySem.W.of_hideAll (trk h H) e
 refine ⟨e',?_⟩
 cases q:H b with
 | none=>rfl
 | some x=>
   have hm:b∈trk h H:=List.mem_filter.mpr ⟨List.mem_range.mpr (Heap.lt_size e'),by simp [q]⟩
   have z:(hidT h H).get? b=none:=PySem.W.hideAll_none (trk h H) hm
   rw [z] at e;cases e
def Nb (g h:Heap) (L:Addr):List (Addr×Obj):=(List.range h.objs.size).filterMap fun a=>if a=L∨(g.get? a).isSome=true then none else (h.get? a).map fun o=>(a,o)
def rest (g h:Heap) (L d:Addr):List (Addr×Obj):=(Nb g h L).filter fun p=>decide (p.1≠d)
structure Mod (K:PySem.W.Frag) (mg:Str→Option Value) (base:Heap):Prop where
 kin:K.In base
 glob:base.Ns mainGlobals mg
 blt:∃mb,base.Ns builtinsNs mb∧∀x:Str,x≠"__name__"→mb x=bootBuiltins x
 nolimit:base.NoLimit
structure Cx where
 prog:Program
 w:World
 K:PySem.W.Frag
 mg:Str→Option Value
 base:Heap
 A:Around
 N:List Str
 s₀:Shared
 H₀:Hp
 env:Env
 outer:List Env
 stack:List Env
 ex:List Addr
 fn:Str→Bool
 calm:Bool
 pn:List (Addr×Obj)
 xe:Value→Shared→Prop
def frs (l:List Env):List Addr:=l.filterMap (·.frame)
abbrev Cx.fs (X:Cx):List Addr:=frs X.outer
def Vis (sc:Scope) (x:Str):Prop:=sc.names.lookup x=some .local∨sc.names.lookup x=some .cell∨sc.names.lookup x=some .free
def Loc (sc:Scope) (x:Str):Prop:=sc.names.lookup x=some .local∨sc.names.lookup x=some .cell
def Look (env:Env) (h:Heap) (m:Str→Option Value) (x:Str) (u:Value):Prop:=
 (env.kindOf x=some .local∧m x=some u)∨((env.kindOf x=some .cell∨env.kindOf x=some .free)∧∃c,env.cells.lookup x=some c∧h.IsCell c (some u))
structure Cx.Ok (X:Cx):Prop where
 mod:Mod X.K X.mg X.base
 kind:X.env.scope.kind=.function
 glob:X.env.globals=mainGlobals
 blt:X.env.builtins=builtinsNs
 above:X.s₀.heap.objs.size≤X.env.locals
 inj:∀x y c,X.env.cells.lookup x=some c→X.env.cells.lookup y=some c→x=y
 has:∀x,(X.env.kindOf x=some .cell∨X.env.kindOf x=some .free)→∃c,X.env.cells.lookup x=some c
 cab:∀x c,X.fn x=true→X.env.cells.lookup x=some c→X.s₀.heap.objs.size≤c
 hd:X.calm=true→X.A.handled=none
 frames:X.A.frames=some X.stack
 stk:X.stack=X.outer∨(X.stack=X.env::X.outer∧X.env.frame=some X.env.locals)
 exf:∀b∈X.ex,b≠X.env.locals∧∀x c,X.env.cells.lookup x=some c→c≠b
 bs:∀b o,X.base.get? b=some o→X.s₀.heap.get? b=some o∧X.H₀ b=none
 bsz:X.base.objs.size≤X.s₀.heap.objs.size
 noex:∀b o,X.base.get? b=some o→b∉X.ex
 exfs:∀b∈X.ex,b∉X.fs
 funs:X.s₀.heap.FunFrames X.base X.outer
 frf:∀b∈X.fs,X.H₀ b=none
structure Inv (X:Cx) (pins:List (Addr×Obj)) (σ:List (Option V)) (H:Hp) (s:Shared):Prop where
 ok:X.Ok
 os:s.os=X.s₀.os
 bare:AllBare s.gens
 base:Un X.fs X.ex X.H₀ H X.s₀.heap s.heap
 loc:∃m,s.heap.Ns X.env.locals m∧∀(i:Nat) (x:Str) (v:V),X.N[i]?=some x→σ[i]?=some (some v)→Vis X.env.scope x→∃u,RelV v u∧Look X.env s.heap m x u
 cell:∀x c,X.env.cells.lookup x=some c→∃v,s.heap.IsCell c v
 free:H X.env.locals=none
 freeC:∀x c,X.env.cells.lookup x=some c→H c=none
 pin:∀p∈X.pn++pins,s.heap.get? p.1=some p.2∧H p.1=none∧p.1≠X.env.locals∧p.1∉X.fs∧∀v,p.2.data≠.cell v
 hok:HOk X.prog X.w H s.heap
 len:σ.length=X.N.length
section
variable {X:Cx} {pins:List (Addr×Obj)} {σ:List (Option V)} {H H':Hp} {s:Shared} {h':Heap}
theorem Cx.Ok.nofr (ok:X.Ok) {b:Addr} {o:Obj} (e:X.base.get? b=some o):b∉X.fs:=fun hb=>by
 have:=(ok.funs.mem hb).1
 rw [e] at this;cases this
theorem Inv.bs (I:Inv X pins σ H s):∀b o,X.base.get? b=some o→s.heap.get? b=some o∧H b=none:=fun b o e=>
 ⟨I.base.keep b o (I.ok.bs b o e).1 (I.ok.bs b o e).2 (I.ok.nofr e) (I.ok.noex b o e),I.base.free b o (I.ok.bs b o e).1 (I.ok.bs b o e).2 (I.ok.noex b o e)⟩
theorem Inv.bk (I:Inv X pins σ H s):∀b o,X.base.get? b=some o→s.heap.get? b=some o:=fun b o e=>(I.bs b o e).1
theorem Inv.mod (I:Inv X pins σ H s):Mod X.K X.mg X.base:=I.ok.mod
theorem Inv.kIn (I:Inv X pins σ H s):X.K.In s.heap:=I.ok.mod.kin.keeps I.bk
theorem Inv.lt (I:Inv X pins σ H s):X.env.locals < s.heap.objs.size:=let ⟨_,hn,_⟩:=I.loc;hn.lt
theorem Inv.sz (I:Inv X pins σ H s):X.s₀.heap.objs.size≤s.heap.objs.size:=Nat.le_trans I.ok.above (Nat.le_of_lt I.lt)
theorem Inv.nofs (I:Inv X pins σ H s) {a:Addr} (h:s.heap.objs.size≤a):a∉X.fs:=fun hb=>by
 obtain ⟨_,o,ho,_⟩:=I.ok.funs.mem hb
 exact absurd (Nat.lt_of_lt_of_le (Heap.lt_size ho) (Nat.le_trans I.sz h)) (Nat.lt_irrefl _)
theorem Inv.cne (I:Inv X pins σ H s):∀x c,X.env.cells.lookup x=some c→c≠X.env.locals:=fun x c e z=>by
 obtain ⟨v,o,ho,hd⟩:=I.cell x c e
 obtain ⟨m,⟨o',es,ep,ho',hd',_⟩,_⟩:=I.loc
 rw [z,ho'] at ho;cases ho;rw [hd'] at hd;cases hd
theorem Inv.funs (I:Inv X pins σ H s):s.heap.FunFrames X.base X.outer:=by
 have all:∀(l:List Env),(∀b∈frs l,b∈X.fs)→X.s₀.heap.FunFrames X.base l→s.heap.FunFrames X.base l:=by
  intro l
  induction l with
  | nil=>intro _ _;trivial
  | cons env r ih=>
    intro hs hl
    obtain ⟨hk,⟨L,o,hf,hn,ho,hd⟩,hr⟩:=hl
    have hL:L∈X.fs:=hs L (by unfold frs;rw [List.filterMap_cons,hf];exact List.mem_cons_self)
    obtain ⟨sl,e⟩:=I.base.slot L o ho (I.ok.frf L hL) hL fun z=>I.ok.exfs L z hL
    exact ⟨hk,⟨L,_,hf,hn,e,hd⟩,ih (fun b hb=>hs b (by unfold frs;rw [List.filterMap_cons,hf];exact List.mem_cons_of_mem _ hb)) hr⟩
 exact all X.outer (fun _ hb=>hb) I.ok.funs
theorem Inv.stack (I:Inv X pins σ H s):s.heap.FunFrames X.base X.stack:=by
 rcases I.ok.stk with e | ⟨e,hf⟩
 ·rw [e];exact I.funs
 ·rw [e]
  obtain ⟨m,hn,_⟩:=I.loc
  refine .cons (by rw [I.ok.kind];decide) hf hn ?_ I.funs
  exact Heap.get?_none_of_le (Nat.le_trans I.ok.bsz I.ok.above)
theorem Inv.stkSub (I:Inv X pins σ H s):∀b∈frs X.stack,b∈X.env.locals::X.fs:=fun b hb=>by
 rcases I.ok.stk with e | ⟨e,hf⟩
 ·rw [e] at hb;exact List.mem_cons_of_mem _ hb
 ·rw [e] at hb
  unfold frs at hb
  rw [List.filterMap_cons,hf] at hb
  exact hb
theorem Inv.stkFree (I:Inv X pins σ H s):∀b∈frs X.stack,H b=none:=fun b hb=>by
 rcases List.mem_cons.mp (I.stkSub b hb) with e | hb
 ·rw [e];exact I.free
 ·obtain ⟨_,o,ho,_⟩:=I.ok.funs.mem hb
  exact I.base.free b o ho (I.ok.frf b hb) fun z=>I.ok.exfs b z hb
theorem Inv.step {g':Array GenState} {t':Nat} {d':Drawn} {ch:List Addr} (I:Inv X pins σ H s)
  (hch:∀b∈ch,(b∈X.ex∨X.s₀.heap.objs.size≤b)∧b≠X.env.locals∧(∀x c,X.env.cells.lookup x=some c→c≠b)∧∀p∈X.pn++pins,p.1≠b)
  (keep:∀b o,b≠X.env.locals→b∉X.fs→b∉ch→s.heap.get? b=some o→H b=none→h'.get? b=some o)
  (slot:∀b o,b≠X.env.locals→b∈X.fs→b∉ch→s.heap.get? b=some o→H b=none→∃sl,h'.get? b=some {o with slots:=sl}) (free:∀b o,b∉ch→s.heap.get? b=some o→H b=none→H' b=none)
  (there:∀b o,b∉ch→s.heap.get? b=some o→∃o',h'.get? b=some o')
  (tups:∀b xs,H b=some (.tup xs)→H' b=some (.tup xs)) (frzs:∀b o u,H b=some (.frz o u)→H' b=some (.frz o u)) (tbls:∀b ps,H b=some (.tbl ps)→∃more,H' b=some (.tbl (ps++more)))
  (ns:∀m,s.heap.Ns X.env.locals m→h'.Ns X.env.locals m) (hok:HOk X.prog X.w H' h') (hg:AllBare g'):
  Inv X pins σ H' {s with heap:=h',gens:=g',drawn:=d',toks:=t'}:=by
 have neL:∀b o,X.s₀.heap.get? b=some o→b≠X.env.locals:=fun b o e=>Nat.ne_of_lt (Nat.lt_of_lt_of_le (Heap.lt_size e) I.ok.above)
 have neC:∀b o,X.s₀.heap.get? b=some o→b∉X.ex→b∉ch:=fun b o e hx hb=>by
  rcases (hch b hb).1 with z | z
  ·exact hx z
  ·exact absurd (Nat.lt_of_lt_of_le (Heap.lt_size e) z) (Nat.lt_irrefl _)
 have cellK:∀x c,X.env.cells.lookup x=some c→∀v,s.heap.IsCell c v→h'.IsCell c v:=fun x c e v ⟨o,ho,hd⟩=>by
  have nch:c∉ch:=fun z=>(hch c z).2.2.1 x c e rfl
  by_cases hc:c∈X.fs
  ·obtain ⟨sl,q⟩:=slot c o (I.cne x c e) hc nch ho (I.freeC x c e)
   exact ⟨_,q,hd⟩
  ·exact ⟨o,keep c o (I.cne x c e) hc nch ho (I.freeC x c e),hd⟩
 refine ⟨I.ok,I.os,hg,⟨fun b o e n hb hx=>?_,fun b o e n hb hx=>?_,fun b o e n hx=>?_,fun b o e hx=>?_,fun b xs e=>tups b xs (I.base.tups b xs e),fun b o xs e=>frzs b o xs (I.base.frzs b o xs e),fun b ps e=>?_⟩,?_,fun x c e=>?_,?_,fun x c e=>?_,fun p hp=>?_,hok,I.len⟩
 ·exact keep b o (neL b o e) hb (neC b o e hx) (I.base.keep b o e n hb hx) (I.base.free b o e n hx)
 ·obtain ⟨sl,e1⟩:=I.base.slot b o e n hb hx
  obtain ⟨sl',e2⟩:=slot b _ (neL b o e) hb (neC b o e hx) e1 (I.base.free b o e n hx)
  exact ⟨sl',e2⟩
 ·obtain ⟨o',e1⟩:=I.base.there b o e hx
  exact free b o' (neC b o e hx) e1 (I.base.free b o e n hx)
 ·obtain ⟨o',e1⟩:=I.base.there b o e hx
  exact there b o' (neC b o e hx) e1
 ·obtain ⟨m1,e1⟩:=I.base.tbls b ps e
  obtain ⟨m2,e2⟩:=tbls b _ e1
  exact ⟨m1++m2,by rw [e2,Array.append_assoc]⟩
 ·obtain ⟨m,hn,hl⟩:=I.loc
  refine ⟨m,ns m hn,fun i x v e1 e2 e3=>?_⟩
  obtain ⟨u,r,l⟩:=hl i x v e1 e2 e3
  refine ⟨u,r,?_⟩
  rcases l with l | ⟨k,c,e,z⟩
  ·exact .inl l
  ·exact .inr ⟨k,c,e,cellK x c e _ z⟩
 ·obtain ⟨v,z⟩:=I.cell x c e
  exact ⟨v,cellK x c e v z⟩
 ·obtain ⟨m,⟨o,_,_,ho,_⟩,_⟩:=I.loc
  exact free _ o (fun z=>(hch _ z).2.1 rfl) ho I.free
 ·obtain ⟨v,o,ho,hd⟩:=I.cell x c e
  exact free c o (fun z=>(hch c z).2.2.1 x c e rfl) ho (I.freeC x c e)
 ·obtain ⟨e,n,ne,nf,d⟩:=I.pin p hp
  have nch:p.1∉ch:=fun z=>(hch p.1 z).2.2.2 p hp rfl
  exact ⟨keep p.1 p.2 ne nf nch e n,free p.1 p.2 nch e n,ne,nf,d⟩
theorem Inv.un {t':Nat} (I:Inv X pins σ H s) (u:Un X.fs [] H H' s.heap h') (hok:HOk X.prog X.w H' h'):Inv X pins σ H' {s with heap:=h',toks:=t'}:=by
 obtain ⟨m,⟨o,es,ep,ho,r⟩,_⟩:=id I.loc
 obtain ⟨sl,hL⟩:=u.any ho I.free (by simp)
 exact I.step (g':=s.gens) (d':=s.drawn) (ch:=[]) (fun _ z=>nomatch z) (fun b o _ hb _ e n=>u.keep b o e n hb (by simp)) (fun b o _ hb _ e n=>u.slot b o e n hb (by simp)) (fun b o _ e n=>u.free b o e n (by simp)) (fun b o _ e=>u.there b o e (by simp)) u.tups u.frzs u.tbls (fun m' hm=>by
  obtain ⟨o',es',ep',ho',r'⟩:=hm
  rw [ho] at ho';cases ho'
  exact ⟨_,es',ep',hL,r'⟩) hok I.bare
theorem Inv.call {g':Array GenState} {t':Nat} {d':Drawn} {ch:List Addr} (I:Inv X pins σ H s) (u:Un (frs X.stack) ch H H' s.heap h') (hok:HOk X.prog X.w H' h') (hg:AllBare g')
  (hch:∀b∈ch,(b∈X.ex∨X.s₀.heap.objs.size≤b)∧b≠X.env.locals∧(∀x c,X.env.cells.lookup x=some c→c≠b)∧∀p∈X.pn++pins,p.1≠b):
  Inv X pins σ H' {s with heap:=h',gens:=g',drawn:=d',toks:=t'}:=by
 obtain ⟨m,⟨o,es,ep,ho,r⟩,_⟩:=id I.loc
 obtain ⟨sl,hL⟩:=u.any ho I.free fun z=>(hch _ z).2.1 rfl
 exact I.step (ch:=ch) hch (fun b o hL hb hc e n=>u.keep b o e n (fun z=>(List.mem_cons.mp (I.stkSub b z)).elim hL hb) hc) (fun b o _ _ hc e n=>u.any e n hc) (fun b o hc e n=>u.free b o e n hc) (fun b o hc e=>u.there b o e hc) u.tups u.frzs u.tbls (fun m' hm=>by
  obtain ⟨o',es',ep',ho',r'⟩:=hm
  rw [ho] at ho';cases ho'
  exact ⟨_,es',ep',hL,r'⟩) hok hg
theorem Inv.turned {t':Nat} {it:Addr} (I:Inv X pins σ H s) (k:∀b o,b≠it→s.heap.get? b=some o→h'.get? b=some o) (hn:H it=none) (hL:it≠X.env.locals)
  (h1:it∈X.ex∨X.s₀.heap.objs.size≤it) (h2:∀x c,X.env.cells.lookup x=some c→c≠it) (h3:∀p∈X.pn++pins,p.1≠it):Inv X pins σ H {s with heap:=h',toks:=t'}:=by
 have nit:∀b u,H b=some u→b≠it:=fun b u e z=>by rw [z,hn] at e;cases e
 refine I.step (g':=s.gens) (d':=s.drawn) (ch:=[it]) (fun b hb=>?_) (fun b o _ _ hc e _=>k b o (fun z=>hc (by simp [z])) e) (fun b o _ _ hc e _=>⟨o.slots,k b o (fun z=>hc (by simp [z])) e⟩) (fun _ _ _ _ n=>n)
  (fun b o hc e=>⟨o,k b o (fun z=>hc (by simp [z])) e⟩) (fun _ _ e=>e) (fun _ _ _ e=>e) (fun b ps e=>⟨#[],by rw [e];simp⟩) (fun m hm=>?_) (fun b u e=>?_) I.bare
 ·have e:b=it:=by simpa using hb
  subst e
  exact ⟨h1,hL,h2,h3⟩
 ·obtain ⟨o,es,ep,ho,r⟩:=hm
  exact ⟨o,es,ep,k _ o (Ne.symm hL) ho,r⟩
 ·refine (I.hok b u e).stay (fun c v hc q=>k c v ?_ q) (fun _ q=>q) fun _ _ q=>q
  rcases hc with z | z
  ·rw [z];exact nit b u e
  ·exact nit c _ z
theorem Inv.tok (I:Inv X pins σ H s) (t:Nat):Inv X pins σ H {s with toks:=t}:=I.un (h':=s.heap) (t':=t) Un.refl I.hok
theorem Inv.kept {t':Nat} (I:Inv X pins σ H s) (k:∀b u,s.heap.get? b=some u→h'.get? b=some u):Inv X pins σ H {s with heap:=h',toks:=t'}:=I.un (Un.kept k) (I.hok.kept k)
theorem Inv.laid {a:Addr} {o:HO} {t':Nat} (I:Inv X pins σ H s) (k:∀b u,s.heap.get? b=some u→h'.get? b=some u) (hp:s.heap.objs.size≤a) (new:ObjOk X.prog X.w (upd H a o) h' a o):
  Inv X pins σ (upd H a o) {s with heap:=h',toks:=t'}:=I.un (Un.laid k hp (I.hok.fresh hp)) (I.hok.laid k hp new)
theorem Inv.write {x e:Addr} {o:HO} {t':Nat} (I:Inv X pins σ H s) (mu:Mut (H x)) (he:e=x∨H e=some (.own x)) (k:∀b u,b≠e→s.heap.get? b=some u→h'.get? b=some u) (heo:∃u,h'.get? e=some u)
  (new:ObjOk X.prog X.w (upd H x o) h' x o):Inv X pins σ (upd H x o) {s with heap:=h',toks:=t'}:=I.un (Un.write mu he k heo) (I.hok.write mu he k heo new)
theorem Inv.weak {σ':List (Option V)} (I:Inv X pins σ H s) (hl:σ'.length=σ.length) (w:∀(i:Nat) v,σ'[i]?=some (some v)→σ[i]?=some (some v)):Inv X pins σ' H s:=
 ⟨I.ok,I.os,I.bare,I.base,let ⟨m,hn,hl'⟩:=I.loc;⟨m,hn,fun i x v e1 e2 e3=>hl' i x v e1 (w i v e2) e3⟩,I.cell,I.free,I.freeC,I.pin,I.hok,hl.trans I.len⟩
theorem Inv.pins_of {pins':List (Addr×Obj)} (I:Inv X pins σ H s) (h:∀p∈pins',s.heap.get? p.1=some p.2∧H p.1=none∧p.1≠X.env.locals∧p.1∉X.fs∧∀v,p.2.data≠.cell v):Inv X pins' σ H s:=
 ⟨I.ok,I.os,I.bare,I.base,I.loc,I.cell,I.free,I.freeC,fun p hp=>(List.mem_append.mp hp).elim (fun z=>I.pin p (List.mem_append_left _ z)) (h p),I.hok,I.len⟩
theorem G_ {N:List Str} (hN:N.Nodup) {i j:Nat} {x:Str} (a:N[i]?=some x) (b:N[j]?=some x):i=j:=by
 obtain ⟨h1,e1⟩:=List.getElem?_eq_some_iff.mp a
 obtain ⟨h2,e2⟩:=List.getElem?_eq_some_iff.mp b
 exact (List.getElem_inj hN).mp (e1.trans e2.symm)
theorem JJ {M:Model} {A:Around} {E:Value→Shared→Prop} {i:Nat} {x:Str} {v:V} {u:Value} {Q:Unit→Shared→Prop} (I:Inv X pins σ H s) (hN:X.N.Nodup) (hi:X.N[i]?=some x) (hx:Loc X.env.scope x) (r:RelV v u)
  (h:∀s',Inv X pins (σ.set i (some v)) H s'→(∃a,Heap.SameBut a s.heap s'.heap∧(a=X.env.locals∨X.env.cells.lookup x=some a))→Q () s') (hf:X.fn x=true∨X.env.scope.names.lookup x=some .local:=by first | exact .inl rfl | exact .inr rfl | assumption):wpAny M A (storeName X.env x u) Q E s:=by
 obtain ⟨m,hn,hl⟩:=id I.loc
 have hcls:(X.env.scope.kind==.class || (X.env.scope.kind==.module && X.env.locals != X.env.globals))=false:=by rw [I.ok.kind];rfl
 have hiσ:i < σ.length:=by rw [I.len];exact (List.getElem?_eq_some_iff.mp hi).1
 have cne:=I.cne
 have tracked:∀{a:Addr} {h':Heap},(∃o,s.heap.get? a=some o∧H a=none)→Heap.SameBut a s.heap h'→HOk X.prog X.w H h':=fun {a h'} ha hs b ob e=>by
  obtain ⟨_,_,hfree⟩:=ha
  refine (I.hok b ob e).stay (fun c w' hc q=>(hs.2 c ?_).trans q) (fun _ q=>q) fun _ _ q=>q
  rintro rfl
  rcases hc with rfl | hc
  ·rw [hfree] at e;cases e
  ·rw [hfree] at hc;cases hc
 rcases hx with hk | hk
 ·refine wpAny_storeName_local hk hn (fun h' hn' hs=>?_) hcls
  obtain ⟨oL,_,_,hoL,_⟩:=id hn
  refine h _ ⟨I.ok,I.os,I.bare,⟨fun b o e n hb hx=>?_,fun b o e n hb hx=>?_,I.base.free,fun b o e hx=>?_,I.base.tups,I.base.frzs,I.base.tbls⟩,⟨_,hn',fun j y v' e1 e2 e3=>?_⟩,fun y c e=>?_,I.free,I.freeC,fun p hp=>?_,tracked ⟨oL,hoL,I.free⟩ hs,by simpa using I.len⟩ ⟨_,hs,.inl rfl⟩
  ·exact (hs.2 b (Nat.ne_of_lt (Nat.lt_of_lt_of_le (Heap.lt_size e) I.ok.above))).trans (I.base.keep b o e n hb hx)
  ·obtain ⟨sl,e1⟩:=I.base.slot b o e n hb hx
   exact ⟨sl,(hs.2 b (Nat.ne_of_lt (Nat.lt_of_lt_of_le (Heap.lt_size e) I.ok.above))).trans e1⟩
  ·obtain ⟨o',e1⟩:=I.base.there b o e hx
   exact ⟨o',(hs.2 b (Nat.ne_of_lt (Nat.lt_of_lt_of_le (Heap.lt_size e) I.ok.above))).trans e1⟩
  ·by_cases hj:j=i
   ·subst hj
    rw [hi] at e1;cases e1
    rw [List.getElem?_set_self hiσ] at e2
    cases e2
    exact ⟨u,r,.inl ⟨hk,by simp⟩⟩
   ·rw [List.getElem?_set_ne (Ne.symm hj)] at e2
    obtain ⟨u',r',q⟩:=hl j y v' e1 e2 e3
    refine ⟨u',r',?_⟩
    rcases q with ⟨k,e⟩ | ⟨k,c,e,z⟩
    ·refine .inl ⟨k,?_⟩
     have:y≠x:=fun e=>hj (G_ hN e1 (e ▸ hi))
     simp [this,e]
    ·exact .inr ⟨k,c,e,z.sameBut hs (cne y c e)⟩
  ·obtain ⟨w',z⟩:=I.cell y c e
   exact ⟨w',z.sameBut hs (cne y c e)⟩
  ·obtain ⟨e,n,ne,nf,d⟩:=I.pin p hp
   exact ⟨(hs.2 p.1 ne).trans e,n,ne,nf,d⟩
 ·have hfn:X.fn x=true:=by
   rcases hf with z | z
   ·exact z
   ·rw [z] at hk;cases hk
  obtain ⟨c,hc⟩:=I.ok.has x (.inl hk)
  obtain ⟨w',z⟩:=I.cell x c hc
  refine wpAny_storeName_cell I.ok.kind hk hc z (fun h' hc' hs=>?_)
  obtain ⟨oc,hoc,hocd⟩:=id z
  refine h {s with heap:=h'} ⟨I.ok,I.os,I.bare,⟨fun b o e n hb hx=>?_,fun b o e n hb hx=>?_,I.base.free,fun b o e hx=>?_,I.base.tups,I.base.frzs,I.base.tbls⟩,⟨m,hn.sameBut hs (Ne.symm (cne x c hc)),fun j y v' e1 e2 e3=>?_⟩,fun y c' e=>?_,I.free,I.freeC,fun p hp=>?_,tracked ⟨oc,hoc,I.freeC x c hc⟩ hs,by simpa using I.len⟩ ⟨c,hs,.inr hc⟩
  ·exact (hs.2 b (Nat.ne_of_lt (Nat.lt_of_lt_of_le (Heap.lt_size e) (I.ok.cab x c hfn hc)))).trans (I.base.keep b o e n hb hx)
  ·obtain ⟨sl,e1⟩:=I.base.slot b o e n hb hx
   exact ⟨sl,(hs.2 b (Nat.ne_of_lt (Nat.lt_of_lt_of_le (Heap.lt_size e) (I.ok.cab x c hfn hc)))).trans e1⟩
  ·obtain ⟨o',e1⟩:=I.base.there b o e hx
   exact ⟨o',(hs.2 b (Nat.ne_of_lt (Nat.lt_of_lt_of_le (Heap.lt_size e) (I.ok.cab x c hfn hc)))).trans e1⟩
  ·by_cases hj:j=i
   ·subst hj
    rw [hi] at e1;cases e1
    rw [List.getElem?_set_self hiσ] at e2
    cases e2
    exact ⟨u,r,.inr ⟨.inl hk,c,hc,hc'⟩⟩
   ·rw [List.getElem?_set_ne (Ne.symm hj)] at e2
    obtain ⟨u',r',q⟩:=hl j y v' e1 e2 e3
    refine ⟨u',r',?_⟩
    rcases q with q | ⟨k,c',e,z'⟩
    ·exact .inl q
    ·refine .inr ⟨k,c',e,z'.sameBut hs ?_⟩
     rintro rfl
     exact hj (G_ hN e1 (I.ok.inj _ _ _ e hc ▸ hi))
  ·by_cases hcc:c'=c
   ·subst hcc;exact ⟨_,hc'⟩
   ·obtain ⟨w2,z2⟩:=I.cell y c' e
    exact ⟨w2,z2.sameBut hs hcc⟩
  ·obtain ⟨e,n,ne,nf,d⟩:=I.pin p hp
   refine ⟨(hs.2 p.1 ?_).trans e,n,ne,nf,d⟩
   intro q
   rw [q,hoc] at e
   have q':oc=p.2:=Option.some.inj e
   exact d w' (by rw [←q'];exact hocd)
theorem DA {M:Model} {A:Around} {E:Value→Shared→Prop} {i:Nat} {x:Str} {v:V} {u:Value} {Q:Unit→Shared→Prop} (I:Inv X pins σ H s) (hN:X.N.Nodup) (hi:X.N[i]?=some x) (hx:Loc X.env.scope x) (r:RelV v u)
  (h:∀s',Inv X pins (σ.set i (some v)) H s'→Q () s') (hf:X.fn x=true∨X.env.scope.names.lookup x=some .local:=by first | exact .inl rfl | exact .inr rfl | assumption):wpAny M A (storeName X.env x u) Q E s:=
 JJ I hN hi hx r (fun s' I' _=>h s' I') hf
theorem Inv.call' {s':Shared} {ch:List Addr} (I:Inv X pins σ H s) (ho:s'.os=s.os) (u:Un (frs X.stack) ch H H' s.heap s'.heap) (hok:HOk X.prog X.w H' s'.heap) (hg:AllBare s'.gens)
  (hch:∀b∈ch,(b∈X.ex∨X.s₀.heap.objs.size≤b)∧b≠X.env.locals∧(∀x c,X.env.cells.lookup x=some c→c≠b)∧∀p∈X.pn++pins,p.1≠b):Inv X pins σ H' s':=by
 obtain ⟨h',g',d',t',o'⟩:=s'
 have e:o'=s.os:=ho
 subst e
 exact I.call (g':=g') (t':=t') (d':=d') u hok hg hch
end
abbrev XK:=Value→Option Addr→Hp→Prop
abbrev St:=List (Option V)
abbrev VK:=V→Hp→Prop
abbrev TE:=St→Hp→VK→Prop
abbrev TT:=St→Hp→(Bool→Hp→Prop)→Prop
abbrev TA:=St→Hp→(List V→Hp→Prop)→Prop
structure Ends where
 nx:St→Hp→Prop
 rt:VK
 bk:St→Hp→Prop:=fun _ _=>False
 ct:St→Hp→Prop:=fun _ _=>False
abbrev TS:=Ends→St→Hp→Prop
def EP (X:Cx) (pins:List (Addr×Obj)) (σ:St) (Q:VK) (u:Value) (s':Shared):Prop:=∃v H',Inv X pins σ H' s'∧RelV v u∧Q v H'
def TP (X:Cx) (pins:List (Addr×Obj)) (σ:St) (Q:Bool→Hp→Prop) (b:Bool) (s':Shared):Prop:=∃H',Inv X pins σ H' s'∧Q b H'
def AP (X:Cx) (pins:List (Addr×Obj)) (σ:St) (Q:List V→Hp→Prop) (us:List Value) (s':Shared):Prop:=∃vs H',Inv X pins σ H' s'∧Vals vs us∧Q vs H'
def SP (X:Cx) (pins:List (Addr×Obj)) (D:Ends) (f:Flow) (s':Shared):Prop:=
 match f with
 | .next=>∃σ' H',Inv X pins σ' H' s'∧D.nx σ' H'
 | .brk=>∃σ' H',Inv X pins σ' H' s'∧D.bk σ' H'
 | .cont=>∃σ' H',Inv X pins σ' H' s'∧D.ct σ' H'
 | .ret u=>∃v σ' H',Inv X pins σ' H' s'∧RelV v u∧D.rt v H'
def PE (X:Cx) (e:Expr) (t:TE):Prop:=
 ∀(pins:List (Addr×Obj)) (s:Shared) (σ:St) (H:Hp) (Q:VK),Inv X pins σ H s→t σ H Q→wpAny (model X.prog X.w) X.A (eval e X.env) (EP X pins σ Q) X.xe s
def PT (X:Cx) (e:Expr) (t:TT):Prop:=
 ∀(pins:List (Addr×Obj)) (s:Shared) (σ:St) (H:Hp) (Q:Bool→Hp→Prop),Inv X pins σ H s→t σ H Q→wpAny (model X.prog X.w) X.A (isTrue e X.env (eval e X.env)) (TP X pins σ Q) X.xe s
def PW (X:Cx) (e:Expr) (t:TT):Prop:=
 ∀(whole:Sem Value) (pins:List (Addr×Obj)) (s:Shared) (σ:St) (H:Hp) (Q:Bool→Hp→Prop),Inv X pins σ H s→t σ H Q→wpAny (model X.prog X.w) X.A (isTrue e X.env whole) (TP X pins σ Q) X.xe s
theorem PW.pt {X:Cx} {e:Expr} {t:TT} (h:PW X e t):PT X e t:=h _
def PA (X:Cx) (es:List Expr) (t:TA):Prop:=
 ∀(pos:Pos) (pins:List (Addr×Obj)) (s:Shared) (σ:St) (H:Hp) (Q:List V→Hp→Prop),Inv X pins σ H s→t σ H Q→wpAny (model X.prog X.w) X.A (spliced (backTo pos (starEach es X.env))) (AP X pins σ Q) X.xe s
def PS (X:Cx) (st:Stmt) (t:TS):Prop:=
 ∀(pins:List (Addr×Obj)) (s:Shared) (σ:St) (H:Hp) (D:Ends),Inv X pins σ H s→t D σ H→wpAny (model X.prog X.w) X.A (exec st X.env) (SP X pins D) X.xe s
def PSs (X:Cx) (st:List Stmt) (t:TS):Prop:=
 ∀(pins:List (Addr×Obj)) (s:Shared) (σ:St) (H:Hp) (D:Ends),Inv X pins σ H s→t D σ H→wpAny (model X.prog X.w) X.A (execs st X.env) (SP X pins D) X.xe s
theorem thn {α:Type} {t:Sem α} {Q Q':α→Shared→Prop} {M:Model} {A:Around} {E:Value→Shared→Prop} {s:Shared} (h:wpAny M A t Q E s) (hQ:∀a s,Q a s→Q' a s):wpAny M A t Q' E s:=wpAny_mono h hQ fun _ _ x=>x
section
variable {X:Cx}
def tVar (i:Nat):TE:=fun σ H Q=>∃v,σ[i]?=some (some v)∧Q v H
def tC (v:V):TE:=fun _ H Q=>Q v H
theorem NV {i:Nat} {x:Str} {pos:Pos} (hN:X.N[i]?=some x) (hv:Vis X.env.scope x) (hd:(x==("__debug__":Str))=false:=by decide) (hcd:(x==("__classdict__":Str))=false:=by decide):PE X (.Name x pos) (tVar i):=by
 intro pins s σ H Q I h
 obtain ⟨v,e,h⟩:=h
 obtain ⟨m,hn,hl⟩:=I.loc
 obtain ⟨u,r,l⟩:=hl i x v hN e hv
 have fin:EP X pins σ Q u s:=⟨v,H,I,r,h⟩
 rcases l with ⟨hk,hm⟩ | ⟨hk,c,hc,hcell⟩
 ·exact wpAny_Name (wpAny_loadName_local I.ok.kind hk hn hm fin) hd
 ·rcases hk with hk | hk
  ·exact wpAny_Name (wpAny_loadName_cell I.ok.kind hk hc hcell fin) hd
  ·exact wpAny_Name (wpAny_loadName_free I.ok.kind hk hc hcell fin hcd) hd
theorem pe_int {i j pos}:PE X (.Constant (.int i) j pos) (tC (.int i)):=fun _ _ _ H _ I h=>wpAny_Constant_int ⟨.int i,H,I.tok _,⟨_,rfl⟩,h⟩
theorem pe_bl {b j pos}:PE X (.Constant (.bool b) j pos) (tC (.bl b)):=fun _ _ _ H _ I h=>Constant_bool ⟨.bl b,H,I,rfl,h⟩
theorem pe_non {j pos}:PE X (.Constant .none j pos) (tC .non):=fun _ _ _ H _ I h=>Constant_none ⟨.non,H,I,rfl,h⟩
theorem pe_str {x j pos}:PE X (.Constant (.str x) j pos) (tC (.str x)):=fun _ _ _ H _ I h=>Calls.Constant_str ⟨.str x,H,I.tok _,⟨_,rfl⟩,h⟩
def Gl (X:Cx) (x:Str):Prop:=X.env.kindOf x=some .globalImplicit
theorem Gm {E:Value→Shared→Prop} {pins:List (Addr×Obj)} {s:Shared} {σ:St} {H:Hp} {x:Str} {u:Value} {pos:Pos} {Q:Value→Shared→Prop} (I:Inv X pins σ H s) (hg:Gl X x) (hm:X.mg x=some u) (h:Q u s)
  (hd:(x==("__debug__":Str))=false:=by decide):wpAny (model X.prog X.w) X.A (eval (.Name x pos) X.env) Q E s:=
 Calls.Name_function_global I.ok.kind hg (Calls.loadGlobal_global (by rw [I.ok.glob];exact I.mod.glob.keeps I.bk) hm h) hd
theorem Eb {E:Value→Shared→Prop} {pins:List (Addr×Obj)} {s:Shared} {σ:St} {H:Hp} {x:Str} {u:Value} {pos:Pos} {Q:Value→Shared→Prop} (I:Inv X pins σ H s) (hg:Gl X x) (hm:X.mg x=none) (hv:bootBuiltins x=some u) (h:Q u s)
  (hn:x≠"__name__":=by decide) (hd:(x==("__debug__":Str))=false:=by decide):wpAny (model X.prog X.w) X.A (eval (.Name x pos) X.env) Q E s:=by
 obtain ⟨mb,h1,h2⟩:=I.mod.blt
 exact Calls.Name_function_global I.ok.kind hg (Calls.loadGlobal_builtin (by rw [I.ok.glob];exact I.mod.glob.keeps I.bk) hm (by rw [I.ok.blt];exact h1.keeps I.bk) ((h2 x hn).trans hv) h) hd
theorem E4 {x:Str} {v:V} {u:Value} {pos:Pos} (hg:Gl X x) (hm:X.mg x=some u) (r:RelV v u) (hd:(x==("__debug__":Str))=false:=by decide):PE X (.Name x pos) (tC v):=
 fun _ _ _ H _ I h=>Gm I hg hm ⟨v,H,I,r,h⟩ hd
theorem Mu {x:Str} {v:V} {u:Value} {pos:Pos} (hg:Gl X x) (hm:X.mg x=none) (hv:bootBuiltins x=some u) (r:RelV v u) (hn:x≠"__name__":=by decide) (hd:(x==("__debug__":Str))=false:=by decide):PE X (.Name x pos) (tC v):=
 fun _ _ _ H _ I h=>Eb I hg hm hv ⟨v,H,I,r,h⟩ hn hd
variable {a b:Expr} {ta tb:TE} {pos:Pos}
def PC (X:Cx) (op:CmpOp) (a b:Expr) (t:TE):Prop:=
 ∀(pins:List (Addr×Obj)) (s:Shared) (σ:St) (H:Hp) (Q:VK),Inv X pins σ H s→t σ H Q→
  wpAny (model X.prog X.w) X.A (eval a X.env) (fun v s₁=>wpAny (model X.prog X.w) X.A (eval b X.env) (fun u s₂=>wpAny (model X.prog X.w) X.A (compareOp op v u) (EP X pins σ Q) X.xe s₂) X.xe s₁) X.xe s
theorem Lg (b:Expr) {op:CmpOp} (h:op≠.In) (h2:op≠.NotIn):behindInMarks op b=false:=by
 have e1:(op==CmpOp.In)=false:=by cases op <;> first | rfl | exact absurd rfl h
 have e2:(op==CmpOp.NotIn)=false:=by cases op <;> first | rfl | exact absurd rfl h2
 cases b <;> simp [behindInMarks,e1,e2]
def tIsN (ta:TE):TE:=fun σ H Q=>ta σ H fun x H1=>Q (.bl (decide (x=.non))) H1
theorem RelV.none_iff {x:V} {v:Value} (r:RelV x v):(v==Value.none)=decide (x=.non):=by
 cases x with
 | non=>cases r;rfl
 | bl _=>cases r;rfl
 | int _=>obtain ⟨t,rfl⟩:=r;rfl
 | str _=>obtain ⟨t,rfl⟩:=r;rfl
 | byt _=>obtain ⟨t,rfl⟩:=r;rfl
 | flt _=>obtain ⟨t,rfl⟩:=r;rfl
 | ref _=>cases r;rfl
 | ty _=>cases r;rfl
theorem Ox {j pos'} (ha:PE X a ta):PC X .Is a (.Constant .none j pos') (tIsN ta):=by
 intro pins s σ H Q I h
 refine thn (ha pins s σ H _ I h) fun v s1 ⟨x,H1,I1,r1,q1⟩=>?_
 exact Constant_none (is_none_gen ⟨.bl _,H1,I1,by rw [r1.none_iff];rfl,q1⟩)
def tB (t:TE):TT:=fun σ H Q=>t σ H fun x H1=>∃c,x=.bl c∧Q c H1
theorem Pa {op:CmpOp} {t:TE} (h:PC X op a b t) (h1:behindInMarks op b=false:=by first | exact Lg _ (by decide) (by decide) | rfl):PT X (.Compare a [op] [b] pos) (tB t):=by
 intro pins s σ H Q I hw
 refine wpAny_isTrue_Compare1 (thn (h pins s σ H _ I hw) fun v s1 h1=>thn h1 fun u s2 h2=>thn h2 fun c s3 ⟨x,H1,I1,r1,q1⟩=>?_) h1
 obtain ⟨d,rfl,q⟩:=q1
 cases r1
 exact wpAny_truthy_bool ⟨H1,I1,q⟩
theorem Ob {e:Expr} {t:TE} (h:PE X e t) (he:∀whole,isTrue e X.env whole=(do let v ←whole;standAt e.pos;holding [v] (truthy v)):=by intro _;rfl):PT X e (tB t):=by
 intro pins s σ H Q I hw
 refine isTrue_plain (thn (h pins s σ H _ I hw) fun v s1 ⟨x,H1,I1,r1,q1⟩=>?_) (he _)
 obtain ⟨d,rfl,q⟩:=q1
 cases r1
 exact wpAny_truthy_bool ⟨H1,I1,q⟩
variable {tA tB':TT} {rest:List Expr}
def tAnd (t u:TT):TT:=fun σ H Q=>t σ H fun c H1=>if c=true then u σ H1 Q else Q false H1
def tOr (t u:TT):TT:=fun σ H Q=>t σ H fun c H1=>if c=true then Q true H1 else u σ H1 Q
def tNot (t:TT):TT:=fun σ H Q=>t σ H fun c H1=>Q (!c) H1
theorem MA (ha:PT X a tA):PW X (.BoolOp .And [a] pos) tA:=by
 intro wh pins s σ H Q I h
 refine isTrue_and (thn (ha pins s σ H Q I h) fun c s1 e=>?_)
 cases c with
 | true=>exact isTrue_and_nil e
 | false=>exact e
theorem On (ha:PT X a tA):PW X (.BoolOp .Or [a] pos) tA:=by
 intro wh pins s σ H Q I h
 refine isTrue_or (thn (ha pins s σ H Q I h) fun c s1 e=>?_)
 cases c with
 | false=>exact isTrue_or_nil e
 | true=>exact e
theorem Ot (ha:PT X a tA) (hb:PW X (.BoolOp .And (b::rest) pos) tB'):PW X (.BoolOp .And (a::b::rest) pos) (tAnd tA tB'):=by
 intro wh pins s σ H Q I h
 refine isTrue_and (thn (ha pins s σ H _ I h) fun c s1 ⟨H1,I1,q1⟩=>?_)
 cases c with
 | true=>exact hb wh pins s1 σ H1 Q I1 q1
 | false=>exact ⟨H1,I1,q1⟩
theorem Q0 (ha:PT X a tA) (hb:PW X (.BoolOp .Or (b::rest) pos) tB'):PW X (.BoolOp .Or (a::b::rest) pos) (tOr tA tB'):=by
 intro wh pins s σ H Q I h
 refine isTrue_or (thn (ha pins s σ H _ I h) fun c s1 ⟨H1,I1,q1⟩=>?_)
 cases c with
 | true=>exact ⟨H1,I1,q1⟩
 | false=>exact hb wh pins s1 σ H1 Q I1 q1
theorem Pq (ha:PT X a tA):PT X (.UnaryOp .Not a pos) (tNot tA):=by
 intro pins s σ H Q I h
 exact isTrue_not (ha pins s σ H (fun c H1=>Q (!c) H1) I h)
def Qw (ta tb:TE):TE:=fun σ H Q=>ta σ H fun x H1=>∃c,x=.bl c∧if c=true then tb σ H1 Q else Q (.bl false) H1
def Qk (ta:TE):TE:=fun σ H Q=>ta σ H fun x H1=>∃c,x=.bl c∧Q (.bl (!c)) H1
theorem Pc {op} {t:TE} (h:PE X a t):PE X (.BoolOp op [a] pos) t:=fun pins s σ H Q I hw=>BoolOp_one (h pins s σ H Q I hw)
theorem Ps (ha:PE X a ta) (hb:PE X (.BoolOp .And (b::rest) pos) tb):PE X (.BoolOp .And (a::b::rest) pos) (Qw ta tb):=by
 intro pins s σ H Q I h
 refine BoolOp_and (thn (ha pins s σ H _ I h) fun v s1 ⟨x,H1,I1,r1,q1⟩=>?_)
 obtain ⟨c,rfl,q1⟩:=q1
 cases r1
 refine wpAny_truthy_bool ?_
 cases c with
 | true=>exact hb pins s1 σ H1 Q I1 q1
 | false=>exact ⟨.bl false,H1,I1,rfl,q1⟩
theorem O_ (ha:PE X a ta):PE X (.UnaryOp .Not a pos) (Qk ta):=by
 intro pins s σ H Q I h
 refine UnaryOp_ (thn (ha pins s σ H _ I h) fun v s1 ⟨x,H1,I1,r1,q1⟩=>?_)
 obtain ⟨c,rfl,q1⟩:=q1
 cases r1
 exact not_of (wpAny_truthy_bool ⟨.bl (!c),H1,I1,rfl,q1⟩)
end
def SqL (K:PySem.W.Frag) (H:Hp) (a:Addr) (xs:List V):Prop:=
 Rd H a (.lst xs)∨
  ∃(o:Obj) (its:Array Value) (n:Nat),K.lookup a=some o∧o.cls=.type "list"∧o.dict=none∧o.data=.seq its n∧its.size≤sizeLine∧Vals xs its.toList
def SqT (K:PySem.W.Frag) (H:Hp) (a:Addr) (xs:List V):Prop:=
 Rd H a (.tup xs)∨
  ∃(o:Obj) (its:Array Value) (n:Nat),K.lookup a=some o∧o.cls=.type "tuple"∧o.data=.seq its n∧o.dict=none∧its.size≤sizeLine∧Vals xs its.toList
def absV:Value→Option V
 | .none=>some .non
 | .bool b=>some (.bl b)
 | .int i _=>some (.int i)
 | .str x _=>some (.str x)
 | .bytes b _=>some (.byt b)
 | .float b _=>some (.flt b)
 | .ref a=>some (.ref a)
 | .type n=>some (.ty n)
 | _=>none
theorem RelV.abs {x:V} {u:Value} (r:RelV x u):absV u=some x:=by
 cases x with
 | non=>cases r;rfl
 | bl _=>cases r;rfl
 | int _=>obtain ⟨t,rfl⟩:=r;rfl
 | str _=>obtain ⟨t,rfl⟩:=r;rfl
 | byt _=>obtain ⟨t,rfl⟩:=r;rfl
 | flt _=>obtain ⟨t,rfl⟩:=r;rfl
 | ref _=>cases r;rfl
 | ty _=>cases r;rfl
theorem RelV.inj {x y:V} {u:Value} (r:RelV x u) (q:RelV y u):x=y:=Option.some.inj (r.abs.symm.trans q.abs)
theorem Vals.inj:∀{xs ys:List V} {us:List Value},Vals xs us→Vals ys us→xs=ys
 | _,_,_,.nil,.nil=>rfl
 | _,_,_,.cons r t,.cons r' t'=>by rw [r.inj r',Vals.inj t t']
section
variable {X:Cx} {pins:List (Addr×Obj)} {σ:St} {H:Hp} {s:Shared} {a:Addr} {xs ys:List V}
theorem SqL.of {K:PySem.W.Frag} (h:H a=some (.lst xs)):SqL K H a xs:=.inl (.inl h)
theorem SqT.of {K:PySem.W.Frag} (h:H a=some (.tup xs)):SqT K H a xs:=.inl (.inl h)
theorem Inv.list (I:Inv X pins σ H s) (h:SqL X.K H a xs):∃its:List Value,Vals xs its∧PlainL s.heap a its.toArray∧xs.length≤sizeLine:=by
 rcases h with h | ⟨o,its,n,hk,hc,hd,hs,hz,r⟩
 ·obtain ⟨z,its,n,r,e⟩:=h.ok I.hok
  exact ⟨its,r,⟨_,n,e,rfl,rfl,rfl⟩,z⟩
 ·refine ⟨its.toList,r,⟨o,n,I.kIn a o hk,hc,hd,by simpa using hs⟩,?_⟩
  have e:=r.length
  simp only [Array.length_toList] at e
  omega
theorem Inv.tuple (I:Inv X pins σ H s) (h:SqT X.K H a xs):∃its:List Value,Vals xs its∧IsTup s.heap a its.toArray∧xs.length≤sizeLine:=by
 rcases h with h | ⟨o,its,n,hk,hc,hs,hd0,hz,r⟩
 ·obtain ⟨z,⟨its,r,p⟩,_⟩:=h.ok I.hok
  exact ⟨its,r,p,z⟩
 ·refine ⟨its.toList,r,⟨o,I.kIn a o hk,hc,n,by simpa using hs⟩,?_⟩
  have e:=r.length
  simp only [Array.length_toList] at e
  omega
theorem Inv.list_inj (I:Inv X pins σ H s) (h:SqL X.K H a xs) (h':SqL X.K H a ys):xs=ys:=by
 obtain ⟨its,r,⟨o,n,e,_,_,d⟩,_⟩:=I.list h
 obtain ⟨its',r',⟨o',n',e',_,_,d'⟩,_⟩:=I.list h'
 rw [e] at e';cases e'
 rw [d] at d'
 injection d' with d1 _
 have:its=its':=by simpa using congrArg Array.toList d1
 subst this
 exact r.inj r'
theorem Inv.tuple_inj (I:Inv X pins σ H s) (h:SqT X.K H a xs) (h':SqT X.K H a ys):xs=ys:=by
 obtain ⟨its,r,⟨o,e,_,n,d⟩,_⟩:=I.tuple h
 obtain ⟨its',r',⟨o',e',_,n',d'⟩,_⟩:=I.tuple h'
 rw [e] at e';cases e'
 rw [d] at d'
 injection d' with d1 _
 have:its=its':=by simpa using congrArg Array.toList d1
 subst this
 exact r.inj r'
end
abbrev Cx.wish (X:Cx) (E:Value→Shared→Prop):Cx:={X with xe:=E}
abbrev Cx.nox (X:Cx):Cx:=X.wish fun _ _=>False
theorem Cx.Ok.wish {X:Cx} (ok:X.Ok) (E:Value→Shared→Prop):(X.wish E).Ok:=
 ⟨ok.mod,ok.kind,ok.glob,ok.blt,ok.above,ok.inj,ok.has,ok.cab,ok.hd,ok.frames,ok.stk,ok.exf,ok.bs,ok.bsz,ok.noex,ok.exfs,ok.funs,ok.frf⟩
theorem Cx.Ok.unwish {X:Cx} {E:Value→Shared→Prop} (ok:(X.wish E).Ok):X.Ok:=
 ⟨ok.mod,ok.kind,ok.glob,ok.blt,ok.above,ok.inj,ok.has,ok.cab,ok.hd,ok.frames,ok.stk,ok.exf,ok.bs,ok.bsz,ok.noex,ok.exfs,ok.funs,ok.frf⟩
section
variable {X:Cx} {pins:List (Addr×Obj)} {σ:St} {H:Hp} {s:Shared} {E:Value→Shared→Prop}
theorem Inv.wish (I:Inv X pins σ H s) (E:Value→Shared→Prop):Inv (X.wish E) pins σ H s:=⟨I.ok.wish E,I.os,I.bare,I.base,I.loc,I.cell,I.free,I.freeC,I.pin,I.hok,I.len⟩
theorem Inv.unwish (I:Inv (X.wish E) pins σ H s):Inv X pins σ H s:=⟨I.ok.unwish,I.os,I.bare,I.base,I.loc,I.cell,I.free,I.freeC,I.pin,I.hok,I.len⟩
theorem SP.unwish {D:Ends} {f:Flow} {s':Shared} (h:SP (X.wish E) pins D f s'):SP X pins D f s':=by
 cases f with
 | next=>obtain ⟨σ',H',I,q⟩:=h;exact ⟨σ',H',I.unwish,q⟩
 | brk=>obtain ⟨σ',H',I,q⟩:=h;exact ⟨σ',H',I.unwish,q⟩
 | cont=>obtain ⟨σ',H',I,q⟩:=h;exact ⟨σ',H',I.unwish,q⟩
 | ret u=>obtain ⟨v,σ',H',I,r,q⟩:=h;exact ⟨v,σ',H',I.unwish,r,q⟩
theorem PSs.nox {st:List Stmt} {t:TS} (h:PSs X.nox st t):PSs X st t:=fun pins s σ H D I hw=>
 wpAny_mono (h pins s σ H D (I.wish _) hw) (fun _ _ q=>q.unwish) fun _ _ z=>False.elim z
end
section
variable {X:Cx} {st:Stmt} {rest:List Stmt} {t u:TS} {e:Expr} {te:TE} {pos:Pos}
def PX:TS:=fun D σ H=>D.nx σ H
def tSeq (t u:TS):TS:=fun D σ H=>t {D with nx:=u D} σ H
theorem pss_nil:PSs X [] PX:=fun _ _ σ H _ I h=>wpAny_execs_nil ⟨σ,H,I,h⟩
theorem A4 (h1:PS X st t) (h2:PSs X rest u):PSs X (st::rest) (tSeq t u):=by
 intro pins s σ H D I h
 refine wpAny_execs_cons (thn (h1 pins s σ H {D with nx:=u D} I h) fun f s1 q=>?_)
 cases f with
 | next=>
   obtain ⟨σ',H',I',q⟩:=q
   exact h2 pins s1 σ' H' D I' q
 | ret v=>exact q
 | brk=>exact q
 | cont=>exact q
theorem Inv.quiet {pins:List (Addr×Obj)} {σ:St} {H:Hp} {s:Shared} (I:Inv X pins σ H s):interactive X.env=false:=by simp [interactive,I.ok.kind]
def Qm (te:TE):TS:=fun D σ H=>te σ H fun _ H1=>D.nx σ H1
theorem DP (he:PE X e te) (hs:swapsWith e none pos.line X.env=pure false:=by rfl):PS X (.Expr e pos) (Qm te):=by
 intro pins s σ H D I h
 exact wpAny_Expr_any (thn (he pins s σ H _ I h) fun v s1 ⟨x,H1,I1,r1,q1⟩=>⟨σ,H1,I1,q1⟩) I.quiet hs
def tRet (te:TE):TS:=fun D σ H=>te σ H D.rt
theorem Ed (he:PE X e te):PS X (.Return (some e) pos) (tRet te):=by
 intro pins s σ H D I h
 exact wpAny_Return_some (thn (he pins s σ H _ I h) fun v s1 ⟨x,H1,I1,r1,q1⟩=>⟨x,σ,H1,I1,r1,q1⟩)
def tIfS (c:TT) (t u:TS):TS:=fun D σ H=>c σ H fun b H1=>if b=true then t D σ H1 else u D σ H1
theorem DE {c:Expr} {a b:List Stmt} {tc:TT} (hc:PT X c tc) (ha:PSs X a t) (hb:PSs X b u):PS X (.If c a b pos) (tIfS tc t u):=by
 intro pins s σ H D I h
 refine wpAny_If (thn (hc pins s σ H _ I h) fun d s1 ⟨H1,I1,q1⟩=>?_)
 cases d with
 | true=>exact ha pins s1 σ H1 D I1 q1
 | false=>exact hb pins s1 σ H1 D I1 q1
def Lv:TS:=fun _ _ _=>False
theorem AD {sts:List Stmt}:PSs X sts Lv:=fun _ _ _ _ _ _ h=>h.elim
end
abbrev TG:=V→St→Hp→(St→Hp→Prop)→Prop
abbrev TGs:=List V→St→Hp→(St→Hp→Prop)→Prop
def PG (X:Cx) (target:Expr) (t:TG):Prop:=
 ∀(pins:List (Addr×Obj)) (s:Shared) (σ:St) (H:Hp) (v:V) (u:Value) (Q:St→Hp→Prop),Inv X pins σ H s→RelV v u→t v σ H Q→
  wpAny (model X.prog X.w) X.A (assign target X.env u) (fun _ s'=>∃σ' H',Inv X pins σ' H' s'∧Q σ' H') X.xe s
def PGs (X:Cx) (ts:List Expr) (t:TGs):Prop:=
 ∀(pins:List (Addr×Obj)) (s:Shared) (σ:St) (H:Hp) (vs:List V) (us:List Value) (Q:St→Hp→Prop),Inv X pins σ H s→Vals vs us→t vs σ H Q→
  wpAny (model X.prog X.w) X.A (assignInOrder ((assignEach ts X.env).map (·.2)) us) (fun _ s'=>∃σ' H',Inv X pins σ' H' s'∧Q σ' H') X.xe s
abbrev TSet:=V→V→V→Hp→(Hp→Prop)→Prop
def PSet (X:Cx) (t:TSet):Prop:=
 ∀(pins:List (Addr×Obj)) (s:Shared) (σ:St) (H:Hp) (o i v:V) (ov iv u:Value) (Q:Hp→Prop),Inv X pins σ H s→RelV o ov→RelV i iv→RelV v u→t o i v H Q→
  wpAny (model X.prog X.w) X.A (setItem ov iv u) (fun _ s'=>∃H',Inv X pins σ H' s'∧Q H') X.xe s
abbrev TIp:=V→V→Hp→VK→Prop
def PIp (X:Cx) (op:Operator) (t:TIp):Prop:=
 ∀(pins:List (Addr×Obj)) (s:Shared) (σ:St) (H:Hp) (x y:V) (v u:Value) (Q:VK),Inv X pins σ H s→RelV x v→RelV y u→t x y H Q→
  wpAny (model X.prog X.w) X.A (inplaceOp op v u) (EP X pins σ Q) X.xe s
section
variable {X:Cx} {pos:Pos}
def BH (i:Nat):TG:=fun v σ H Q=>Q (σ.set i (some v)) H
theorem Au {i:Nat} {x:Str} (hN:X.N.Nodup) (hi:X.N[i]?=some x) (hx:Loc X.env.scope x) (hf:X.fn x=true∨X.env.scope.names.lookup x=some .local:=by first | exact .inl rfl | exact .inr rfl | assumption):PG X (.Name x pos) (BH i):=by
 intro pins s σ H v u Q I r h
 exact wpAny_assign_Name (DA I hN hi hx r (fun s' I'=>⟨_,H,I',h⟩) hf)
def gNil:TGs:=fun vs σ H Q=>vs=[]∧Q σ H
def GZ (t:TG) (u:TGs):TGs:=fun vs σ H Q=>∃v r,vs=v::r∧t v σ H fun σ' H'=>u r σ' H' Q
theorem Bw:PGs X [] gNil:=by
 intro pins s σ H vs us Q I r h
 obtain ⟨e,h⟩:=h
 subst e
 cases r
 exact assignInOrder_nil ⟨σ,H,I,h⟩
theorem A5 {e:Expr} {es:List Expr} {t:TG} {u:TGs} (h1:PG X e t) (h2:PGs X es u)
  (hs:(assignEach (e::es) X.env).map (·.2)=assign e X.env::(assignEach es X.env).map (·.2):=by rfl):PGs X (e::es) (GZ t u):=by
 intro pins s σ H vs us Q I r h
 obtain ⟨v,vr,e1,h⟩:=h
 subst e1
 cases r with
 | cons r rr=>
   rw [hs]
   refine assignInOrder_cons (thn (h1 pins s σ H _ _ _ I r h) fun _ s1 ⟨σ1,H1,I1,q1⟩=>?_)
   exact h2 pins s1 σ1 H1 _ _ Q I1 rr q1
def gTup (K:PySem.W.Frag) (n:Nat) (t:TGs):TG:=fun v σ H Q=>∃a xs,v=.ref a∧SqT K H a xs∧xs.length=n∧t xs σ H Q
theorem B_ {es:List Expr} {k:Nat} {t:TGs} {n:Nat} (hc:X.calm=true) (h:PGs X es t)
  (hn:(assignEach es X.env).length=n:=by rfl) (hst:(assignEach es X.env).findIdx? (·.1)=none:=by rfl):PG X (.Tuple es k pos) (gTup X.K n t):=by
 intro pins s σ H v u Q I r hw
 obtain ⟨a,xs,e1,hq,hl,hw⟩:=hw
 subst e1
 cases r
 obtain ⟨its,rv,ht,hz⟩:=I.tuple hq
 refine assign_Tuple_tuple (I.ok.hd hc) ht (by simp [hn,←hl,rv.length]) hst fun h' hx=>?_
 have I1:Inv X pins σ H {s with heap:=h'}:=I.kept (t':=s.toks) fun b o e=>hx b o (Nat.ne_of_lt (Heap.lt_size e)) e
 exact h pins _ σ H xs _ Q I1 (by simpa using rv) hw
def gSub (to ti:TE) (t:TSet):TG:=fun v σ H Q=>to σ H fun o H1=>ti σ H1 fun i H2=>t o i v H2 fun H3=>Q σ H3
theorem K3 {o i:Expr} {to ti:TE} {t:TSet} (ho:PE X o to) (hi:PE X i ti) (hs:PSet X t)
  (ha:∀v,assign (.Subscript o i pos) X.env v=(do
   let ov ←holding [v] (eval o X.env)
   let iv ←holding [v,ov] (eval i X.env)
   standAt pos
   holding [v,ov,iv] (setItem ov iv v)
   release [v,ov,iv] []):=by intro _;rfl):PG X (.Subscript o i pos) (gSub to ti t):=by
 intro pins s σ H v u Q I r h
 rw [ha]
 refine wpAny_bind (wpAny_holding (thn (ho pins s σ H _ I h) fun ov s1 ⟨x,H1,I1,r1,q1⟩=>?_))
 refine wpAny_bind (wpAny_holding (thn (hi pins s1 σ H1 _ I1 q1) fun iv s2 ⟨y,H2,I2,r2,q2⟩=>?_))
 refine wpAny_bind (wpAny_standAt (wpAny_bind (wpAny_holding (thn (hs pins s2 σ H2 x y v ov iv u _ I2 r1 r2 r q2) fun _ s3 ⟨H3,I3,q3⟩=>?_))))
 exact wpAny_release ⟨σ,H3,I3,q3⟩
def tAsg (te:TE) (g:TG):TS:=fun D σ H=>te σ H fun x H1=>g x σ H1 D.nx
theorem Ea {tg e:Expr} {te:TE} {g:TG} (he:PE X e te) (hg:PG X tg g) (hs:swapsWithSole [tg] e pos.line X.env=pure false:=by rfl) (hw:swappedStores [tg] e X.env=pure none:=by rfl)
  (h1:(assignEach [tg] X.env).map (·.2)=[assign tg X.env]:=by rfl):PS X (.Assign [tg] e pos) (tAsg te g):=by
 intro pins s σ H D I h
 refine wpAny_Assign_stores (thn (he pins s σ H _ I h) fun v s1 ⟨x,H1,I1,r1,q1⟩=>?_) hs hw
 rw [h1]
 exact thn (hg pins s1 σ H1 x v _ I1 r1 q1) fun _ s2 q=>q
theorem Eh {i:Nat} {x:Str} {e:Expr} {te:TE} {pos':Pos} (hN:X.N.Nodup) (hi:X.N[i]?=some x) (hx:Loc X.env.scope x) (he:PE X e te) (hs:swapsWith e (some (.Name x pos')) pos.line X.env=pure false:=by rfl) (hf:X.fn x=true∨X.env.scope.names.lookup x=some .local:=by first | exact .inl rfl | exact .inr rfl | assumption):
  PS X (.Assign [.Name x pos'] e pos) (tAsg te (BH i)):=by
 intro pins s σ H D I h
 refine wpAny_Assign_Name (thn (he pins s σ H _ I h) fun v s1 ⟨y,H1,I1,r1,q1⟩=>?_) hs
 exact DA I1 hN hi hx r1 (fun s2 I2=>⟨_,H1,I2,q1⟩) hf
def tAug (i:Nat) (te:TE) (ti:TIp):TS:=fun D σ H=>∃x,σ[i]?=some (some x)∧te σ H fun y H1=>ti x y H1 fun z H2=>D.nx (σ.set i (some z)) H2
theorem Pz {i:Nat} {x:Str} {e:Expr} {te:TE} {op:Operator} {ti:TIp} {pos':Pos} (hN:X.N.Nodup) (hi:X.N[i]?=some x) (hx:Loc X.env.scope x) (he:PE X e te) (ho:PIp X op ti) (hf:X.fn x=true∨X.env.scope.names.lookup x=some .local:=by first | exact .inl rfl | exact .inr rfl | assumption):
  PS X (.AugAssign (.Name x pos') op e pos) (tAug i te ti):=by
 intro pins s σ H D I h
 obtain ⟨v,e1,h⟩:=h
 obtain ⟨m,hn,hl⟩:=I.loc
 have vis:Vis X.env.scope x:=by rcases hx with k | k;exact .inl k;exact .inr (.inl k)
 obtain ⟨u,r,l⟩:=hl i x v hi e1 vis
 refine wpAny_AugAssign_Name ?_
 have go:wpAny (model X.prog X.w) X.A (eval e X.env) (fun w s₂=>wpAny (model X.prog X.w) X.A (inplaceOp op u w) (fun r s₃=>wpAny (model X.prog X.w) X.A (storeName X.env x r) (fun _=>SP X pins D .next) X.xe s₃) X.xe s₂) X.xe s:=by
  refine thn (he pins s σ H _ I h) fun w s1 ⟨y,H1,I1,r1,q1⟩=>?_
  refine thn (ho pins s1 σ H1 v y u w _ I1 r r1 q1) fun z s2 ⟨zv,H2,I2,r2,q2⟩=>?_
  exact DA I2 hN hi hx r2 (fun s3 I3=>⟨_,H2,I3,q2⟩) hf
 rcases l with ⟨hk,hm⟩ | ⟨hk,c,hc,hcell⟩
 ·exact wpAny_loadName_local I.ok.kind hk hn hm go
 ·rcases hk with hk | hk
  ·exact wpAny_loadName_cell I.ok.kind hk hc hcell go
  ·rcases hx with k | k
   ·have:X.env.scope.names.lookup x=some .free:=hk
    rw [k] at this;cases this
   ·have:X.env.scope.names.lookup x=some .free:=hk
    rw [k] at this;cases this
def Oj (c:TT) (tb:TS):TS:=fun D σ H=>∃W:Nat→St→Hp→Prop,(∃m,W m σ H)∧∀m σ H,W m σ H→
 c σ H fun b H1=>if b=true then ∃N:St→Hp→Prop,(∀σ' H',N σ' H'→∃m',m' < m∧W m' σ' H')∧tb {D with nx:=N,ct:=N,bk:=D.nx} σ H1 else D.nx σ H1
theorem LI {c:Expr} {body:List Stmt} {tc:TT} {tb:TS} (hp:PassesOwn (model X.prog X.w) X.A X.env X.xe) (hc:PT X c tc) (hb:PSs X body tb):PS X (.While c body [] pos) (Oj tc tb):=by
 intro pins s σ H D I h
 obtain ⟨W,⟨m0,w0⟩,turn⟩:=h
 refine wpAny_While (codeAny_whileLoop (fun n s'=>∃σ' H',Inv X pins σ' H' s'∧W n σ' H') ?_ m0 ⟨σ,H,I,w0⟩)
 rintro n s1 ⟨σ1,H1,I1,w1⟩
 refine wpAny_passesOwn hp (thn (hc pins s1 σ1 H1 _ I1 (turn n σ1 H1 w1)) fun b s2 ⟨H2,I2,q2⟩=>?_)
 cases b with
 | true=>
   obtain ⟨N,hN,q2⟩:=q2
   rw [if_pos rfl]
   refine wpAny_passesOwn hp (thn (hb pins s2 σ1 H2 _ I2 q2) fun f s3 q3=>?_)
   cases f with
   | next=>
     obtain ⟨σ3,H3,I3,n3⟩:=q3
     obtain ⟨m',hm,w3⟩:=hN σ3 H3 n3
     exact ⟨m',hm,σ3,H3,I3,w3⟩
   | cont=>
     obtain ⟨σ3,H3,I3,n3⟩:=q3
     obtain ⟨m',hm,w3⟩:=hN σ3 H3 n3
     exact ⟨m',hm,σ3,H3,I3,w3⟩
   | brk=>exact q3
   | ret v=>exact q3
 | false=>
   rw [if_neg Bool.false_ne_true]
   exact wpAny_execs_nil ⟨σ1,H2,I2,q2⟩
end
structure It where
 go:Nat→Hp→Prop
 yld:Nat→Hp→V→Hp→Prop
 stop:Nat→Hp→Prop
def FpOk (X:Cx) (pins:List (Addr×Obj)) (H:Hp) (b:Addr):Prop:=
 H b=none∧b≠X.env.locals∧b∉X.fs∧(b∈X.ex∨X.s₀.heap.objs.size≤b)∧(∀x c,X.env.cells.lookup x=some c→c≠b)∧∀p∈X.pn++pins,p.1≠b
theorem Inv.fpOk {X:Cx} {pins:List (Addr×Obj)} {σ:St} {H H':Hp} {s:Shared} {b:Addr} (I:Inv X pins σ H s) (hb:s.heap.objs.size≤b) (hn:H' b=none):FpOk X pins H' b:=by
 refine ⟨hn,Nat.ne_of_gt (Nat.lt_of_lt_of_le I.lt hb),I.nofs hb,.inr (Nat.le_trans I.sz hb),fun x c e z=>?_,fun p hp z=>?_⟩
 ·obtain ⟨v,q⟩:=I.cell x c e
  exact absurd (Nat.lt_of_lt_of_le q.lt (by rw [z];exact hb)) (Nat.lt_irrefl _)
 ·exact absurd (Nat.lt_of_lt_of_le (Heap.lt_size (I.pin p hp).1) (by rw [z];exact hb)) (Nat.lt_irrefl _)
structure Turn (P:Program) (w:World) (K:PySem.W.Frag) (tg:Expr) (J:It) (fp:List Addr) (it:Addr) (tn:Nat→Heap→Prop):Prop where
 mem:it∈fp
 obj:∀i h,tn i h→∀b∈fp,∃o,h.get? b=some o∧∀v,o.data≠.cell v
 keep:∀i h h',tn i h→(∀b∈fp,∀o,h.get? b=some o→h'.get? b=some o)→tn i h'
 item:∀(X:Cx),X.prog=P→X.w=w→X.K=K→X.calm=true→∀(i:Nat) (pins:List (Addr×Obj)) (s:Shared) (σ:St) (H:Hp) (E:Value→Shared→Prop),Inv X pins σ H s→(∀b∈fp,FpOk X pins H b)→tn i s.heap→J.go i H→
  wpAny (model P w) X.A (pyNext (.ref it)) (fun r s1=>∃u,r=some u∧
   wpAny (model P w) X.A (letOwnedTupleGo tg (.ref it) u) (fun _ s2=>∃x H',Inv X pins σ H' s2∧RelV x u∧J.yld i H x H'∧tn (i + 1) s2.heap∧∀b∈fp,H' b=none) E s1) E s
 done:∀(X:Cx),X.prog=P→X.w=w→X.K=K→X.calm=true→∀(i:Nat) (pins:List (Addr×Obj)) (s:Shared) (σ:St) (H:Hp) (E:Value→Shared→Prop),Inv X pins σ H s→(∀b∈fp,FpOk X pins H b)→tn i s.heap→J.stop i H→
  wpAny (model P w) X.A (pyNext (.ref it)) (fun r s1=>r=none∧Inv X pins σ H s1) E s
 self:∀(A:Around) (i:Nat) (s:Shared) (Q:Value→Shared→Prop) (E:Value→Shared→Prop),tn i s.heap→Q (.ref it) s→wpAny (model P w) A (pyIter (.ref it)) Q E s
abbrev TI:=St→Hp→(It→Hp→Prop)→Prop
def PIE (X:Cx) (pins:List (Addr×Obj)) (σ:St) (tg:Expr) (R:It→Hp→Prop) (itv:Value) (s2:Shared):Prop:=
 ∃(it:Addr) (fp:List Addr) (tn:Nat→Heap→Prop) (J:It) (H':Hp),itv=.ref it∧Inv X pins σ H' s2∧Turn X.prog X.w X.K tg J fp it tn∧tn 0 s2.heap∧(∀b∈fp,FpOk X pins H' b)∧R J H'
def PI (X:Cx) (tg iter:Expr) (wi:TI):Prop:=
 ∀(pins:List (Addr×Obj)) (s:Shared) (σ:St) (H:Hp) (R:It→Hp→Prop),Inv X pins σ H s→wi σ H R→
  wpAny (model X.prog X.w) X.A (eval iter X.env) (fun v s1=>wpAny (model X.prog X.w) X.A (pyIter v) (PIE X pins σ tg R) X.xe s1) X.xe s
theorem KS {M:Model} {A:Around} {E:Value→Shared→Prop} {s:Shared} {tg:Expr} {it:Addr} {u:Value} {o:Obj} {n:String} {vs:Array Value} {Q:Unit→Shared→Prop} (ho:s.heap.get? it=some o) (hc:o.cls=.type n) (hd:o.data=.fields vs)
  (hn:["enumerate","zip","dict_itemiterator","dict_reverseitemiterator","odict_iterator","itertools.zip_longest","itertools.pairwise"].contains n=false) (hQ:Q () s):wpAny M A (letOwnedTupleGo tg (.ref it) u) Q E s:=by
 unfold letOwnedTupleGo
 cases tg <;> first
  | exact wpAny_pure hQ
  | (cases u <;> first
    | exact wpAny_pure hQ
    | (refine wpAny_bind (wpAny_load ho ?_)
       rw [hc,hd]
       show wpAny M A (if (["enumerate","zip","dict_itemiterator","dict_reverseitemiterator","odict_iterator","itertools.zip_longest","itertools.pairwise"].contains n && vs[0]?==some (rawInt _))=true then _ else _) Q E s
       rw [if_neg (by intro h;rw [hn,Bool.false_and] at h;cases h)]
       exact wpAny_pure hQ))
def Itl (K:PySem.W.Frag) (a:Addr):It:=
 ⟨fun i H=>∃xs x,SqL K H a xs∧xs[i]?=some x,fun i H x H'=>H'=H∧∀xs,SqL K H a xs→xs[i]?=some x,fun i H=>∃xs,SqL K H a xs∧xs.length≤i⟩
def Itr (lo:Int) (n:Nat):It:=⟨fun i _=>i < n,fun i H x H'=>H'=H∧x=.int (lo + i),fun i _=>n≤i⟩
theorem JY {P:Program} {w:World} {K:PySem.W.Frag} {tg:Expr} (a it:Addr):Turn P w K tg (Itl K a) [it] it (fun i h=>h.IsListIter it a i) where
 mem:=by simp
 obj:=fun i h st b hb=>by
  have e:b=it:=by simpa using hb
  subst e
  obtain ⟨o,e,c,d⟩:=st
  exact ⟨o,e,fun v z=>by rw [d] at z;cases z⟩
 keep:=fun i h h' st k=>st.at fun o e=>k it (by simp) o e
 item:=by
  intro X hP hw hK hc i pins s σ H E I hf st hg
  subst hP hw hK
  obtain ⟨xs,x,hq,hx⟩:=hg
  obtain ⟨its,rv,p,hz⟩:=I.list hq
  obtain ⟨u,hu,ru⟩:=rv.get hx
  obtain ⟨f0,f1,f2,f3,f4,f5⟩:=hf it (by simp)
  refine wpAny_pyNext_list_item st p.isList (x:=u) (by simpa using hu) fun h' st' sb=>?_
  have I1:Inv X pins σ H {s with heap:=h'}:=I.turned (t':=s.toks) (fun b o hb e=>(sb.2 b hb).trans e) f0 f1 f3 f4 f5
  obtain ⟨o,e,c,d⟩:=id st'
  exact ⟨u,rfl,KS (s:={s with heap:=h'}) e c d (by decide) ⟨x,H,I1,ru,⟨rfl,fun ys hy=>by rw [I.list_inj hy hq];exact hx⟩,st',fun b hb=>(hf b hb).1⟩⟩
 done:=by
  intro X hP hw hK hc i pins s σ H E I hf st hg
  subst hP hw hK
  obtain ⟨xs,hq,hx⟩:=hg
  obtain ⟨its,rv,p,hz⟩:=I.list hq
  obtain ⟨f0,f1,f2,f3,f4,f5⟩:=hf it (by simp)
  have hl:=rv.length
  exact wpAny_pyNext_list_end (I.ok.hd hc) st p.isList (by simp;omega) fun h' eb=>⟨rfl,I.turned (t':=s.toks) (fun b o hb e=>eb b o hb e) f0 f1 f3 f4 f5⟩
 self:=fun _ _ _ _ _ st h=>wpAny_pyIter_listiter st h
theorem Ih {P:Program} {w:World} {K:PySem.W.Frag} {tg:Expr} (it:Addr) (lo:Int) (n:Nat):Turn P w K tg (Itr lo n) [it] it (fun i h=>IsRangeIter h it (lo + (i:Nat) * 1) ((n:Int) - (i:Nat)) 1) where
 mem:=by simp
 obj:=fun i h st b hb=>by
  have e:b=it:=by simpa using hb
  subst e
  exact ⟨_,st,fun v z=>by
   have z':Data.fields _=Data.cell v:=z
   cases z'⟩
 keep:=fun i h h' st k=>k it (by simp) _ st
 item:=by
  intro X hP hw hK hc i pins s σ H E I hf st hg
  subst hP hw hK
  obtain ⟨f0,f1,f2,f3,f4,f5⟩:=hf it (by simp)
  have W:=Walks.range (prog:=X.prog) (w:=X.w) (I.ok.hd hc) it lo 1 n
  refine W.item i s _ _ hg st fun v h' tk hv st' kk=>?_
  obtain ⟨t,rfl⟩:=hv
  have I1:Inv X pins σ H {s with heap:=h',toks:=tk}:=I.turned (fun b o hb e=>kk b o (by simpa using hb) e) f0 f1 f3 f4 f5
  refine ⟨_,rfl,KS (s:={s with heap:=h',toks:=tk}) (n:="range_iterator") st' rfl rfl (by decide) ⟨.int (lo + i),H,I1,⟨t,?_⟩,⟨rfl,rfl⟩,st',fun b hb=>(hf b hb).1⟩⟩
  rw [Int.mul_one]
 done:=by
  intro X hP hw hK hc i pins s σ H E I hf st hg
  subst hP hw hK
  obtain ⟨f0,f1,f2,f3,f4,f5⟩:=hf it (by simp)
  exact wpAny_pyNext_range_end (I.ok.hd hc) st (by have:n≤i:=hg;omega) fun h' eb=>⟨rfl,I.turned (t':=s.toks) (fun b o hb e=>eb b o hb e) f0 f1 f3 f4 f5⟩
 self:=fun _ _ _ _ _ st h=>wpAny_pyIter_rangeiter st h
section
variable {X:Cx} {tg:Expr}
def Q6 (K:PySem.W.Frag) (tl:TE):TI:=fun σ H R=>tl σ H fun x H1=>∃a,x=.ref a∧(∃xs,SqL K H1 a xs)∧R (Itl K a) H1
theorem IW {l:Expr} {tl:TE} (hl:PE X l tl):PI X tg l (Q6 X.K tl):=by
 intro pins s σ H R I h
 refine thn (hl pins s σ H _ I h) fun v s1 ⟨x,H1,I1,r1,q1⟩=>?_
 obtain ⟨a,e,⟨xs,hq⟩,q⟩:=q1
 subst e
 cases r1
 obtain ⟨its,rv,p,hz⟩:=I1.list hq
 refine wpAny_pyIter_list p.isList ?_
 refine ⟨s1.heap.objs.size,[s1.heap.objs.size],_,_,H1,rfl,I1.kept (t':=s1.toks) fun b o e=>Heap.get?_push_of_some _ e,JY a _,⟨_,Heap.get?_push_size _ rfl,rfl,rfl⟩,fun b hb=>?_,q⟩
 have e:b=s1.heap.objs.size:=by simpa using hb
 subst e
 exact I1.fpOk (Nat.le_refl _) (I1.hok.fresh (Nat.le_refl _))
theorem Hd {pins:List (Addr×Obj)} {σ:St} {H:Hp} {s:Shared} {R:It→Hp→Prop} {E:Value→Shared→Prop} {lo hi:Int} {t u v:Tok} {tk:Nat} (I:Inv X pins σ H s) (h1:-(2 ^ 62)≤lo) (h2:lo < 2 ^ 62) (h3:-(2 ^ 62)≤hi) (h4:hi < 2 ^ 62)
  (q:R (Itr lo (hi - lo).toNat) H):wpAny (model X.prog X.w) X.A (pyIter (.ref s.heap.objs.size)) (PIE X pins σ tg R) E {s with heap:=s.heap.push {cls:=.type "range",data:=.fields #[.int lo t,.int hi u,.int 1 v]},toks:=tk}:=by
 refine wpAny_pyIter_range (IsRange.new ..) (small_one h1 h2 h3 h4) ?_
 have I1:Inv X pins σ H {s with heap:=s.heap.push {cls:=.type "range",data:=.fields #[.int lo t,.int hi u,.int 1 v]},toks:=tk}:=I.kept fun b o e=>Heap.get?_push_of_some _ e
 refine ⟨(s.heap.push {cls:=.type "range",data:=.fields #[.int lo t,.int hi u,.int 1 v]}).objs.size,[(s.heap.push {cls:=.type "range",data:=.fields #[.int lo t,.int hi u,.int 1 v]}).objs.size],_,_,H,rfl,
  I1.kept (t':=tk) fun b o e=>Heap.get?_push_of_some _ e,Ih _ lo (hi - lo).toNat,?_,fun b hb=>?_,q⟩
 ·have e1:lo + ((0:Nat):Int) * 1=lo:=by simp
  have e2:(((hi - lo).toNat:Nat):Int) - ((0:Nat):Int)=Builtin.Range.rangeSize lo hi 1:=by rw [rangeSize_one];split <;> omega
  show IsRangeIter _ _ (lo + ((0:Nat):Int) * 1) ((((hi - lo).toNat:Nat):Int) - ((0:Nat):Int)) 1
  rw [e1,e2]
  exact Heap.get?_push_size _ rfl
 ·have e:b=(s.heap.push {cls:=.type "range",data:=.fields #[.int lo t,.int hi u,.int 1 v]}).objs.size:=by simpa using hb
  subst e
  exact I1.fpOk (Nat.le_refl _) (I1.hok.fresh (Nat.le_refl _))
def PH (ta:TA):TI:=fun σ H R=>ta σ H fun vs H1=>∃j:Int,vs=[.int j]∧-(2 ^ 62)≤j∧j < 2 ^ 62∧R (Itr 0 j.toNat) H1
def Q1 (ta:TA):TI:=fun σ H R=>ta σ H fun vs H1=>∃i j:Int,vs=[.int i,.int j]∧(-(2 ^ 62)≤i∧i < 2 ^ 62∧-(2 ^ 62)≤j∧j < 2 ^ 62)∧R (Itr i (j - i).toNat) H1
theorem DS {a:Expr} {ta:TA} {p pos:Pos} (hg:Gl X "range") (hm:X.mg "range"=none) (ha:PA X [a] ta) (hs:starEach [a] X.env=[(false,eval a X.env)]:=by rfl):PI X tg (.Call (.Name "range" p) [a] [] pos) (PH ta):=by
 intro pins s σ H R I h
 refine Call_ (Eb I hg hm boot_range (PyProof.Rows.callWith_type1 (thn (ha pos pins s σ H _ I h) fun us s1 ⟨vs,H1,I1,r1,q1⟩=>?_) hs rfl))
 obtain ⟨j,e,q1,q2,q⟩:=q1
 subst e
 cases r1 with
 | cons r rr=>
   cases rr
   obtain ⟨t,rfl⟩:=r
   exact call_range_1 (Hd I1 (by omega) (by omega) q1 q2 (by simpa using q))
theorem JO {a b:Expr} {ta:TA} {p pos:Pos} (hg:Gl X "range") (hm:X.mg "range"=none) (ha:PA X [a,b] ta) (hs:starEach [a,b] X.env=[(false,eval a X.env),(false,eval b X.env)]:=by rfl) (hs2:starEach [b] X.env=[(false,eval b X.env)]:=by rfl):
  PI X tg (.Call (.Name "range" p) [a,b] [] pos) (Q1 ta):=by
 intro pins s σ H R I h
 refine Call_ (Eb I hg hm boot_range (PyProof.Rows.callWith_type1 (thn (ha pos pins s σ H _ I h) fun us s1 ⟨vs,H1,I1,r1,q1⟩=>?_) (by rw [hs,hs2]) (by rw [hs2];rfl)))
 obtain ⟨i,j,e,⟨q1,q2,q3,q4⟩,q⟩:=q1
 subst e
 cases r1 with
 | cons r rr=>
   cases rr with
   | cons r' rr=>
     cases rr
     obtain ⟨t,rfl⟩:=r
     obtain ⟨t',rfl⟩:=r'
     exact call_range_2 (Hd I1 q1 q2 q3 q4 q)
def tFor (wi:TI) (g:TG) (tb:TS):TS:=fun D σ H=>wi σ H fun J H1=>∃W:Nat→Nat→St→Hp→Prop,(∃m,W 0 m σ H1)∧∀i m σ H,W i m σ H→
 (J.stop i H∧D.nx σ H)∨(J.go i H∧∃N:St→Hp→Prop,(∀σ' H',N σ' H'→∃m',m' < m∧W (i + 1) m' σ' H')∧∀x H',J.yld i H x H'→g x σ H' fun σ2 H2=>tb {D with nx:=N,ct:=N,bk:=D.nx} σ2 H2)
def Fp (fp:List Addr) (h:Heap):List (Addr×Obj):=fp.filterMap fun b=>(h.get? b).map fun o=>(b,o)
theorem Cr {fp:List Addr} {h:Heap} {b:Addr} {o:Obj} (hb:b∈fp) (e:h.get? b=some o):(b,o)∈Fp fp h:=List.mem_filterMap.mpr ⟨b,hb,by rw [e];rfl⟩
theorem Kj {fp:List Addr} {h:Heap} {p:Addr×Obj} (hp:p∈Fp fp h):p.1∈fp∧h.get? p.1=some p.2:=by
 obtain ⟨b,hb,e⟩:=List.mem_filterMap.mp hp
 cases q:h.get? b with
 | none=>rw [q] at e;cases e
 | some o=>
   rw [q] at e
   have e':(b,o)=p:=Option.some.inj e
   subst e'
   exact ⟨hb,q⟩
theorem Inv.pinned {pins:List (Addr×Obj)} {σ:St} {H:Hp} {s:Shared} {fp:List Addr} (I:Inv X pins σ H s) (hf:∀b∈fp,FpOk X pins H b) (ho:∀b∈fp,∃o,s.heap.get? b=some o∧∀v,o.data≠.cell v):Inv X (pins++Fp fp s.heap) σ H s:=
 I.pins_of fun p hp=>(List.mem_append.mp hp).elim (fun z=>I.pin p (List.mem_append_right _ z)) fun z=>by
   obtain ⟨hb,e⟩:=Kj z
   obtain ⟨f0,f1,f2,_⟩:=hf p.1 hb
   obtain ⟨o,e',d⟩:=ho p.1 hb
   rw [e] at e';cases e'
   exact ⟨e,f0,f1,f2,d⟩
theorem Inv.unpinned {pins pl:List (Addr×Obj)} {σ:St} {H:Hp} {s:Shared} (I:Inv X (pins++pl) σ H s):Inv X pins σ H s:=I.pins_of fun p hp=>I.pin p (List.mem_append_right _ (List.mem_append_left _ hp))
theorem Gn {iter:Expr} {body:List Stmt} {wi:TI} {g:TG} {tb:TS} {pos:Pos} (hp:PassesOwn (model X.prog X.w) X.A X.env X.xe) (hc:X.calm=true) (hi:PI X tg iter wi) (hg:PG X tg g) (hb:PSs X body tb)
  (hs:∀x,foldedSetIterable iter X.env x=pure x:=by intro _;rfl):PS X (.For tg iter body [] pos) (tFor wi g tb):=by
 intro pins s σ H D I h
 refine wpAny_For (thn (hi pins s σ H _ I h) fun v s1 h1=>thn h1 fun itv s2 h2=>?_) hs
 obtain ⟨it,fp,tn,J,H2,e,I2,T,st2,f2,W,⟨m0,w0⟩,turn⟩:=h2
 subst e
 have stat:∀{H':Hp},(∀b∈fp,H' b=none)→∀b∈fp,FpOk X pins H' b:=fun hn b hb=>⟨hn b hb,(f2 b hb).2⟩
 refine codeAny_forLoop_any (fun n s'=>∃i σ' H',Inv X pins σ' H' s'∧tn i s'.heap∧(∀b∈fp,H' b=none)∧W i n σ' H') ?_ m0 ⟨0,σ,H2,I2,st2,fun b hb=>(f2 b hb).1,w0⟩
 rintro n s3 ⟨i,σ3,H3,I3,st3,fr3,w3⟩
 rcases turn i n σ3 H3 w3 with ⟨stop,qn⟩ | ⟨go,N,hN,step⟩
 ·refine wpAny_passesOwn hp (thn (T.done X rfl rfl rfl hc i pins s3 σ3 H3 X.xe I3 (stat fr3) st3 stop) fun r s4 ⟨hr,I4⟩=>?_)
  subst hr
  exact wpAny_execs_nil ⟨σ3,H3,I4,qn⟩
 ·refine wpAny_passesOwn hp (thn (T.item X rfl rfl rfl hc i pins s3 σ3 H3 X.xe I3 (stat fr3) st3 go) fun r s4 ⟨u,hr,h4⟩=>?_)
  subst hr
  refine wpAny_passesOwn hp (thn h4 fun _ s5 ⟨x,H5,I5,r5,y5,st5,fr5⟩=>?_)
  have I5':=I5.pinned (stat fr5) (T.obj _ _ st5)
  refine wpAny_passesOwn hp (thn (hg _ s5 σ3 H5 x u _ I5' r5 (step x H5 y5)) fun _ s6 ⟨σ6,H6,I6,q6⟩=>?_)
  refine wpAny_passesOwn hp (thn (hb _ s6 σ6 H6 _ I6 q6) fun f s7 q7=>?_)
  have again:∀{σ7:St} {H7:Hp},Inv X (pins++Fp fp s5.heap) σ7 H7 s7→N σ7 H7→∃m,m < n∧∃i σ' H',Inv X pins σ' H' s7∧tn i s7.heap∧(∀b∈fp,H' b=none)∧W i m σ' H':=fun {σ7 H7} I7 n7=>by
   obtain ⟨m',hm,w7⟩:=hN σ7 H7 n7
   refine ⟨m',hm,i + 1,σ7,H7,I7.unpinned,T.keep _ _ _ st5 fun b hb o e=>(I7.pin (b,o) (List.mem_append_right _ (List.mem_append_right _ (Cr hb e)))).1,fun b hb=>?_,w7⟩
   obtain ⟨o,e,d⟩:=T.obj _ _ st5 b hb
   exact (I7.pin (b,o) (List.mem_append_right _ (List.mem_append_right _ (Cr hb e)))).2.1
  cases f with
  | next=>obtain ⟨σ7,H7,I7,n7⟩:=q7;exact again I7 n7
  | cont=>obtain ⟨σ7,H7,I7,n7⟩:=q7;exact again I7 n7
  | brk=>obtain ⟨σ7,H7,I7,q7⟩:=q7;exact ⟨σ7,H7,I7.unpinned,q7⟩
  | ret v=>obtain ⟨x7,σ7,H7,I7,r7,q7⟩:=q7;exact ⟨x7,σ7,H7,I7.unpinned,r7,q7⟩
end
theorem Ls {K:PySem.W.Frag} {a:Addr} {xs:List V} {g:TG} {tb:TS} {D:Ends} {σ:St} {H:Hp} (Pv:Nat→St→Hp→Prop) (h0:Pv 0 σ H) (hl:∀i σ H,i≤xs.length→Pv i σ H→SqL K H a xs)
  (hs:∀i x σ H,xs[i]?=some x→Pv i σ H→g x σ H fun σ2 H2=>tb {D with nx:=Pv (i + 1),ct:=Pv (i + 1),bk:=D.nx} σ2 H2) (hd:∀σ H,Pv xs.length σ H→D.nx σ H):
  ∃W:Nat→Nat→St→Hp→Prop,(∃m,W 0 m σ H)∧∀i m σ H,W i m σ H→
   ((Itl K a).stop i H∧D.nx σ H)∨((Itl K a).go i H∧∃N:St→Hp→Prop,(∀σ' H',N σ' H'→∃m',m' < m∧W (i + 1) m' σ' H')∧∀x H',(Itl K a).yld i H x H'→g x σ H' fun σ2 H2=>tb {D with nx:=N,ct:=N,bk:=D.nx} σ2 H2):=by
 refine ⟨fun i m σ H=>m=xs.length - i∧i≤xs.length∧Pv i σ H,⟨xs.length,by simp,Nat.zero_le _,h0⟩,?_⟩
 rintro i m σ H ⟨rfl,hi,p⟩
 have q:=hl i σ H hi p
 by_cases hlt:i < xs.length
 ·refine .inr ⟨⟨xs,xs[i],q,by simp [hlt]⟩,Pv (i + 1),fun σ' H' p'=>⟨xs.length - (i + 1),by omega,rfl,hlt,p'⟩,fun x H' y=>?_⟩
  obtain ⟨e,y⟩:=y
  subst e
  exact hs i x σ _ (y xs q) p
 ·have e:i=xs.length:=by omega
  subst e
  exact .inl ⟨⟨xs,q,Nat.le_refl _⟩,hd σ H p⟩
theorem FS {lo:Int} {n:Nat} {g:TG} {tb:TS} {D:Ends} {σ:St} {H:Hp} (Pv:Nat→St→Hp→Prop) (h0:Pv 0 σ H)
  (hs:∀i σ H,i < n→Pv i σ H→g (.int (lo + i)) σ H fun σ2 H2=>tb {D with nx:=Pv (i + 1),ct:=Pv (i + 1),bk:=D.nx} σ2 H2) (hd:∀σ H,Pv n σ H→D.nx σ H):
  ∃W:Nat→Nat→St→Hp→Prop,(∃m,W 0 m σ H)∧∀i m σ H,W i m σ H→
   ((Itr lo n).stop i H∧D.nx σ H)∨((Itr lo n).go i H∧∃N:St→Hp→Prop,(∀σ' H',N σ' H'→∃m',m' < m∧W (i + 1) m' σ' H')∧∀x H',(Itr lo n).yld i H x H'→g x σ H' fun σ2 H2=>tb {D with nx:=N,ct:=N,bk:=D.nx} σ2 H2):=by
 refine ⟨fun i m σ H=>m=n - i∧i≤n∧Pv i σ H,⟨n,by simp,Nat.zero_le _,h0⟩,?_⟩
 rintro i m σ H ⟨rfl,hi,p⟩
 by_cases hlt:i < n
 ·refine .inr ⟨hlt,Pv (i + 1),fun σ' H' p'=>⟨n - (i + 1),by omega,rfl,hlt,p'⟩,fun x H' y=>?_⟩
  obtain ⟨e,y⟩:=y
  subst e y
  exact hs i σ _ hlt p
 ·have e:i=n:=by omega
  subst e
  exact .inl ⟨Nat.le_refl _,hd σ H p⟩
abbrev R2:=V→V→Hp→VK→Prop
def OpR (X:Cx) (f:Value→Value→Sem Value) (r:R2):Prop:=
 ∀(pins:List (Addr×Obj)) (s:Shared) (σ:St) (H:Hp) (x y:V) (v u:Value) (Q:VK),Inv X pins σ H s→RelV x v→RelV y u→r x y H Q→
  wpAny (model X.prog X.w) X.A (f v u) (EP X pins σ Q) X.xe s
def UnR (X:Cx) (f:Value→Sem Value) (r:V→Hp→VK→Prop):Prop:=
 ∀(pins:List (Addr×Obj)) (s:Shared) (σ:St) (H:Hp) (x:V) (v:Value) (Q:VK),Inv X pins σ H s→RelV x v→r x H Q→
  wpAny (model X.prog X.w) X.A (f v) (EP X pins σ Q) X.xe s
def CallR (X:Cx) (f:Value) (r:List V→Hp→VK→Prop):Prop:=
 ∀(pins:List (Addr×Obj)) (s:Shared) (σ:St) (H:Hp) (xs:List V) (us:List Value) (Q:VK),Inv X pins σ H s→Vals xs us→r xs H Q→
  wpAny (model X.prog X.w) X.A (call f us) (EP X pins σ Q) X.xe s
def tOp (r:R2) (ta tb:TE):TE:=fun σ H Q=>ta σ H fun x H1=>tb σ H1 fun y H2=>r x y H2 Q
def tUn (r:V→Hp→VK→Prop) (ta:TE):TE:=fun σ H Q=>ta σ H fun x H1=>r x H1 Q
def rI (C:Int→Int→Prop) (g:Int→Int→V):R2:=fun x y H Q=>∃i j,x=.int i∧y=.int j∧C i j∧Q (g i j) H
def rI0 (g:Int→Int→V):R2:=fun x y H Q=>∃i j,x=.int i∧y=.int j∧Q (g i j) H
def rU (g:Int→V):V→Hp→VK→Prop:=fun x H Q=>∃i,x=.int i∧Q (g i) H
section
variable {X:Cx} {a b c:Expr} {ta tb tc:TE} {pos:Pos}
theorem binT (ha:PE X a ta) (hb:PE X b tb) {pins:List (Addr×Obj)} {s:Shared} {σ:St} {H:Hp} {R:V→V→Hp→Prop} (I:Inv X pins σ H s)
  (h:ta σ H fun x H1=>tb σ H1 fun y H2=>R x y H2) {Q:Value→Shared→Prop} {f:Value→Value→Sem Value}
  (hf:∀v u s2 x y H2,Inv X pins σ H2 s2→RelV x v→RelV y u→R x y H2→wpAny (model X.prog X.w) X.A (f v u) Q X.xe s2):
  wpAny (model X.prog X.w) X.A (eval a X.env) (fun v s₁=>wpAny (model X.prog X.w) X.A (eval b X.env) (fun u s₂=>wpAny (model X.prog X.w) X.A (f v u) Q X.xe s₂) X.xe s₁) X.xe s:=by
 refine thn (ha pins s σ H _ I h) fun v s1 ⟨x,H1,I1,r1,q1⟩=>?_
 refine thn (hb pins s1 σ H1 _ I1 q1) fun u s2 ⟨y,H2,I2,r2,q2⟩=>?_
 exact hf v u s2 x y H2 I2 r1 r2 q2
theorem NH {op:Operator} {r:R2} (ho:OpR X (binaryOp op) r) (ha:PE X a ta) (hb:PE X b tb):PE X (.BinOp a op b pos) (tOp r ta tb):=by
 intro pins s σ H Q I h
 exact wpAny_BinOp (binT ha hb I h fun v u s2 x y H2 I2 rx ry q=>ho pins s2 σ H2 x y v u Q I2 rx ry q)
theorem Qf {op:UnaryOp} {r:V→Hp→VK→Prop} (ho:UnR X (unaryOp op) r) (ha:PE X a ta):PE X (.UnaryOp op a pos) (tUn r ta):=by
 intro pins s σ H Q I h
 exact UnaryOp_ (thn (ha pins s σ H _ I h) fun v s1 ⟨x,H1,I1,r1,q1⟩=>ho pins s1 σ H1 x v Q I1 r1 q1)
theorem opI {f:Value→Value→Sem Value} {C:Int→Int→Prop} {g:Int→Int→Int}
  (rule:∀(i j:Int) (t u:Tok) (s:Shared) (Q:Value→Shared→Prop) (E:Value→Shared→Prop),C i j→Q (.int (g i j) s.toks) {s with toks:=s.toks + 1}→wpAny (model X.prog X.w) X.A (f (.int i t) (.int j u)) Q E s):
  OpR X f (rI C fun i j=>.int (g i j)):=by
 intro pins s σ H x y v u Q I rx ry h
 obtain ⟨i,j,rfl,rfl,hc,q⟩:=h
 obtain ⟨t,rfl⟩:=rx
 obtain ⟨t',rfl⟩:=ry
 exact rule i j t t' s _ _ hc ⟨.int (g i j),H,I.tok _,⟨_,rfl⟩,q⟩
theorem opI0 {f:Value→Value→Sem Value} {g:Int→Int→Int}
  (rule:∀(i j:Int) (t u:Tok) (s:Shared) (Q:Value→Shared→Prop) (E:Value→Shared→Prop),Q (.int (g i j) s.toks) {s with toks:=s.toks + 1}→wpAny (model X.prog X.w) X.A (f (.int i t) (.int j u)) Q E s):
  OpR X f (rI0 fun i j=>.int (g i j)):=by
 intro pins s σ H x y v u Q I rx ry h
 obtain ⟨i,j,rfl,rfl,q⟩:=h
 obtain ⟨t,rfl⟩:=rx
 obtain ⟨t',rfl⟩:=ry
 exact rule i j t t' s _ _ ⟨.int (g i j),H,I.tok _,⟨_,rfl⟩,q⟩
theorem opB0 {f:Value→Value→Sem Value} {g:Int→Int→Bool}
  (rule:∀(i j:Int) (t u:Tok) (s:Shared) (Q:Value→Shared→Prop) (E:Value→Shared→Prop),Q (.bool (g i j)) s→wpAny (model X.prog X.w) X.A (f (.int i t) (.int j u)) Q E s):
  OpR X f (rI0 fun i j=>.bl (g i j)):=by
 intro pins s σ H x y v u Q I rx ry h
 obtain ⟨i,j,rfl,rfl,q⟩:=h
 obtain ⟨t,rfl⟩:=rx
 obtain ⟨t',rfl⟩:=ry
 exact rule i j t t' s _ _ ⟨.bl (g i j),H,I,rfl,q⟩
def CDiv (i j:Int):Prop:=0 < j∧j < 1073741824
def CPow (i j:Int):Prop:=0≤j∧j≤1000000∧i.natAbs < 2 ^ 64
def CMul (i j:Int):Prop:=(-(2 ^ 64) < i∧i < 2 ^ 64)∨(-(2 ^ 64) < j∧j < 2 ^ 64)
theorem CMul.ok {i j:Int} (h:CMul i j):IntMulOk i j:=by
 rcases h with ⟨h1,h2⟩ | ⟨h1,h2⟩
 ·exact .of_left (intBits_le_64 h1 h2)
 ·exact .of_right (intBits_le_64 h1 h2)
theorem Ow:OpR X (binaryOp .Add) (rI0 fun i j=>.int (i + j)):=opI0 fun _ _ _ _ _ _ _ q=>add_int q
theorem P6:OpR X (binaryOp .Sub) (rI0 fun i j=>.int (i - j)):=opI0 fun _ _ _ _ _ _ _ q=>sub_int q
theorem OK:OpR X (binaryOp .Mult) (rI CMul fun i j=>.int (i * j)):=opI fun _ _ _ _ _ _ _ hc q=>mul_int q hc.ok
theorem ML:OpR X (binaryOp .FloorDiv) (rI CDiv fun i j=>.int (i / j)):=opI fun i j _ _ _ _ _ hc q=>by
 have h1:(0:Int) < j:=hc.1
 have h2:j < 1073741824:=hc.2
 exact floordiv_int (by omega) (by rw [Int.fdiv_eq_ediv_of_nonneg i (by omega)];exact q) (.inl (PyProof.noPylong_small (by omega)))
theorem OX:OpR X (binaryOp .Mod) (rI (fun _ j=>0 < j) fun i j=>.int (i % j)):=opI fun i j _ _ _ _ _ hc q=>by
 have h1:(0:Int) < j:=hc
 exact mod_int' (by omega) (by rw [Int.fmod_eq_emod_of_nonneg i (by omega)];exact q)
theorem Pp:OpR X (binaryOp .Pow) (rI CPow fun i j=>.int (i ^ j.toNat)):=opI fun _ _ _ _ _ _ _ hc q=>pow_int_small hc.1 hc.2.1 hc.2.2 q
theorem Om:OpR X (binaryOp .BitAnd) (rI0 fun i j=>.int (Builtin.bitAnd i j)):=opI0 fun _ _ _ _ _ _ _ q=>and_int q
theorem Oc:OpR X (binaryOp .BitXor) (rI0 fun i j=>.int (Builtin.bitXor i j)):=opI0 fun _ _ _ _ _ _ _ q=>xor_int q
theorem unI {f:Value→Sem Value} {g:Int→Int}
  (rule:∀(i:Int) (t:Tok) (s:Shared) (Q:Value→Shared→Prop) (E:Value→Shared→Prop),Q (.int (g i) s.toks) {s with toks:=s.toks + 1}→wpAny (model X.prog X.w) X.A (f (.int i t)) Q E s):
  UnR X f (rU fun i=>.int (g i)):=by
 intro pins s σ H x v Q I rx h
 obtain ⟨i,rfl,q⟩:=h
 obtain ⟨t,rfl⟩:=rx
 exact rule i t s _ _ ⟨.int (g i),H,I.tok _,⟨_,rfl⟩,q⟩
theorem OS:UnR X (unaryOp .USub) (rU fun i=>.int (-i)):=unI fun _ _ _ _ _ q=>neg_int q
theorem Ph {pins:List (Addr×Obj)} {σ:St} {H:Hp} {s:Shared} {Q:VK} {k k':Bool} (I:Inv X pins σ H s) (q:Q (.bl k) H) (e:k=k'):EP X pins σ Q (.bool k') s:=by
 subst e
 exact ⟨.bl k,H,I,rfl,q⟩
theorem QB:OpR X (compareOp .Lt) (rI0 fun i j=>.bl (decide (i < j))):=opB0 fun _ _ _ _ _ _ _ q=>lt_int q
theorem PJ:OpR X (compareOp .LtE) (rI0 fun i j=>.bl (decide (i≤j))):=opB0 fun _ _ _ _ _ _ _ q=>le_int q
theorem Q5:OpR X (compareOp .Gt) (rI0 fun i j=>.bl (decide (j < i))):=opB0 fun _ _ _ _ _ _ _ q=>gt_int q
theorem QF:OpR X (compareOp .GtE) (rI0 fun i j=>.bl (decide (j≤i))):=opB0 fun _ _ _ _ _ _ _ q=>ge_int q
theorem op_in_str:OpR X (compareOp .In) (fun x y H Q=>∃i j,x=.str i∧y=.str j∧Q (.bl (!(Builtin.Str.occurrences j i 0 j.length 1).isEmpty)) H):=by
 intro pins s σ H x y v u Q I rx ry h
 obtain ⟨i,j,rfl,rfl,q⟩:=h
 obtain ⟨t,rfl⟩:=rx
 obtain ⟨t',rfl⟩:=ry
 exact in_str (Ph I q rfl)
theorem Ak (b:Expr) {op:CmpOp} (h:op≠.In:=by decide) (h2:op≠.NotIn:=by decide):behindInMarks op b=false:=by
 have e1:(op==CmpOp.In)=false:=by cases op <;> first | rfl | exact absurd rfl h
 have e2:(op==CmpOp.NotIn)=false:=by cases op <;> first | rfl | exact absurd rfl h2
 cases b <;> simp [behindInMarks,e1,e2]
theorem Mw {op:CmpOp} {r:R2} (ho:OpR X (compareOp op) r) (ha:PE X a ta) (hb:PE X b tb) (hm:behindInMarks op b=false):PE X (.Compare a [op] [b] pos) (tOp r ta tb):=by
 intro pins s σ H Q I h
 exact wpAny_Compare1 (binT ha hb I h fun v u s2 x y H2 I2 rx ry q=>ho pins s2 σ H2 x y v u Q I2 rx ry q) hm
def Nw (t:TE):TT:=fun σ H Q=>t σ H fun x H'=>∃k,x=.bl k∧Q k H'
theorem M6 {op:CmpOp} {r:R2} (ho:OpR X (compareOp op) r) (ha:PE X a ta) (hb:PE X b tb) (hm:behindInMarks op b=false):PT X (.Compare a [op] [b] pos) (Nw (tOp r ta tb)):=by
 intro pins s σ H Q I h
 refine wpAny_isTrue_Compare1 (thn (ha pins s σ H _ I h) fun v s1 ⟨x,H1,I1,r1,q1⟩=>thn (hb pins s1 σ H1 _ I1 q1) fun u s2 ⟨y,H2,I2,r2,q2⟩=>
  thn (ho pins s2 σ H2 x y v u _ I2 r1 r2 q2) fun c s3 ⟨z,H3,I3,r3,k,e,q3⟩=>?_) hm
 subst e
 cases r3
 exact wpAny_truthy_bool ⟨H3,I3,q3⟩
def L3 (r r':R2) (ta tb tc:TE):TE:=fun σ H Q=>ta σ H fun x H1=>tb σ H1 fun y H2=>r x y H2 fun z H3=>∃k,z=.bl k∧
 (if k=true then tc σ H3 fun w' H4=>r' y w' H4 Q else Q (.bl false) H3)
theorem Ma {op op':CmpOp} {r r':R2} (ho:OpR X (compareOp op) r) (ho':OpR X (compareOp op') r') (ha:PE X a ta) (hb:PE X b tb) (hc:PE X c tc)
  (hm:lastMarks [op,op'] [b,c]=false:=by with_unfolding_all rfl):PE X (.Compare a [op,op'] [b,c] pos) (L3 r r' ta tb tc):=by
 intro pins s σ H Q I h
 refine Compare_chain (thn (ha pins s σ H _ I h) fun v s1 ⟨x,H1,I1,r1,q1⟩=>chain_link (thn (hb pins s1 σ H1 _ I1 q1) fun u s2 ⟨y,H2,I2,r2,q2⟩=>
  thn (ho pins s2 σ H2 x y v u _ I2 r1 r2 q2) fun d s3 ⟨z,H3,I3,r3,k,e,q3⟩=>?_)) hm
 subst e
 cases r3
 refine wpAny_truthy_bool ?_
 cases k with
 | false=>exact ite_ff ⟨.bl false,H3,I3,rfl,q3⟩
 | true=>exact ite_tt (chain_last (thn (hc pins s3 σ H3 _ I3 q3) fun w' s4 ⟨z',H4,I4,r4,q4⟩=>ho' pins s4 σ H4 y z' u w' Q I4 r2 r4 q4))
theorem LW {op op':CmpOp} {r r':R2} (ho:OpR X (compareOp op) r) (ho':OpR X (compareOp op') r') (ha:PE X a ta) (hb:PE X b tb) (hc:PE X c tc)
  (hm:lastMarks [op,op'] [b,c]=false:=by with_unfolding_all rfl):PT X (.Compare a [op,op'] [b,c] pos) (Nw (L3 r r' ta tb tc)):=by
 intro pins s σ H Q I h
 refine isTrue_chain (thn (ha pins s σ H _ I h) fun v s1 ⟨x,H1,I1,r1,q1⟩=>test_link (thn (hb pins s1 σ H1 _ I1 q1) fun u s2 ⟨y,H2,I2,r2,q2⟩=>
  thn (ho pins s2 σ H2 x y v u _ I2 r1 r2 q2) fun d s3 ⟨z,H3,I3,r3,k,e,q3⟩=>?_)) hm
 subst e
 cases r3
 refine wpAny_truthy_bool ?_
 cases k with
 | false=>
   obtain ⟨k',e',q'⟩:=q3
   cases e'
   exact ite_ff ⟨H3,I3,q'⟩
 | true=>
   refine ite_tt (test_last (thn (hc pins s3 σ H3 _ I3 q3) fun w' s4 ⟨z',H4,I4,r4,q4⟩=>thn (ho' pins s4 σ H4 y z' u w' _ I4 r2 r4 q4) fun d' s5 ⟨z2,H5,I5,r5,k2,e2,q5⟩=>?_))
   subst e2
   cases r5
   exact wpAny_truthy_bool ⟨H5,I5,q5⟩
theorem EM:(sizeLine:Nat) < 2 ^ 63:=by rw [sizeLine_eq];decide
theorem vals1 {x:V} {us:List Value} (r:Vals [x] us):∃u,us=[u]∧RelV x u:=by
 cases r with
 | cons r1 r2=>cases r2;exact ⟨_,rfl,r1⟩
theorem vals2 {x y:V} {us:List Value} (r:Vals [x,y] us):∃u w',us=[u,w']∧RelV x u∧RelV y w':=by
 cases r with
 | cons r1 r2=>
   cases r2 with
   | cons r3 r4=>cases r4;exact ⟨_,_,rfl,r1,r3⟩
theorem Kf (hc:X.calm=true):CallR X (.builtin "max") (fun xs H Q=>∃i j,xs=[.int i,.int j]∧Q (.int (if j > i then j else i)) H):=by
 intro pins s σ H xs us Q I r h
 obtain ⟨i,j,rfl,q⟩:=h
 obtain ⟨u,w',rfl,⟨t,rfl⟩,⟨t',rfl⟩⟩:=vals2 r
 refine max_two_ints (I.ok.hd hc) fun h' tk k=>⟨_,H,I.kept k,?_,q⟩
 by_cases hj:j > i
 ·rw [if_pos hj,if_pos hj];exact ⟨_,rfl⟩
 ·rw [if_neg hj,if_neg hj];exact ⟨_,rfl⟩
theorem JW (hc:X.calm=true):CallR X (.builtin "min") (fun xs H Q=>∃i j,xs=[.int i,.int j]∧Q (.int (if j < i then j else i)) H):=by
 intro pins s σ H xs us Q I r h
 obtain ⟨i,j,rfl,q⟩:=h
 obtain ⟨u,w',rfl,⟨t,rfl⟩,⟨t',rfl⟩⟩:=vals2 r
 refine min_two_ints (I.ok.hd hc) fun h' tk k=>⟨_,H,I.kept k,?_,q⟩
 by_cases hj:j < i
 ·rw [if_pos hj,if_pos hj];exact ⟨_,rfl⟩
 ·rw [if_neg hj,if_neg hj];exact ⟨_,rfl⟩
theorem call_int1:CallR X (.type "int") (fun xs H Q=>(∃i,xs=[.int i]∧Q (.int i) H)∨∃k,xs=[.bl k]∧Q (.int (if k then 1 else 0)) H):=by
 intro pins s σ H xs us Q I r h
 rcases h with ⟨i,rfl,q⟩ | ⟨k,rfl,q⟩
 ·obtain ⟨u,rfl,t,rfl⟩:=vals1 r
  exact call_int_int ⟨.int i,H,I,⟨_,rfl⟩,q⟩
 ·obtain ⟨u,rfl,r1⟩:=vals1 r
  cases r1
  exact call_int_bool ⟨.int (if k then 1 else 0),H,I.tok _,⟨_,rfl⟩,q⟩
end
structure ObjM (h:Heap) (x dx C:Addr) (mA:Str→Option Value):Prop where
 obj:h.get? x=some (PySem.W.instObj C dx)
 ns:h.Ns1 dx mA
 ne:dx≠x
theorem J9 {h:Heap} {dx:Addr} {mA:Str→Option Value} (n:h.Ns1 dx mA):∃od,h.get? dx=some od∧∀name,PySem.W.lookIn name od=some (mA name):=by
 obtain ⟨o,es,ep,ho,hd,hk,_,hm⟩:=n
 refine ⟨o,ho,fun name=>?_⟩
 have e:=hm name
 unfold nsFind findBy at e
 rw [←Array.find?_toList] at e
 unfold PySem.W.lookIn
 rw [hd]
 dsimp only
 split
 ·rename_i y q
  rw [q] at e
  exact congrArg some e
 ·rename_i q
  rw [q] at e
  have a:es.toList.any (·.refKey)=false:=by
   rw [List.any_eq_false]
   intro y hy
   obtain ⟨z,t,hkey⟩:=hk y (Array.mem_toList_iff.mp hy)
   simp [DictEntry.refKey,hkey]
  have a':¬es.toList.any (·.refKey)=true:=by rw [a];exact Bool.false_ne_true
  rw [if_neg a']
  exact congrArg some e
theorem ObjM.look {h:Heap} {x dx C:Addr} {mA:Str→Option Value} (I:ObjM h x dx C mA):∃od,PySem.W.InstAt h x (PySem.W.instObj C dx) C (some od)∧∀name,PySem.W.lookIn name od=some (mA name):=
 let ⟨od,ho,hl⟩:=J9 I.ns
 ⟨od,⟨I.obj,rfl,rfl,ho⟩,hl⟩
section
variable {prog:Program} {w:World} {A:Around} {E:Value→Shared→Prop} {s:Shared} {K:PySem.W.Frag} {x dx C f:Addr} {mA:Str→Option Value} {name:Str} {v:Value}
theorem get_map {expr:Bool} {Q:Value→Shared→Prop} (X:K.In s.heap) (I:ObjM s.heap x dx C mA) (hg:PySem.W.plainGet K C name=true) (hh:PySem.W.hasDictIn K C=true)
  (ha:PySem.W.findIn K (.ref C) name=some none) (hv:mA name=some v) (hv':PySem.W.handedIn v=true) (h:Q v {s with toks:=s.toks + 1}):
  wpAny (model prog w) A (getAttr (.ref x) name expr) Q E s:=by
 obtain ⟨od,J,hl⟩:=I.look
 exact PySem.W.get_value X J (PySem.W.plainGet_of hg).1 (PySem.W.findObj_own hh ha rfl (by rw [hl,hv])) hv' h
theorem KB {pl:Sem Bool} {Q:Value×List Value→Shared→Prop} (X:K.In s.heap) (I:ObjM s.heap x dx C mA) (hg:PySem.W.plainGet K C name=true)
  (hf:PySem.W.findIn K (.ref C) name=some (some (.ref f))) (ht:PySem.W.isFn K (.ref f)=true) (hv:mA name=none) (h:Q (.ref f,[.ref x]) s):
  wpAny (model prog w) A (getMethod (.ref x) name pl) Q E s:=by
 obtain ⟨od,J,hl⟩:=I.look
 exact PySem.W.method_fn X J (PySem.W.plainGet_of hg).1 (PySem.W.plainGet_of hg).2 hf (beq_iff_eq.mp ht) (by show (PySem.W.lookIn name od).map (·.isSome)=some false;rw [hl,hv];rfl) h
theorem Ng {ns:List Str} {Q:Unit→Shared→Prop} (X:K.In s.heap) (I:ObjM s.heap x dx C mA)
  (hs:PySem.W.findIn K (.ref C) "__setattr__"=some (some (.builtin "object.__setattr__"))) (hp:PySem.W.plainOver K C=true) (ht:PySem.W.takerIn K C name=some none) (hh:PySem.W.hasDictIn K C=true)
  (hw:PySem.Within mA ns) (hsz:ns.length≤sizeLine)
  (h:∀h',ObjM h' x dx C (fun y=>if y=name then some v else mA y)→Heap.SameBut dx s.heap h'→Q () {s with heap:=h',toks:=s.toks + 2}):
  wpAny (model prog w) A (setAttr (.ref x) name v) Q E s:=by
 obtain ⟨od,J,hl⟩:=I.look
 refine PySem.W.set_plain X J hs (PySem.W.osa_open (s:={s with toks:=s.toks + 1}) (r:=none) X J hp ht fun b=>?_)
 obtain ⟨cd,hc,hd'⟩:=PySem.W.any_some hh
 have hx:s.heap.get? x=some ⟨.ref C,some dx,.plain,#[]⟩:=I.obj
 refine wpAny_bind (wpAny_pure (wpAny_bind (wpAny_bind (wpAny_loadPart hx (wpAny_bind (PySem.W.Looks.here (s:={s with toks:=s.toks + 1}) (PySem.W.looks_clsIn X hc) ?_))))))
 rw [hd']
 refine wpAny_pure (a:=some dx) (wpAny_bind (wpAny_pure (wpAny_bind ?_)))
 refine wpAny_nsSet1 (s:={s with toks:=s.toks + 1}) I.ns fun h' hn2 hs2=>?_
 obtain ⟨oD,esD,epD,hoD,hdD,hcD⟩:=hn2.count (PySem.Within.cons name v hw)
 refine wpAny_bind (wpAny_lookBehind hoD (by rw [hdD];exact pastItsLine_dict (Nat.le_trans hcD (by rw [List.length_cons];omega))) ?_)
 exact wpAny_pure (h _ ⟨(hs2.2 _ (Ne.symm I.ne)).trans I.obj,hn2,I.ne⟩ hs2)
theorem Md {R:Result→Shared→Prop} {vs:List Value} {kw:List (Str×Value)} (X:K.In s.heap) (hm:PySem.W.makesIn K C=true)
  (hi:PySem.W.findIn K (.ref C) "__init__"=some (some (.ref f))) (hf:PySem.W.typeIn K (.ref f)=some (.type "function"))
  (h:codeAny (model prog w) (A.under (.builtin "type.__call__" ⟨.ref C::vs,kw⟩)) (.call (.ref f) ⟨.ref (s.heap.objs.size + 1)::vs,kw⟩) (PySem.W.InitBack (s.heap.objs.size + 1) R)
   {s with heap:=(s.heap.push PySem.W.emptyDict).push (PySem.W.instObj C s.heap.objs.size)}):
  codeAny (model prog w) A (.call (.ref C) ⟨vs,kw⟩) R s:=by
 obtain ⟨hh,g,d,t,os⟩:=s
 exact PySem.W.make_core (PySem.W.makes_of X hm) (PySem.W.looks_findIn X hi) (fun self=>PySem.W.bind_fn X self hf) (.inl rfl) h
end
def putF (f:Str) (v:V):List (Str×V)→List (Str×V)
 | []=>[(f,v)]
 | (g,x)::r=>if g=f then (g,v)::r else (g,x)::putF f v r
theorem Az (f g:Str) (v:V):∀fs:List (Str×V),(putF f v fs).lookup g=if g=f then some v else fs.lookup g
 | []=>by
   show List.lookup g [(f,v)]=_
   by_cases h:g=f
   ·have hb:(g==f)=true:=beq_iff_eq.mpr h
    simp only [List.lookup,hb,if_pos h]
   ·have hb:(g==f)=false:=beq_eq_false_iff_ne.mpr h
    simp only [List.lookup,hb,if_neg h]
 | (k,x)::r=>by
   have ih:=Az f g v r
   rw [show putF f v ((k,x)::r)=(if k=f then (k,v)::r else (k,x)::putF f v r) from rfl]
   by_cases hk:k=f
   ·rw [if_pos hk]
    by_cases h:g=k
    ·have hb:(g==k)=true:=beq_iff_eq.mpr h
     simp only [List.lookup,hb,if_pos (h.trans hk)]
    ·have hb:(g==k)=false:=beq_eq_false_iff_ne.mpr h
     simp only [List.lookup,hb,if_neg (fun e:g=f=>h (e.trans hk.symm))]
   ·rw [if_neg hk]
    by_cases h:g=k
    ·have hb:(g==k)=true:=beq_iff_eq.mpr h
     simp only [List.lookup,hb,if_neg (fun e:g=f=>hk (h.symm.trans e))]
    ·have hb:(g==k)=false:=beq_eq_false_iff_ne.mpr h
     simp only [List.lookup,hb]
     exact ih
theorem Em (f:Str) (v:V):∀fs:List (Str×V),f∈(putF f v fs).map (·.1)∧∀g,g∈fs.map (·.1)→g∈(putF f v fs).map (·.1)
 | []=>⟨by simp [putF],fun g h=>by simp at h⟩
 | (k,x)::r=>by
   obtain ⟨i1,i2⟩:=Em f v r
   rw [show putF f v ((k,x)::r)=(if k=f then (k,v)::r else (k,x)::putF f v r) from rfl]
   by_cases hk:k=f
   ·rw [if_pos hk]
    subst hk
    exact ⟨by simp,fun g h=>by simpa using h⟩
   ·rw [if_neg hk]
    refine ⟨?_,fun g h=>?_⟩
    ·rw [List.map_cons]
     exact List.mem_cons_of_mem _ i1
    ·rw [List.map_cons] at h ⊢
     rcases List.mem_cons.mp h with e | e
     ·exact List.mem_cons.mpr (.inl e)
     ·exact List.mem_cons_of_mem _ (i2 g e)
theorem BR (f:Str) (v:V):∀fs:List (Str×V),(putF f v fs).length≤fs.length + 1
 | []=>by simp [putF]
 | (k,x)::r=>by
   have ih:=BR f v r
   rw [show putF f v ((k,x)::r)=(if k=f then (k,v)::r else (k,x)::putF f v r) from rfl]
   by_cases hk:k=f
   ·rw [if_pos hk,List.length_cons,List.length_cons];omega
   ·rw [if_neg hk,List.length_cons,List.length_cons];omega
theorem RelO.some_of {v:V} {o:Option Value} (r:RelO (some v) o):∃u,o=some u∧RelV v u:=by
 cases o with
 | none=>exact (show False from r).elim
 | some u=>exact ⟨u,rfl,r⟩
theorem RelO.none_of {o:Option Value} (r:RelO none o):o=none:=by
 cases o with
 | none=>rfl
 | some u=>exact (show False from r).elim
theorem JD {v:V} {u:Value} (r:RelV v u):PySem.W.handedIn u=true:=by
 cases v with
 | non=>cases (show u=Value.none from r);rfl
 | bl b=>cases (show u=Value.bool b from r);rfl
 | int i=>obtain ⟨t,e⟩:=(show ∃t,u=Value.int i t from r);cases e;rfl
 | str x=>obtain ⟨t,e⟩:=(show ∃t,u=Value.str x t from r);cases e;rfl
 | byt b=>obtain ⟨t,e⟩:=(show ∃t,u=Value.bytes b t from r);cases e;rfl
 | flt b=>obtain ⟨t,e⟩:=(show ∃t,u=Value.float b t from r);cases e;rfl
 | ref a=>cases (show u=Value.ref a from r);rfl
 | ty n=>cases (show u=Value.type n from r);rfl
section
variable {P:Program} {w:World} {H H':Hp} {h h':Heap} {a C dx:Addr} {fs fs':List (Str×V)}
theorem EB (hok:HOk P w H h) (e:H a=some (.ins C dx fs)):∃mA,ObjM h a dx C mA∧(∀f,RelO (fs.lookup f) (mA f))∧PySem.Within mA (fs.map (·.1))∧fs.length≤1000∧H dx=some (.own a):=by
 obtain ⟨d,z,ne,ob,mA,n,r,q⟩:=(show ObjOk P w H h a (.ins C dx fs) from hok a _ e)
 exact ⟨mA,⟨ob,n,ne⟩,r,q,z,d⟩
end
structure Cls (K:PySem.W.Frag) (C:Addr):Prop where
 pg:PySem.W.plainGet K C Str.empty=true
 hd:PySem.W.hasDictIn K C=true
 po:PySem.W.plainOver K C=true
 sa:PySem.W.findIn K (.ref C) "__setattr__"=some (some (.builtin "object.__setattr__"))
theorem Cls.get {K:PySem.W.Frag} {C:Addr} (c:Cls K C) (f:Str):PySem.W.plainGet K C f=true:=c.pg
def NoAttr (K:PySem.W.Frag) (C:Addr) (f:Str):Prop:=PySem.W.findIn K (.ref C) f=some none
theorem NoAttr.taker {K:PySem.W.Frag} {C:Addr} {f:Str} (n:NoAttr K C f):PySem.W.takerIn K C f=some none:=by
 unfold PySem.W.takerIn
 rw [show PySem.W.findIn K (.ref C) f=some none from n]
 rfl
structure Con (K:PySem.W.Frag) (C:Addr) (f:Str) (v:V) (u:Value):Prop where
 at_:PySem.W.findIn K (.ref C) f=some (some u)
 rel:RelV v u
 get:PySem.W.specialIn K u "__get__"=some none
 cp:PySem.W.copiedNames.contains f=false
structure Meth (K:PySem.W.Frag) (C:Addr) (m:Str) (f:Addr):Prop where
 at_:PySem.W.findIn K (.ref C) m=some (some (.ref f))
 fn:PySem.W.isFn K (.ref f)=true
 kp:PySem.W.keepIn K (.ref f)=true
section
variable {X:Cx} {pins:List (Addr×Obj)} {σ:St} {H:Hp} {s:Shared} {a C dx:Addr} {fs:List (Str×V)} {f:Str} {v:V} {A:Around} {E:Value→Shared→Prop}
theorem Fi {b:Bool} {Q:Value→Shared→Prop} (I:Inv X pins σ H s) (e:H a=some (.ins C dx fs)) (c:Cls X.K C) (n:NoAttr X.K C f) (l:fs.lookup f=some v)
  (h:∀u s',Inv X pins σ H s'→RelV v u→Q u s'):wpAny (model X.prog X.w) A (getAttr (.ref a) f b) Q E s:=by
 obtain ⟨mA,O,r,_,_,_⟩:=EB I.hok e
 obtain ⟨u,hu,ru⟩:=RelO.some_of (v:=v) (o:=mA f) (by rw [←l];exact r f)
 exact get_map I.kIn O (c.get f) c.hd n hu (JD ru) (h u _ (I.tok _) ru)
theorem E_ {m:Str} {g:Addr} {pl:Sem Bool} {Q:Value×List Value→Shared→Prop} (I:Inv X pins σ H s) (e:H a=some (.ins C dx fs)) (c:Cls X.K C) (k:Meth X.K C m g) (l:fs.lookup m=none)
  (h:Q (.ref g,[.ref a]) s):wpAny (model X.prog X.w) A (getMethod (.ref a) m pl) Q E s:=by
 obtain ⟨mA,O,r,_,_,_⟩:=EB I.hok e
 have hn:mA m=none:=RelO.none_of (by rw [←l];exact r m)
 exact KB I.kIn O (c.get m) k.at_ k.fn hn h
theorem EL {y:V} {u:Value} {Q:Unit→Shared→Prop} (I:Inv X pins σ H s) (e:H a=some (.ins C dx fs)) (c:Cls X.K C) (n:NoAttr X.K C f) (hl:fs.length < 1000) (ry:RelV y u)
  (h:∀s',Inv X pins σ (upd H a (.ins C dx (putF f y fs))) s'→Q () s'):wpAny (model X.prog X.w) A (setAttr (.ref a) f u) Q E s:=by
 obtain ⟨mA,O,r,wi,_,ho⟩:=EB I.hok e
 have hz:(fs.map (·.1)).length≤sizeLine:=by rw [List.length_map,sizeLine_eq];omega
 refine Ng I.kIn O c.sa c.po n.taker c.hd wi hz fun h' O' sb=>h _ ?_
 have hd:∃o,h'.get? dx=some o:=let ⟨o,_,_,e',_⟩:=O'.ns;⟨o,e'⟩
 refine I.write (x:=a) (e:=dx) (by rw [e];exact True.intro) (.inr ho) (fun b q hb z=>(sb.2 b hb).trans z) hd ?_
 refine ⟨by rw [Aj O.ne];exact ho,?_,O.ne,O'.obj,_,O'.ns,fun g=>?_,fun g hg=>?_⟩
 ·have:=BR f y fs;omega
 ·show RelO ((putF f y fs).lookup g) (if g=f then some u else mA g)
  rw [Az]
  by_cases q:g=f
  ·rw [if_pos q,if_pos q];exact ry
  ·rw [if_neg q,if_neg q];exact r g
 ·by_cases q:g=f
  ·rw [q];exact (Em f y fs).1
  ·refine (Em f y fs).2 g (wi g fun z=>hg ?_)
   show (if g=f then some u else mA g)=none
   rw [if_neg q];exact z
theorem Inv.made (I:Inv X pins σ H s):Inv X pins σ (upd (upd H s.heap.objs.size (.own (s.heap.objs.size + 1))) (s.heap.objs.size + 1) (.ins C s.heap.objs.size []))
  {s with heap:=(s.heap.push PySem.W.emptyDict).push (PySem.W.instObj C s.heap.objs.size)}:=by
 have e1:(s.heap.push PySem.W.emptyDict).get? s.heap.objs.size=some PySem.W.emptyDict:=Heap.get?_push_size s.heap rfl
 have e2:((s.heap.push PySem.W.emptyDict).push (PySem.W.instObj C s.heap.objs.size)).get? (s.heap.objs.size + 1)=some (PySem.W.instObj C s.heap.objs.size):=by
  have:=Heap.get?_push_size (s.heap.push PySem.W.emptyDict) (o:=PySem.W.instObj C s.heap.objs.size) rfl
  rwa [Heap.size_push] at this
 have e3:(s.heap.push PySem.W.emptyDict).Ns s.heap.objs.size (fun _=>none):=⟨PySem.W.emptyDict,#[],_,e1,rfl,(fun e he=>absurd he (by simp)),fun _=>rfl⟩
 have I1:=I.laid (a:=s.heap.objs.size) (o:=.own (s.heap.objs.size + 1)) (h':=s.heap.push PySem.W.emptyDict) (t':=s.toks) (fun b u q=>Heap.get?_push_of_some _ q) (Nat.le_refl _) ⟨_,e1⟩
 refine I1.laid (a:=s.heap.objs.size + 1) (o:=.ins C s.heap.objs.size []) (t':=s.toks) (fun b u q=>Heap.get?_push_of_some _ q) (Nat.le_of_eq (Heap.size_push _ _)) ?_
 have ne:s.heap.objs.size≠s.heap.objs.size + 1:=Nat.ne_of_lt (Nat.lt_succ_self _)
 refine ⟨by rw [Aj ne,Am],Nat.zero_le _,ne,e2,fun _=>none,(Heap.Ns1.of_empty e3).at fun o q=>Heap.get?_push_of_some _ q,fun _=>True.intro,fun y hy=>absurd rfl hy⟩
theorem MC {prog:Program} {w:World} {env:Env} {e:Expr} {f:Str} {pos:Pos} {s:Shared} {Q:Value→Shared→Prop} (hb:attributeBase e f env (eval e env)=eval e env)
  (h:wpAny (model prog w) A (eval e env) (fun o s₁=>wpAny (model prog w) A (getAttr o f true) Q E s₁) E s):wpAny (model prog w) A (eval (.Attribute e f pos) env) Q E s:=
 Attribute_any_ h (by rw [arm_eval_Attribute,hb])
end
def tFld (K:PySem.W.Frag) (ta:TE) (f:Str):TE:=fun σ H Q=>ta σ H fun x H1=>∃a C dx fs v,x=.ref a∧H1 a=some (.ins C dx fs)∧Cls K C∧NoAttr K C f∧fs.lookup f=some v∧Q v H1
def sFld (K:PySem.W.Frag) (ta tv:TE) (f:Str):TS:=fun D σ H=>tv σ H fun y H1=>ta σ H1 fun x H2=>∃a C dx fs,x=.ref a∧H2 a=some (.ins C dx fs)∧Cls K C∧NoAttr K C f∧fs.length < 1000∧
 D.nx σ (upd H2 a (.ins C dx (putF f y fs)))
def InOp (X:Cx) (op:Operator) (rd:V→V→Hp→VK→Prop):Prop:=
 ∀(pins:List (Addr×Obj)) (s:Shared) (σ:St) (H:Hp) (x y:V) (u v:Value) (Q:VK),Inv X pins σ H s→RelV x u→RelV y v→rd x y H Q→wpAny (model X.prog X.w) X.A (inplaceOp op u v) (EP X pins σ Q) X.xe s
def Mt (K:PySem.W.Frag) (ta tv:TE) (rd:V→V→Hp→VK→Prop) (f:Str):TS:=fun D σ H=>ta σ H fun x H1=>∃a C dx fs v,x=.ref a∧H1 a=some (.ins C dx fs)∧Cls K C∧NoAttr K C f∧fs.lookup f=some v∧
 tv σ H1 fun y H2=>rd v y H2 fun z H3=>∃dx' fs',H3 a=some (.ins C dx' fs')∧fs'.length < 1000∧D.nx σ (upd H3 a (.ins C dx' (putF f z fs')))
section
variable {X:Cx} {o e value:Expr} {f:Str} {pos pos' tpos:Pos} {ta tv:TE}
theorem Ix (he:PE X e ta) (hb:attributeBase e f X.env (eval e X.env)=eval e X.env):PE X (.Attribute e f pos) (tFld X.K ta f):=by
 intro pins s σ H Q I h
 refine MC hb (thn (he pins s σ H _ I h) fun u s1 ⟨x,H1,I1,rx,a,C,dx,fs,v,ex,ea,c,n,l,q⟩=>?_)
 subst ex
 obtain rfl:u=Value.ref a:=rx
 exact Fi I1 ea c n l fun u' s2 I2 ru=>⟨v,H1,I2,ru,q⟩
theorem Ik (ha:PE X o ta) (hv:PE X value tv) (hs:swapsWith value (some (.Attribute o f pos')) pos.line X.env=pure false):PS X (.Assign [.Attribute o f pos'] value pos) (sFld X.K ta tv f):=by
 intro pins s σ H D I h
 refine plainObj_wpAny_Assign_Attribute (thn (hv pins s σ H _ I h) fun u s1 ⟨y,H1,I1,ry,q⟩=>thn (ha pins s1 σ H1 _ I1 q) fun ov s2 ⟨x,H2,I2,rx,a,C,dx,fs,ex,ea,c,n,l,q2⟩=>?_) hs
 subst ex
 obtain rfl:ov=Value.ref a:=rx
 exact EL I2 ea c n l ry fun s3 I3=>⟨σ,_,I3,q2⟩
theorem Kk {op:Operator} {rd:V→V→Hp→VK→Prop} (ha:PE X o ta) (hv:PE X value tv) (hop:InOp X op rd):PS X (.AugAssign (.Attribute o f tpos) op value pos) (Mt X.K ta tv rd f):=by
 intro pins s σ H D I h
 refine wpAny_AugAssign_AttributeAny (thn (ha pins s σ H _ I h) fun ov s1 ⟨x,H1,I1,rx,a,C,dx,fs,v,ex,ea,c,n,l,q⟩=>?_)
 subst ex
 obtain rfl:ov=Value.ref a:=rx
 refine Fi I1 ea c n l fun u s2 I2 ru=>thn (hv pins s2 σ H1 _ I2 q) fun w3 s3 ⟨y,H2,I3,ry,q3⟩=>thn (hop pins s3 σ H2 v y u w3 _ I3 ru ry q3) fun w4 s4 ⟨z,H3,I4,rz,dx',fs',ea',l',q4⟩=>?_
 exact EL I4 ea' c n l' rz fun s5 I5=>⟨σ,_,I5,q4⟩
def rAdd:V→V→Hp→VK→Prop:=fun x y H Q=>∃i j,x=.int i∧y=.int j∧Q (.int (i + j)) H
theorem LE:InOp X .Add rAdd:=by
 rintro pins s σ H x y u v Q I rx ry ⟨i,j,rfl,rfl,q⟩
 obtain ⟨t,rfl⟩:=(show ∃t,u=Value.int i t from rx)
 obtain ⟨t',rfl⟩:=(show ∃t',v=Value.int j t' from ry)
 exact PyProof.Rows.iadd_int ⟨.int (i + j),H,I.tok _,⟨_,rfl⟩,q⟩
end
section
variable {X:Cx} {pins:List (Addr×Obj)} {σ:St} {H:Hp} {s:Shared} {A:Around} {E:Value→Shared→Prop} {Q:Value→Shared→Prop} {c:Value} {b:Bool}
inductive TyOf (K:PySem.W.Frag) (H:Hp):V→Value→Prop where
 | non:TyOf K H .non (.type "NoneType")
 | bl (x:Bool):TyOf K H (.bl x) (.type "bool")
 | int (i:Int):TyOf K H (.int i) (.type "int")
 | str (x:Str):TyOf K H (.str x) (.type "str")
 | flt (x:UInt64):TyOf K H (.flt x) (.type "float")
 | lst {a:Addr} {xs:List V} (e:H a=some (.lst xs)):TyOf K H (.ref a) (.type "list")
 | frz {a:Addr} {o:Obj} {xs:List V} (e:H a=some (.frz o (.lst xs))):TyOf K H (.ref a) (.type "list")
 | tup {a:Addr} {xs:List V} (e:H a=some (.tup xs)):TyOf K H (.ref a) (.type "tuple")
 | dK {a:Addr} {kvs:List (Key×V)} (e:H a=some (.dK kvs)):TyOf K H (.ref a) (.type "dict")
 | dT {a:Addr} {kvs:List (List Key×V)} (e:H a=some (.dT kvs)):TyOf K H (.ref a) (.type "dict")
 | ins {a C dx:Addr} {fs:List (Str×V)} (e:H a=some (.ins C dx fs)) (cl:Cls K C) (ha:PySem.W.findIn K (.ref C) "__class__"=some (some (.builtin "object.__class__")))
   (hn:PySem.W.specialIn K (.builtin "object.__class__") "__get__"=some (some (.builtin "getset_descriptor.__get__"))) (htk:PySem.W.takesIn K (.builtin "object.__class__")=some true)
   (hm:PySem.W.mroIn K C (.type "object")=some true):TyOf K H (.ref a) (.ref C)
theorem CS {x:V} {u t:Value} (I:Inv X pins σ H s) (rx:RelV x u) (ty:TyOf X.K H x t) (e:PySem.W.kitOne X.K t c=some b) (h:∀tk,Q (.bool b) {s with toks:=tk}):
  wpAny (model X.prog X.w) A (call (.builtin "isinstance") [u,c]) Q E s:=by
 cases ty with
 | non=>cases (show u=Value.none from rx);exact PySem.W.kia_one PySem.W.kitx_none I.kIn True.intro e (fun z=>nomatch z) h
 | bl y=>cases (show u=Value.bool y from rx);exact PySem.W.kia_one PySem.W.kitx_bool I.kIn True.intro e (fun z=>nomatch z) h
 | int i=>obtain ⟨t,q⟩:=(show ∃t,u=Value.int i t from rx);cases q;exact PySem.W.kia_one PySem.W.kitx_int I.kIn True.intro e (fun z=>nomatch z) h
 | str y=>obtain ⟨t,q⟩:=(show ∃t,u=Value.str y t from rx);cases q;exact PySem.W.kia_one PySem.W.kitx_str I.kIn True.intro e (fun z=>nomatch z) h
 | flt y=>obtain ⟨t,q⟩:=(show ∃t,u=Value.float y t from rx);cases q;exact PySem.W.kia_one PySem.W.kitx_float I.kIn True.intro e (fun z=>nomatch z) h
 | @lst a xs ea=>
   cases (show u=Value.ref a from rx)
   obtain ⟨_,_,n,_,h1⟩:=(show ObjOk X.prog X.w H s.heap a (.lst xs) from I.hok a _ ea)
   exact PySem.W.kia_one PySem.W.kitx_list I.kIn ⟨_,h1,rfl⟩ e (fun z=>nomatch z) h
 | @frz a ob xs ea=>
   cases (show u=Value.ref a from rx)
   obtain ⟨_,_,_,n,_,h1⟩:=(show ObjOk X.prog X.w H s.heap a (.frz ob (.lst xs)) from I.hok a _ ea)
   exact PySem.W.kia_one PySem.W.kitx_list I.kIn ⟨_,h1,rfl⟩ e (fun z=>nomatch z) h
 | @tup a xs ea=>
   cases (show u=Value.ref a from rx)
   obtain ⟨_,⟨_,_,p⟩,_⟩:=(show ObjOk X.prog X.w H s.heap a (.tup xs) from I.hok a _ ea)
   obtain ⟨o,h1,h2,_⟩:=p
   exact PySem.W.kia_one PySem.W.kitx_tuple I.kIn ⟨o,h1,h2⟩ e (fun z=>nomatch z) h
 | @dK a kvs ea=>
   cases (show u=Value.ref a from rx)
   obtain ⟨_,_,vs,_,p⟩:=(show ObjOk X.prog X.w H s.heap a (.dK kvs) from I.hok a _ ea)
   obtain ⟨o,es,ep,h1,h2,_⟩:=p
   exact PySem.W.kia_one PySem.W.kitx_dict I.kIn ⟨o,h1,h2.1⟩ e (fun z=>nomatch z) h
 | @dT a kvs ea=>
   cases (show u=Value.ref a from rx)
   obtain ⟨_,_,xs,_,o,es,ep,h1,h2,_⟩:=(show ObjOk X.prog X.w H s.heap a (.dT kvs) from I.hok a _ ea)
   exact PySem.W.kia_one PySem.W.kitx_dict I.kIn ⟨o,h1,h2.1⟩ e (fun z=>nomatch z) h
 | @ins a C dx fs ea cl ha hn htk hm=>
   cases (show u=Value.ref a from rx)
   obtain ⟨mA,O,_⟩:=EB I.hok ea
   obtain ⟨od,J,_⟩:=O.look
   exact PySem.W.kia_one (PySem.W.kitx_own (cl.get _) cl.hd ha hn htk hm) I.kIn J e (fun z=>nomatch z) h
end
structure Room (k:Nat) (A:Around):Prop where
 hd:A.handled=none
 dp:A.depth + 3 * k + 5 < recursionLimit
 un:A.units + 16 * k + 200 < cLine
theorem Room.mono {j k:Nat} {A:Around} (r:Room k A) (h:j≤k):Room j A:=⟨r.hd,by have:=r.dp;omega,by have:=r.un;omega⟩
theorem Room.deeper {k:Nat} {A:Around} (r:Room (k + 1) A) (env:Env):Room k (A.deeper env):=
 ⟨r.hd,by have:=r.dp;show A.depth + 1 + 3 * k + 5 < _;omega,by have:=r.un;show A.units + 3 + 16 * k + 200 < _;omega⟩
theorem HY {A:Around} {C:Addr} {us:List Value} {kw:List (Str×Value)}:(A.under (.builtin "type.__call__" ⟨.ref C::us,kw⟩)).depth=A.depth + 1:=by
 first | rfl | simp [Around.under,Code.weight,Code.isCreation,Code.isGuard,Code.isCaller,Code.frames,Code.isFrame,guardIds]
theorem H_ {A:Around} {C:Addr} {us:List Value} {kw:List (Str×Value)}:(A.under (.builtin "type.__call__" ⟨.ref C::us,kw⟩)).units=A.units + 1:=by
 first | rfl | simp [Around.under,Code.cUnits,Code.frames,Code.isFrame]
theorem Room.make {k:Nat} {A:Around} (r:Room (k + 1) A) (C:Addr) (us:List Value) (kw:List (Str×Value)):Room k (A.under (.builtin "type.__call__" ⟨.ref C::us,kw⟩)):=
 ⟨r.hd,by have:=r.dp;rw [HY];omega,by have:=r.un;rw [H_];omega⟩
theorem Room.depth {k:Nat} {A:Around} (r:Room k A):A.depth < recursionLimit:=by have:=r.dp;omega
theorem Room.units {k:Nat} {A:Around} (r:Room k A):A.units + 64 < cLine:=by have:=r.un;omega
def tNil:TA:=fun _ H Q=>Q [] H
def PZ (ta:TE) (tr:TA):TA:=fun σ H Q=>ta σ H fun x H1=>tr σ H1 fun xs H2=>Q (x::xs) H2
section
variable {X:Cx} {e:Expr} {es:List Expr} {te:TE} {t:TA} {pos:Pos}
theorem pa_nil:PA X [] tNil:=fun _ _ _ _ H Q I h=>Calls.spliced_nil ⟨[],H,I,.nil,h⟩
theorem Cn (ha:PE X e te) (hr:PA X es t) (hs:starEach (e::es) X.env=(false,eval e X.env)::starEach es X.env:=by rfl):PA X (e::es) (PZ te t):=by
 intro pos pins s σ H Q I h
 rw [hs]
 show wpAny _ _ (spliced ((false,eval e X.env)::backTo pos (starEach es X.env))) _ _ s
 refine Calls.spliced_cons (thn (ha pins s σ H _ I h) fun u s1 ⟨x,H1,I1,r1,q1⟩=>?_)
 exact thn (hr pos pins s1 σ H1 _ I1 q1) fun us s2 ⟨xs,H2,I2,r2,q2⟩=>⟨x::xs,H2,I2,.cons r1 r2,q2⟩
def tTup (t:TA):TE:=fun σ H Q=>t σ H fun xs H1=>xs.length≤sizeLine∧∀p,H1 p=none→Q (.ref p) (upd H1 p (.tup xs))
def tLst (t:TA):TE:=fun σ H Q=>t σ H fun xs H1=>xs.length≤sizeLine∧∀p,H1 p=none→Q (.ref p) (upd H1 p (.lst xs))
theorem Ly {x1} (h:PA X es t):PE X (.Tuple es x1 pos) (tTup t):=by
 intro pins s σ H Q I hq
 refine wpAny_Tuple_spliced (thn (h pos pins s σ H _ I hq) fun us s1 ⟨xs,H1,I1,r,z,q⟩=>⟨by rw [←r.length];exact z,?_⟩)
 have hf:H1 s1.heap.objs.size=none:=I1.hok.fresh (Nat.le_refl _)
 refine ⟨.ref s1.heap.objs.size,upd H1 s1.heap.objs.size (.tup xs),I1.laid (t':=s1.toks) (fun b u e=>Heap.get?_push_of_some _ e) (Nat.le_refl _) ?_,rfl,q _ hf⟩
 exact ⟨z,⟨us,r,⟨_,Heap.get?_push_size _ rfl,rfl,_,rfl⟩⟩,_,Heap.get?_push_size _ rfl,rfl⟩
theorem GO (h:PA X es t):PE X (.List es pos) (tLst t):=by
 intro pins s σ H Q I hq
 refine wpAny_List_spliced (thn (h pos pins s σ H _ I hq) fun us s1 ⟨xs,H1,I1,r,z,q⟩=>⟨by rw [←r.length];exact z,?_⟩)
 have hf:H1 s1.heap.objs.size=none:=I1.hok.fresh (Nat.le_refl _)
 refine ⟨.ref s1.heap.objs.size,upd H1 s1.heap.objs.size (.lst xs),I1.laid (t':=s1.toks) (fun b u e=>Heap.get?_push_of_some _ e) (Nat.le_refl _) ?_,rfl,q _ hf⟩
 exact ⟨z,us,0,r,Heap.get?_push_size _ rfl⟩
end
abbrev Sp:=List V→Hp→VK→XK→Prop
abbrev CXT:=List Env→Hp→Shared→XK→Value→Shared→Prop
structure Env0 (P:Program) (w:World) (K:PySem.W.Frag) (mg:Str→Option Value) (base:Heap) (A:Around) (outer:List Env) (s:Shared) (H:Hp):Prop where
 frames:A.frames=some outer
 mod:Mod K mg base
 bs:∀b o,base.get? b=some o→s.heap.get? b=some o∧H b=none
 bsz:base.objs.size≤s.heap.objs.size
 funs:s.heap.FunFrames base outer
 frf:∀b∈frs outer,H b=none
 hok:HOk P w H s.heap
 bare:AllBare s.gens
def CE (outer:List Env) (P:Program) (w:World) (H:Hp) (s:Shared) (Q:VK) (u:Value) (s':Shared):Prop:=
 ∃v H',s'.os=s.os∧AllBare s'.gens∧Un (frs outer) [] H H' s.heap s'.heap∧HOk P w H' s'.heap∧RelV v u∧Q v H'
def CR (CX:CXT) (outer:List Env) (P:Program) (w:World) (H:Hp) (s:Shared) (Q:VK) (E:XK) (r:Result) (s':Shared):Prop:=
 match r with
 | .ok (.ret u)=>CE outer P w H s Q u s'
 | .ok _=>False
 | .error e=>CX outer H s E e s'
structure FnOk (P:Program) (w:World) (K:PySem.W.Frag) (mg:Str→Option Value) (base:Heap) (CX:CXT) (k:Nat) (f:Addr) (fd:FuncData) (ps:List Str) (sp:Sp):Prop where
 len:∀vs H Q E,sp vs H Q E→vs.length=ps.length
 run:∀(A:Around) (outer:List Env) (s:Shared) (H:Hp) (args:Args) (us:List Value) (vs:List V) (Q:VK) (E:XK),Room k A→Env0 P w K mg base A outer s H→BindsTo s fd args (ps.zip us)→Vals vs us→sp vs H Q E→
  codeAny (model P w) A (.call (.ref f) args) (CR CX outer P w H s Q E) s
theorem FnOk.imp {P:Program} {w:World} {K:PySem.W.Frag} {mg:Str→Option Value} {base:Heap} {CX:CXT} {k:Nat} {f:Addr} {fd:FuncData} {ps:List Str} {sp sp':Sp} (F:FnOk P w K mg base CX k f fd ps sp)
  (h:∀vs H Q E,sp' vs H Q E→sp vs H Q E):FnOk P w K mg base CX k f fd ps sp':=
 ⟨fun vs H Q E q=>F.len vs H Q E (h _ _ _ _ q),fun A outer s H args us vs Q E hr he hb hv hs=>F.run A outer s H args us vs Q E hr he hb hv (h _ _ _ _ hs)⟩
theorem Env0.make {P:Program} {w:World} {K:PySem.W.Frag} {mg:Str→Option Value} {base:Heap} {A:Around} {outer:List Env} {s:Shared} {H:Hp} (e:Env0 P w K mg base A outer s H) (C:Addr) (us:List Value) (kw:List (Str×Value)):
  Env0 P w K mg base (A.under (.builtin "type.__call__" ⟨.ref C::us,kw⟩)) outer s H:=⟨by first | exact e.frames | (simpa [Around.under,Code.envs,Code.isFrame,pushEnvs] using e.frames),e.mod,e.bs,e.bsz,e.funs,e.frf,e.hok,e.bare⟩
section
variable {X:Cx} {pins:List (Addr×Obj)} {σ:St} {H:Hp} {s s':Shared}
theorem Inv.env0 (I:Inv X pins σ H s):Env0 X.prog X.w X.K X.mg X.base X.A X.stack s H:=
 ⟨I.ok.frames,I.ok.mod,I.bs,Nat.le_trans I.ok.bsz I.sz,I.stack,I.stkFree,I.hok,I.bare⟩
theorem Inv.after {Q:VK} {u:Value} (I:Inv X pins σ H s) (h:CE X.stack X.prog X.w H s Q u s'):EP X pins σ Q u s':=by
 obtain ⟨v,H',os,bare,un,hok,r,q⟩:=h
 obtain ⟨hh,g,d,t,os'⟩:=s'
 obtain rfl:os'=s.os:=os
 exact ⟨v,H',I.call (h':=hh) (g':=g) (d':=d) (t':=t) (ch:=[]) un hok bare (fun b z=>absurd z (by simp)),r,q⟩
end
def PK (sp:Sp) (dvs:List V) (E:XK) (t:TA):TE:=fun σ H Q=>t σ H fun vs H1=>sp (vs++dvs) H1 Q E
def Ny (C:Addr) (m:Str) (sp:Sp) (dvs:List V) (E:XK) (ta:TE) (t:TA):TE:=fun σ H Q=>ta σ H fun x H1=>∃a dx fs,x=.ref a∧H1 a=some (.ins C dx fs)∧fs.lookup m=none∧
 t σ H1 fun vs H2=>sp (x::(vs++dvs)) H2 Q E
def QE (C:Addr) (sp:Sp) (dvs:List V) (E:XK) (t:TA):TE:=fun σ H Q=>t σ H fun vs H1=>∀x dx,H1 x=none→H1 dx=none→dx≠x→
 sp (.ref x::(vs++dvs)) (upd (upd H1 dx (.own x)) x (.ins C dx [])) (fun v H2=>v=.non∧Q (.ref x) H2) E
def Binds (K:PySem.W.Frag) (fd:FuncData) (ps:List Str) (ds:List Value):Prop:=
 ∀(s:Shared) (us:List Value),K.In s.heap→(us++ds).length=ps.length→BindsTo s fd ⟨us,[]⟩ (ps.zip (us++ds))
theorem Binds.all {K:PySem.W.Frag} {fd:FuncData} {ps:List Str} (h:∀us:List Value,us.length=ps.length→bindArgs fd ⟨us,[]⟩=pure (ps.zip us)):Binds K fd ps []:=fun s us _ hl=>by
 rw [List.append_nil] at hl ⊢
 exact .of_eq (h us hl)
def Dl (CX:CXT) (X:Cx) (E:XK):Prop:=∀(pins:List (Addr×Obj)) (σ:St) (H:Hp) (s:Shared) (e:Value) (s':Shared),Inv X pins σ H s→CX X.stack H s E e s'→X.xe e s'
section
variable {X:Cx} {CX:CXT} {k:Nat} {f C:Addr} {fd:FuncData} {ps:List Str} {sp:Sp} {dvs:List V} {ds:List Value} {E:XK} {x m:Str} {p pos apos:Pos} {e o:Expr} {es:List Expr} {ta:TE} {t:TA}
theorem Ic {pins:List (Addr×Obj)} {σ:St} {H:Hp} {s:Shared} {Q:VK} {us:List Value} {vs:List V} (F:FnOk X.prog X.w X.K X.mg X.base CX k f fd ps sp) (hr:Room k X.A) (hb:Binds X.K fd ps ds) (hd:Vals dvs ds) (hx:Dl CX X E)
  (I:Inv X pins σ H s) (r:Vals vs us) (h:sp (vs++dvs) H Q E):wpAny (model X.prog X.w) X.A (call (.ref f) us) (EP X pins σ Q) X.xe s:=by
 have r2:Vals (vs++dvs) (us++ds):=r.append hd
 have hl:(us++ds).length=ps.length:=by rw [←r2.length];exact F.len _ _ _ _ h
 refine wpAny_call (codeAny_mono (F.run X.A X.stack s H ⟨us,[]⟩ (us++ds) (vs++dvs) Q E hr I.env0 (hb s us I.kIn hl) r2 h) fun r s' hq=>?_)
 cases r with
 | error e=>exact hx pins σ H s e s' I hq
 | ok fl=>
   cases fl with
   | ret u=>exact I.after hq
   | next=>exact False.elim hq
   | brk=>exact False.elim hq
   | cont=>exact False.elim hq
theorem Gs (F:FnOk X.prog X.w X.K X.mg X.base CX k f fd ps sp) (hr:Room k X.A) (hg:Gl X x) (hm:X.mg x=some (.ref f)) (hk:PySem.W.keepIn X.K (.ref f)=true) (hb:Binds X.K fd ps ds) (hd:Vals dvs ds) (hx:Dl CX X E)
  (ha:PA X (e::es) t) (hdb:(x==("__debug__":Str))=false:=by decide) (he:starEach (e::es) X.env=(false,eval e X.env)::starEach es X.env:=by rfl) (hpl:(backTo pos (starEach es X.env)).any (·.1)=false:=by rfl):
  PE X (.Call (.Name x p) (e::es) [] pos) (PK sp dvs E t):=by
 intro pins s σ H Q I h
 refine wpAny_Call_Name_kw (Gm I hg hm ?_ hdb)
 refine PySem.W.callWith_K (h₀:=X.base) I.ok.mod.kin hk (thn (ha pos pins s σ H _ I h) fun us s1 ⟨vs,H1,I1,r,q⟩=>⟨I1.kIn,?_⟩) he hpl
 exact Ic F hr hb hd hx I1 r q
theorem G9 {pl:Sem Bool} (he:PE X o ta) (c:Cls X.K C) (hm:Meth X.K C m f) (F:FnOk X.prog X.w X.K X.mg X.base CX k f fd ps sp) (hr:Room k X.A) (hb:Binds X.K fd ps ds) (hd:Vals dvs ds) (hx:Dl CX X E) (ha:PA X (e::es) t)
  (hst:starEach (e::es) X.env=(false,eval e X.env)::starEach es X.env:=by rfl) (hpl:(backTo pos (starEach es X.env)).any (·.1)=false:=by rfl)
  (ht:eval (.Call (.Attribute o m apos) (e::es) [] pos) X.env=(do
   let ov ←eval o X.env
   standAt apos.atName
   let (f,first) ←holding [ov] (getMethod ov m pl)
   callWith pos f first (backTo pos (starEach (e::es) X.env)) (backToKw pos (keywordEach [] X.env))):=by rfl):
  PE X (.Call (.Attribute o m apos) (e::es) [] pos) (Ny C m sp dvs E ta t):=by
 intro pins s σ H Q I h
 refine PySem.W.methodCall_KW (pl:=pl) (thn (he pins s σ H _ I h) fun u s1 ⟨x,H1,I1,rx,a,dx,fs,ex,ea,l,q⟩=>?_) ht
 subst ex
 obtain rfl:u=Value.ref a:=rx
 refine E_ I1 ea c hm l ?_
 refine PySem.W.callWith_K (first:=[.ref a]) (h₀:=X.base) I.ok.mod.kin hm.kp (thn (ha pos pins s1 σ H1 _ I1 q) fun us s2 ⟨vs,H2,I2,r,q2⟩=>⟨I2.kIn,?_⟩) hst hpl
 exact Ic (us:=.ref a::us) (vs:=.ref a::vs) F hr hb hd hx I2 (.cons rfl r) q2
theorem GY {pl:Sem Bool} (he:PE X o ta) (c:Cls X.K C) (hm:Meth X.K C m f) (F:FnOk X.prog X.w X.K X.mg X.base CX k f fd ps sp) (hr:Room k X.A) (hb:Binds X.K fd ps ds) (hd:Vals dvs ds) (hx:Dl CX X E)
  (ht:eval (.Call (.Attribute o m apos) [] [] pos) X.env=(do
   let ov ←eval o X.env
   standAt apos.atName
   let (f,first) ←holding [ov] (getMethod ov m pl)
   callWith pos f first (backTo pos (starEach [] X.env)) (backToKw pos (keywordEach [] X.env))):=by rfl):
  PE X (.Call (.Attribute o m apos) [] [] pos) (Ny C m sp dvs E ta tNil):=by
 intro pins s σ H Q I h
 refine PySem.W.methodCall_KW (pl:=pl) (thn (he pins s σ H _ I h) fun u s1 ⟨x,H1,I1,rx,a,dx,fs,ex,ea,l,q⟩=>?_) ht
 subst ex
 obtain rfl:u=Value.ref a:=rx
 refine E_ I1 ea c hm l ?_
 exact PySem.W.callWith_K0 (first:=[.ref a]) I1.kIn hm.kp (Ic (us:=[.ref a]) (vs:=[.ref a]) F hr hb hd hx I1 (.cons rfl .nil) q)
structure Mk (K:PySem.W.Frag) (C f:Addr):Prop where
 makes:PySem.W.makesIn K C=true
 init:PySem.W.findIn K (.ref C) "__init__"=some (some (.ref f))
 fn:PySem.W.isFn K (.ref f)=true
 kp:PySem.W.keepIn K (.ref C)=true
theorem Lr {pins:List (Addr×Obj)} {σ:St} {H:Hp} {s:Shared} {Q:VK} {us:List Value} {vs:List V} (M:Mk X.K C f) (F:FnOk X.prog X.w X.K X.mg X.base CX k f fd ps sp) (hr:Room (k + 1) X.A) (hb:Binds X.K fd ps ds) (hd:Vals dvs ds)
  (hx:Dl CX X E) (I:Inv X pins σ H s) (r:Vals vs us)
  (h:∀x dx,H x=none→H dx=none→dx≠x→sp (.ref x::(vs++dvs)) (upd (upd H dx (.own x)) x (.ins C dx [])) (fun v H2=>v=.non∧Q (.ref x) H2) E):
  wpAny (model X.prog X.w) X.A (call (.ref C) us) (EP X pins σ Q) X.xe s:=by
 have hq:=h (s.heap.objs.size + 1) s.heap.objs.size (I.hok.fresh (Nat.le_succ _)) (I.hok.fresh (Nat.le_refl _)) (Nat.ne_of_lt (Nat.lt_succ_self _))
 have I2:=Inv.made (C:=C) I
 have r2:Vals (V.ref (s.heap.objs.size + 1)::(vs++dvs)) (Value.ref (s.heap.objs.size + 1)::(us++ds)):=.cons rfl (r.append hd)
 have hl:(Value.ref (s.heap.objs.size + 1)::us++ds).length=ps.length:=by
  have e:=r2.length
  rw [F.len _ _ _ _ hq] at e
  exact e.symm
 refine wpAny_call (Md (f:=f) I.kIn M.makes M.init (beq_iff_eq.mp M.fn) (codeAny_mono (F.run _ X.stack _ _ ⟨Value.ref (s.heap.objs.size + 1)::us,[]⟩ (Value.ref (s.heap.objs.size + 1)::(us++ds)) _ _ E (hr.make C us [])
  (I2.env0.make C us []) (hb _ (Value.ref (s.heap.objs.size + 1)::us) I2.kIn hl) r2 hq) fun r s' hq'=>?_))
 cases r with
 | error e=>exact hx pins σ _ _ e s' I2 hq'
 | ok fl=>
   cases fl with
   | ret u=>
     obtain ⟨v,H',I3,rv,ev,q3⟩:=I2.after hq'
     subst ev
     exact ⟨rv,⟨V.ref (s.heap.objs.size + 1),H',I3,rfl,q3⟩⟩
   | next=>exact False.elim hq'
   | brk=>exact False.elim hq'
   | cont=>exact False.elim hq'
theorem Ni (M:Mk X.K C f) (F:FnOk X.prog X.w X.K X.mg X.base CX k f fd ps sp) (hr:Room (k + 1) X.A) (hg:Gl X x) (hm:X.mg x=some (.ref C)) (hb:Binds X.K fd ps ds) (hd:Vals dvs ds) (hx:Dl CX X E)
  (ha:PA X (e::es) t) (hdb:(x==("__debug__":Str))=false:=by decide) (he:starEach (e::es) X.env=(false,eval e X.env)::starEach es X.env:=by rfl) (hpl:(backTo pos (starEach es X.env)).any (·.1)=false:=by rfl):
  PE X (.Call (.Name x p) (e::es) [] pos) (QE C sp dvs E t):=by
 intro pins s σ H Q I h
 refine wpAny_Call_Name_kw (Gm I hg hm ?_ hdb)
 refine PySem.W.callWith_K (h₀:=X.base) I.ok.mod.kin M.kp (thn (ha pos pins s σ H _ I h) fun us s1 ⟨vs,H1,I1,r,q⟩=>⟨I1.kIn,?_⟩) he hpl
 exact Lr M F hr hb hd hx I1 r q
end
section
variable {X:Cx} {CX:CXT} {k:Nat} {f C:Addr} {fd:FuncData} {ps ks:List Str} {sp:Sp} {E:XK} {x m:Str} {p pos apos kpos:Pos} {e o:Expr} {es:List Expr} {kws:List Keyword} {te ta:TE} {t tk:TA} {nm:Option Str}
structure KBinds (K:PySem.W.Frag) (fd:FuncData) (ps ks:List Str) (g:List Value→List Value→List Value) (gV:List V→List V→List V):Prop where
 to:∀(s:Shared) (us ws:List Value),K.In s.heap→(g us ws).length=ps.length→BindsTo s fd ⟨us,ks.zip ws⟩ (ps.zip (g us ws))
 rel:∀{vs:List V} {us:List Value} {zs:List V} {ws:List Value},Vals vs us→Vals zs ws→Vals (gV vs zs) (g us ws)
variable {g:List Value→List Value→List Value} {gV:List V→List V→List V}
end
structure FnScope (N P:List Str) (sc:Scope):Prop where
 kind:sc.kind=.function
 co:sc.isCoroutine=false
 gen:sc.isGenerator=false
 nd:N.Nodup
 pre:N.take P.length=P
 par:∀x∈P,sc.names.lookup x=some .local∨sc.names.lookup x=some .cell
 nofree:∀y∈sc.names,y.2≠.free
theorem Ga {kindOf:Str→Option NameKind} {x:Str}:∀{binds:List (Str×Value)} {m:Str→Option Value},(∀v,(x,v)∉binds)→bindL kindOf binds m x=m x
 | [],_,_=>rfl
 | (n,v)::r,m,h=>by
   unfold bindL
   rw [Ga fun w hw=>h w (List.mem_cons_of_mem _ hw)]
   split
   ·have:x≠n:=by rintro rfl;exact h v List.mem_cons_self
    simp [this]
   ·rfl
theorem FC {kindOf:Str→Option NameKind} {x:Str}:∀{binds:List (Str×Value)} {m:Str→Option Value},(∀v,(x,v)∉binds)→bindC kindOf binds m x=m x
 | [],_,_=>rfl
 | (n,v)::r,m,h=>by
   unfold bindC
   rw [FC fun w hw=>h w (List.mem_cons_of_mem _ hw)]
   split
   ·rfl
   ·have:x≠n:=by rintro rfl;exact h v List.mem_cons_self
    simp [this]
theorem F_ {kindOf:Str→Option NameKind} {x:Str} {v:Value}:∀{P:List Str} {vs:List Value} {i:Nat} {m:Str→Option Value},P.Nodup→P[i]?=some x→vs[i]?=some v→kindOf x=some .local→
  bindL kindOf (P.zip vs) m x=some v
 | [],_,_,_,_,h,_,_=>by simp at h
 | _::_,[],_,_,_,_,h,_=>by simp at h
 | p::P,w::vs,0,m,nd,h1,h2,hk=>by
   simp at h1 h2;subst h1;subst h2
   show bindL kindOf ((p,w)::P.zip vs) m p=_
   unfold bindL
   rw [Ga fun v hv=>(List.nodup_cons.mp nd).1 (List.of_mem_zip hv).1,if_pos hk]
   simp
 | p::P,w::vs,i + 1,m,nd,h1,h2,hk=>by
   show bindL kindOf ((p,w)::P.zip vs) m x=_
   unfold bindL
   exact F_ (i:=i) (List.nodup_cons.mp nd).2 (by simpa using h1) (by simpa using h2) hk
theorem FN {kindOf:Str→Option NameKind} {x:Str} {v:Value}:∀{P:List Str} {vs:List Value} {i:Nat} {m:Str→Option Value},P.Nodup→P[i]?=some x→vs[i]?=some v→kindOf x≠some .local→
  bindC kindOf (P.zip vs) m x=some v
 | [],_,_,_,_,h,_,_=>by simp at h
 | _::_,[],_,_,_,_,h,_=>by simp at h
 | p::P,w::vs,0,m,nd,h1,h2,hk=>by
   simp at h1 h2;subst h1;subst h2
   show bindC kindOf ((p,w)::P.zip vs) m p=_
   unfold bindC
   rw [FC fun v hv=>(List.nodup_cons.mp nd).1 (List.of_mem_zip hv).1,if_neg hk]
   simp
 | p::P,w::vs,i + 1,m,nd,h1,h2,hk=>by
   show bindC kindOf ((p,w)::P.zip vs) m x=_
   unfold bindC
   exact FN (i:=i) (List.nodup_cons.mp nd).2 (by simpa using h1) (by simpa using h2) hk
def start (N:List Str) (vs:List V):St:=vs.map some++List.replicate (N.length - vs.length) none
def cxOf (CX:CXT) (P:Program) (w:World) (K:PySem.W.Frag) (mg:Str→Option Value) (base:Heap) (N:List Str) (qual:Str) (scope:Scope) (f:Addr) (cd:Value) (A:Around) (outer:List Env) (s:Shared) (H:Hp) (E:XK):Cx where
 prog:=P
 w:=w
 K:=K
 mg:=mg
 base:=base
 A:=A.deeper (envOfC qual scope s.heap.objs.size f cd)
 N:=N
 s₀:=s
 H₀:=H
 env:=envOfC qual scope s.heap.objs.size f cd
 outer:=outer
 stack:=envOfC qual scope s.heap.objs.size f cd::outer
 ex:=[]
 calm:=true
 fn:=fun _=>true
 pn:=[]
 xe:=fun e s'=>wpAny (model P w) (A.deeper (envOfC qual scope s.heap.objs.size f cd)) (leaving (envOfC qual scope s.heap.objs.size f cd) e) (fun _ s''=>CX outer H s E e s'') (fun e' s''=>CX outer H s E e' s'') s'
theorem Hj {sc:Scope} {n:Nat} {x:Str} (h:sc.names.lookup x=some .cell):∃c,(cellsFrom n sc.names []).lookup x=some c:=by
 have q:=PySem.W.cellsFrom_some sc.names n [] (.inl h)
 exact Option.isSome_iff_exists.mp q
theorem Kn {CX:CXT} {P:Program} {w:World} {K:PySem.W.Frag} {mg:Str→Option Value} {base:Heap} {N ps:List Str} {qual:Str} {scope:Scope} {f:Addr} {cd:Value} {A:Around} {outer:List Env} {s s1:Shared} {H:Hp} {E:XK} {us:List Value} {vs:List V}
  (S:FnScope N ps scope) (hd:A.handled=none) (e0:Env0 P w K mg base A outer s H) (hl:vs.length=ps.length) (r:Vals vs us)
  (x:InCallC s s.heap.objs.size (bindL (envOfC qual scope s.heap.objs.size f cd).kindOf (ps.zip us) fun _=>none) (cellsFrom (s.heap.objs.size + 1) scope.names []) (bindC (envOfC qual scope s.heap.objs.size f cd).kindOf (ps.zip us) fun _=>none) s1):
  Inv (cxOf CX P w K mg base N qual scope f cd A outer s H E) [] (start N vs) H s1:=by
 have hpl:ps.length≤N.length:=by have:=congrArg List.length S.pre;rw [List.length_take] at this;omega
 obtain ⟨h1,tk,rfl,hk⟩:=x.done
 have noA:∀b:Addr,b∉(cxOf CX P w K mg base N qual scope f cd A outer s H E).ex:=fun b z=>absurd (show b∈([]:List Addr) from z) (by simp)
 refine ⟨⟨e0.mod,S.kind,rfl,rfl,Nat.le_refl _,fun y z c h1 h2=>?_,fun y hy=>?_,fun y c _ h=>?_,fun _=>hd,Around.frames_deeper e0.frames,.inr ⟨rfl,rfl⟩,fun b z=>absurd z (noA b),e0.bs,e0.bsz,fun b _ _=>noA b,fun b z=>absurd z (noA b),e0.funs,e0.frf⟩,
  rfl,e0.bare,Un.kept hk,⟨_,x.toInCall.ns,fun i y v h1 h2 h3=>?_⟩,fun y c h=>⟨_,x.cell y c h⟩,e0.hok.fresh (Nat.le_refl _),fun y c h=>?_,fun p hp=>absurd (show p∈([]:List (Addr×Obj)) from hp) (by simp),e0.hok.kept hk,?_⟩
 ·exact name_of_addr x.apart (PySem.mem_of_lookup h1) (PySem.mem_of_lookup h2)
 ·have hy:scope.names.lookup y=some .cell∨scope.names.lookup y=some .free:=hy
  rcases hy with hy | hy
  ·exact Hj hy
  ·exact absurd rfl (S.nofree _ (PySem.mem_of_lookup hy))
 ·exact Nat.le_of_lt (x.above y c (PySem.mem_of_lookup h))
 ·have hi:i < vs.length:=by
   unfold start at h2
   by_cases hi:i < vs.length
   ·exact hi
   ·rw [List.getElem?_append_right (by simpa using hi)] at h2
    rw [List.getElem?_replicate] at h2
    split at h2 <;> cases h2
  have ha:vs[i]?=some v:=by
   unfold start at h2
   rw [List.getElem?_append_left (by simpa using hi),List.getElem?_map] at h2
   cases e:vs[i]? with
   | none=>rw [e] at h2;cases h2
   | some a=>rw [e] at h2;cases h2;rfl
  obtain ⟨u,hu,rv⟩:=r.get ha
  have hp:ps[i]?=some y:=by
   rw [←S.pre,List.getElem?_take_of_lt (by omega)];exact h1
  have ndP:ps.Nodup:=by rw [←S.pre];exact S.nd.sublist (List.take_sublist _ _)
  refine ⟨u,rv,?_⟩
  rcases S.par y (List.mem_of_getElem? hp) with k | k
  ·exact .inl ⟨k,F_ ndP hp hu k⟩
  ·obtain ⟨c,e⟩:=Hj (n:=s.heap.objs.size + 1) k
   refine .inr ⟨.inl k,c,e,?_⟩
   have q:=x.cell y c e
   rw [FN ndP hp hu (by show scope.names.lookup y≠_;rw [k];decide)] at q
   exact q
 ·exact e0.hok.fresh (Nat.le_of_lt (x.above y c (PySem.mem_of_lookup h)))
 ·unfold start
  show _=N.length
  rw [List.length_append,List.length_map,List.length_replicate]
  omega
theorem PV {CX:CXT} {P:Program} {w:World} {K:PySem.W.Frag} {mg:Str→Option Value} {base:Heap} {k:Nat} {f:Addr} {name qual:Str} {params:Arguments} {body:List Stmt} {scope:Scope} {dV kV doc pm cdv ct oc:Value} {an od:Option Addr}
  {osl:Array (Option Value)} {N ps:List Str} {sp:Sp} (lk:K.lookup f=some ⟨oc,od,.func (PySem.W.fnOf name qual params body scope dV kV doc pm an cdv ct),osl⟩) (hcd:PySem.W.codeIn K cdv qual=true) (S:FnScope N ps scope)
  (len:∀vs H Q E,sp vs H Q E→vs.length=ps.length)
  (hbody:∀(A:Around) (outer:List Env) (s:Shared) (H:Hp) (vs:List V) (Q:VK) (E:XK),Room k (A.deeper (envOfC qual scope s.heap.objs.size f cdv))→sp vs H Q E→
   ∃t,PSs (cxOf CX P w K mg base N qual scope f cdv A outer s H E) body t∧t {nx:=fun _ H'=>Q .non H',rt:=Q} (start N vs) H):
  FnOk P w K mg base CX (k + 1) f (PySem.W.fnOf name qual params body scope dV kV doc pm an cdv ct) ps sp:=by
 refine ⟨len,fun A outer s H args us vs Q E hr e0 hb r hsp=>?_⟩
 have hl:=len _ _ _ _ hsp
 have KX:K.In s.heap:=e0.mod.kin.keeps fun b o e=>(e0.bs b o e).1
 have lim:s.heap.NoLimit:=e0.mod.nolimit.keeps fun b o e=>(e0.bs b o e).1
 have hkind:∀y∈ps.zip us,scope.names.lookup y.1=some .local∨(scope.names.lookup y.1=some .cell∧((cellsFrom (s.heap.objs.size + 1) scope.names []).lookup y.1).isSome=true):=fun ⟨n,v⟩ hy=>by
  rcases S.par n (List.of_mem_zip hy).1 with q | q
  ·exact .inl q
  ·exact .inr ⟨q,PySem.W.cellsFrom_some _ _ _ (.inl q)⟩
 refine codeAny_call_function hr.depth (KX _ _ lk) rfl S.co S.gen rfl (PySem.W.codeRec_of KX hcd) (hb _ _ _ _ ?_)
 refine wpAny_newFunctionEnv_cells S.kind hkind fun env he s1 x=>?_
 subst he
 refine ⟨lim.keeps x.toInCall.keep,codeAny_func ?_⟩
 obtain ⟨t,ht,hq⟩:=hbody A outer s H vs Q E (hr.deeper _) hsp
 have I:Inv (cxOf CX P w K mg base N qual scope f cdv A outer s H E) [] (start N vs) H s1:=Kn S hr.hd e0 hl r x
 refine wpAny_mono (ht [] s1 (start N vs) H _ I hq) (fun fl s' hs=>?_) fun e s' hs=>hs
 have fin:∀{σ':St} {H':Hp} {v:V} {u:Value},Inv (cxOf CX P w K mg base N qual scope f cdv A outer s H E) [] σ' H' s'→RelV v u→Q v H'→CE outer P w H s Q u s':=
  fun {σ' H' v u} J rv q=>⟨v,H',J.os,J.bare,J.base,J.hok,rv,q⟩
 cases fl with
 | ret u=>
   obtain ⟨v,σ',H',J,rv,q⟩:=hs
   exact fin J rv q
 | next=>
   obtain ⟨σ',H',J,q⟩:=hs
   exact fin (v:=V.non) (u:=Value.none) J rfl q
 | brk=>
   obtain ⟨_,_,_,q⟩:=hs
   exact False.elim q
 | cont=>
   obtain ⟨_,_,_,q⟩:=hs
   exact False.elim q
section
variable {X:Cx} {x:Str} {p pos:Pos} {e:Expr} {es:List Expr} {t:TA} {id T:String} {r:List V→Hp→VK→Prop}
def tCB (r:List V→Hp→VK→Prop) (t:TA):TE:=fun σ H Q=>t σ H fun vs H1=>r vs H1 Q
theorem HH (hc:CallR X (.builtin id) r) (hg:Gl X x) (hm:X.mg x=none) (hv:bootBuiltins x=some (.builtin id)) (ha:PA X (e::es) t) (hn:x≠"__name__":=by decide) (hdb:(x==("__debug__":Str))=false:=by decide)
  (he:starEach (e::es) X.env=(false,eval e X.env)::starEach es X.env:=by rfl) (hpl:(backTo pos (starEach es X.env)).any (·.1)=false:=by rfl):PE X (.Call (.Name x p) (e::es) [] pos) (tCB r t):=by
 intro pins s σ H Q I h
 refine wpAny_Call_Name_kw (Eb I hg hm hv ?_ hn hdb)
 exact PyProof.Rows.callWith_builtin1 (thn (ha pos pins s σ H _ I h) fun us s1 ⟨vs,H1,I1,r1,q1⟩=>hc pins s1 σ H1 vs us Q I1 r1 q1) he hpl
theorem FY (hc:CallR X (.type T) r) (hg:Gl X x) (hm:X.mg x=none) (hv:bootBuiltins x=some (.type T)) (ha:PA X (e::es) t) (hn:x≠"__name__":=by decide) (hdb:(x==("__debug__":Str))=false:=by decide)
  (he:starEach (e::es) X.env=(false,eval e X.env)::starEach es X.env:=by rfl) (hpl:(backTo pos (starEach es X.env)).any (·.1)=false:=by rfl):PE X (.Call (.Name x p) (e::es) [] pos) (tCB r t):=by
 intro pins s σ H Q I h
 refine wpAny_Call_Name_kw (Eb I hg hm hv ?_ hn hdb)
 exact PyProof.Rows.callWith_type1 (thn (ha pos pins s σ H _ I h) fun us s1 ⟨vs,H1,I1,r1,q1⟩=>hc pins s1 σ H1 vs us Q I1 r1 q1) he hpl
end
end L2
namespace HT
open PySem PyProof.Rows
section
open PySem.SeqAt
open PySem.AutoSeq1 (wpAny_loadPart')
open PySem.MeetsSeq PySem.MeetsSeq2 PySem.MeetsSeq3
end
section
variable {prog:Program} {w:World} {A:Around} {E:Value→Shared→Prop} {s:Shared}
theorem cat_tup {t b:Addr} {vs ws:List Value} {Q:Value→Shared→Prop} (ht:IsTup s.heap t vs.toArray) (hb:IsTup s.heap b ws.toArray) (hv:vs≠[])
  (h1:ws=[]→Q (.ref t) s) (h2:ws≠[]→Q (.ref s.heap.objs.size) {s with heap:=s.heap.push {cls:=.type "tuple",data:=.seq (vs++ws).toArray}})
  (hsz:vs.length + ws.length≤sizeLine):wpAny (model prog w) A (binaryOp .Add (.ref t) (.ref b)) Q E s:=by
 obtain ⟨⟨cls,dd,data,sl⟩,ho,hc,n,hd⟩:=id ht
 obtain ⟨⟨cls2,dd2,data2,sl2⟩,ho2,hc2,n2,hd2⟩:=id hb
 simp only at hc hd hc2 hd2
 subst hc hd hc2 hd2
 have e:vs.toArray++ws.toArray=(vs++ws).toArray:=by simp
 by_cases hw:ws=[]
 ·exact concat_meets ⟨_,ho,rfl⟩ ⟨_,ho2,rfl⟩ noFill_tuple_add seq_tuple_add PySem.F.slot_tuple_add PySem.F.entry_tuple_add (PySem.F.args_tuple_add_2 _ _)
   (tuple_addW1 t b vs.toArray ws.toArray n n2 dd dd2 sl sl2 (by simpa using hv) (by simp [hw])) ⟨ho,ho2,h1 hw⟩
 ·refine concat_meets ⟨_,ho,rfl⟩ ⟨_,ho2,rfl⟩ noFill_tuple_add seq_tuple_add PySem.F.slot_tuple_add PySem.F.entry_tuple_add (PySem.F.args_tuple_add_2 _ _)
   (tuple_addW2 t b vs.toArray ws.toArray n n2 dd dd2 sl sl2 (by simpa using hv) (by simpa using hw) (by rw [List.size_toArray,List.size_toArray];exact hsz)) ⟨ho,ho2,?_⟩
  rw [e]
  exact h2 hw
def sIx (n d:Nat):Option Int→Nat
 | none=>d
 | some v=>if v < 0 then (v + (n:Int)).toNat else min v.toNat n
theorem OC (n d:Nat) (hd:d≤n) (o:Option Int):sIx n d o≤n:=by
 cases o with
 | none=>exact hd
 | some v=>
   show (if v < 0 then (v + (n:Int)).toNat else min v.toNat n)≤n
   by_cases hv:v < 0
   ·rw [if_pos hv];omega
   ·rw [if_neg hv];exact Nat.min_le_right _ _
theorem Ju (v:Int) (n d:Nat):(if v < 0 then max (v + (n:Int)) 0 else min v (n:Int))=((sIx n d (some v):Nat):Int):=by
 show (if v < 0 then max (v + (n:Int)) 0 else min v (n:Int))=(((if v < 0 then (v + (n:Int)).toNat else min v.toNat n):Nat):Int)
 by_cases hv:v < 0
 ·simp only [if_pos hv];omega
 ·simp only [if_neg hv];omega
theorem ID (lo hi:Option Int) (n:Nat):Builtin.Slice.sliceAdjust lo hi 1 (n:Int)=(((sIx n 0 lo:Nat):Int),((sIx n n hi:Nat):Int)):=by
 have h1:¬((1:Int) < 0):=by omega
 unfold Builtin.Slice.sliceAdjust
 simp only [h1,if_false]
 refine Prod.ext ?_ ?_
 ·cases lo with
  | none=>rfl
  | some v=>exact Ju v n 0
 ·cases hi with
  | none=>rfl
  | some v=>exact Ju v n n
theorem Ia (i j:Nat):Builtin.Slice.slicePlaces (i:Int) (j:Int) 1=j - i:=by
 unfold Builtin.Slice.slicePlaces
 have h1:(1:Int) > 0:=by omega
 simp only [h1,if_true,Int.ediv_one]
 split <;> omega
theorem Fm {v:Value} {o:Option Int} {Q:Option Int→Shared→Prop} (p:IsPart v o) (h:Q o s):wpAny (model prog w) A (Builtin.Slice.slicePartIndex v) Q E s:=by
 cases p with
 | none=>exact slicePart_none h
 | int i t=>exact slicePart_int h
theorem Ej {sl:Addr} {vl vu:Value} {lo hi:Option Int} {n:Nat} {Q:Int×Int×Nat→Shared→Prop} (hs:s.heap.IsSliceOf sl vl vu .none) (pl:IsPart vl lo) (pu:IsPart vu hi)
  (h:Q (((sIx n 0 lo:Nat):Int),1,sIx n n hi - sIx n 0 lo) s):wpAny (model prog w) A (Builtin.Slice.sliceApplied (.ref sl) (pure (n:Int))) Q E s:=by
 obtain ⟨os,hos,hcs,hds⟩:=id hs
 unfold Builtin.Slice.sliceApplied Builtin.Slice.sliceFields
 refine wpAny_bind (wpAny_bind (wpAny_field hos hds (x:=vl) rfl (wpAny_bind (wpAny_field hos hds (x:=vu) rfl (wpAny_bind (wpAny_field hos hds (x:=.none) rfl (wpAny_pure ?_)))))))
 refine wpAny_bind (slicePart_none ?_)
 show wpAny _ _ (if ((1:Int)==0)=true then _ else _) _ _ s
 rw [if_neg (by decide)]
 refine wpAny_bind (Fm pl (wpAny_bind (Fm pu (wpAny_bind (wpAny_pure ?_)))))
 show wpAny _ _ (match Builtin.Slice.sliceAdjust lo hi 1 (n:Int) with | (lo,hi)=>pure (lo,(1:Int),Builtin.Slice.slicePlaces lo hi 1)) _ _ s
 rw [ID lo hi n]
 show wpAny _ _ (pure (((sIx n 0 lo:Nat):Int),(1:Int),Builtin.Slice.slicePlaces ((sIx n 0 lo:Nat):Int) ((sIx n n hi:Nat):Int) 1)) _ _ s
 rw [Ia]
 exact wpAny_pure h
theorem KI (xs:Array Value) (i k:Nat):((List.range k).filterMap fun (m:Nat)=>xs[((i:Int) + (m:Int) * 1).toNat]?).toArray=((xs.toList.drop i).take k).toArray:=by
 have e:(fun (m:Nat)=>xs[((i:Int) + (m:Int) * 1).toNat]?)=fun m=>xs[i + m]?:=by
  funext m
  have:((i:Int) + (m:Int) * 1).toNat=i + m:=by omega
  rw [this]
 rw [e]
 have:=pick_run xs i k
 rw [List.filterMap_map] at this
 have e2:((fun x=>xs[x]?) ∘ fun x=>i + x)=fun m=>xs[i + m]?:=rfl
 rw [e2] at this
 rw [this]
theorem getItem_tuple_cut {t sl:Addr} {items:Array Value} {vl vu:Value} {lo hi:Option Int} {Q:Value→Shared→Prop} (ht:IsTup s.heap t items) (hs:s.heap.IsSliceOf sl vl vu .none) (pl:IsPart vl lo) (pu:IsPart vu hi)
  (hw:¬(sIx items.size 0 lo=0∧sIx items.size items.size hi=items.size))
  (h:Q (.ref s.heap.objs.size) {s with heap:=s.heap.push {cls:=.type "tuple",data:=.seq ((items.toList.drop (sIx items.size 0 lo)).take (sIx items.size items.size hi - sIx items.size 0 lo)).toArray}})
  (hsz:items.size≤sizeLine):wpAny (model prog w) A (getItem (.ref t) (.ref sl)) Q E s:=by
 have htake:sizeOk (.seq ((items.toList.drop (sIx items.size 0 lo)).take (sIx items.size items.size hi - sIx items.size 0 lo)).toArray):=by
  show ((items.toList.drop (sIx items.size 0 lo)).take (sIx items.size items.size hi - sIx items.size 0 lo)).toArray.size≤sizeLine
  rw [List.size_toArray,List.length_take,List.length_drop,Array.length_toList]
  omega
 have hj:sIx items.size items.size hi≤items.size:=OC _ _ (Nat.le_refl _) hi
 obtain ⟨os,hos,hcs,hds⟩:=id hs
 have hTs:s.TypeIs (.ref sl) "slice":=⟨os,hos,hcs⟩
 unfold getItem
 try with_reducible refine wpAny_holding ?_
 first | refine wpAny_bind (wpAny_pure ?_) | skip
 refine wpAny_bind (wpAny_sequenceKey ht.typeIs (by decide) ?_)
 refine wpAny_bind (wpAny_callSpecial?_slot (name:=Str.ofString "__getitem__") ht.typeIs PyProof.Rows.slot_tuple_getitem
  (wpAny_call_entry PyProof.Rows.slot_tuple_getitem ht.typeIs entry_tuple_getitem ?_ (args_tuple_getitem _ _)))
 show wpAny _ _ (Builtin.Tuple.tupleItemsOf (.ref t) >>=_) _ _ s
 refine wpAny_bind (tupleItemsOf_ ht ?_)
 refine wpAny_bind (wpAny_typeOf hTs ?_)
 rw [if_pos (by decide)]
 refine wpAny_bind (Ej hs pl pu ?_)
 have hno:¬((((sIx items.size 0 lo:Nat):Int)==0 && (1:Int)==1 && (sIx items.size items.size hi - sIx items.size 0 lo)==items.size)=true):=by
  intro q
  rw [Bool.and_eq_true,Bool.and_eq_true] at q
  have q1:((sIx items.size 0 lo:Nat):Int)=0:=eq_of_beq q.1.1
  have q2:sIx items.size items.size hi - sIx items.size 0 lo=items.size:=eq_of_beq q.2
  exact hw ⟨by omega,by omega⟩
 show wpAny _ _ (if (((sIx items.size 0 lo:Nat):Int)==0 && (1:Int)==1 && (sIx items.size items.size hi - sIx items.size 0 lo)==items.size)=true then _ else _) _ _ s
 rw [if_neg hno,KI]
 first
  | exact wpAny_bind (m:=Builtin.Tuple.tupleExact _) (wpAny_newObj_type (wpAny_pure ⟨_,rfl,wpAny_pure h⟩) htake)
  | exact wpAny_bind (m:=Builtin.Tuple.tupleExact _) (wpAny_newObj_type (wpAny_bind (wpAny_pure (wpAny_pure ⟨_,rfl,wpAny_pure h⟩))) htake)
  | exact wpAny_bind (wpAny_bind (m:=Builtin.Tuple.tupleExact _) (wpAny_newObj_type (wpAny_pure (wpAny_pure ⟨_,rfl,wpAny_pure h⟩)) htake))
  | exact wpAny_bind (wpAny_bind (m:=Builtin.Tuple.tupleExact _) (wpAny_newObj_type (wpAny_pure ⟨_,rfl,wpAny_pure h⟩) htake))
end
end HT
namespace L2
open PySem PySem.Spec PyProof.Rows
abbrev TO:=St→Hp→(Option Int→Hp→Prop)→Prop
def PO (X:Cx) (e:Option Expr) (t:TO):Prop:=
 ∀(pins:List (Addr×Obj)) (s:Shared) (σ:St) (H:Hp) (Q:Option Int→Hp→Prop),Inv X pins σ H s→t σ H Q→
  wpAny (model X.prog X.w) X.A (evalPart e X.env) (fun u s'=>∃o H',Inv X pins σ H' s'∧IsPart u o∧Q o H') X.xe s
def MF:TO:=fun _ H Q=>Q none H
def Q4 (t:TE):TO:=fun σ H Q=>t σ H fun x H1=>∃i,x=.int i∧Q (some i) H1
theorem intsAre_of {ns:List Int}:∀{us:List Value},Vals (ns.map V.int) us→IntsAre us ns:=by
 induction ns with
 | nil=>intro us r;rw [List.map_nil] at r;cases r;exact .nil
 | cons n ns ih=>
   intro us r
   rw [List.map_cons] at r
   cases r with
   | cons r1 r2=>
     obtain ⟨t,e⟩:=r1
     subst e
     exact .cons n t (ih r2)
section
variable {X:Cx} {e:Expr} {te:TE} {lo hi:Option Expr} {tl th:TO} {pos p2:Pos}
theorem Mp:PO X none MF:=by
 intro pins s σ H Q I h
 rw [evalPart_none]
 exact wpAny_pure ⟨none,H,I,.none,h⟩
theorem Nl (h:PE X e te):PO X (some e) (Q4 te):=by
 intro pins s σ H Q I hw
 rw [evalPart_some]
 refine thn (h pins s σ H _ I hw) fun u s1 ⟨x,H1,I1,r1,q1⟩=>?_
 obtain ⟨i,rfl,q⟩:=q1
 obtain ⟨t,rfl⟩:=r1
 exact ⟨some i,H1,I1,.int i t,q⟩
def SlR (X:Cx) (r:V→Option Int→Option Int→Hp→VK→Prop):Prop:=
 ∀(pins:List (Addr×Obj)) (s:Shared) (σ:St) (H:Hp) (x:V) (v vl vu:Value) (lo hi:Option Int) (sl:Addr) (Q:VK),Inv X pins σ H s→RelV x v→s.heap.IsSliceOf sl vl vu .none→IsPart vl lo→IsPart vu hi→r x lo hi H Q→
  ∃T id,typeLookup (.type T) "__getitem__"=pure (some (.builtin id))∧s.TypeIs v T∧wpAny (model X.prog X.w) X.A (getItem v (.ref sl)) (EP X pins σ Q) X.xe s
def tSl (r:V→Option Int→Option Int→Hp→VK→Prop) (te:TE) (tl th:TO):TE:=fun σ H Q=>te σ H fun x H1=>tl σ H1 fun l H2=>th σ H2 fun u H3=>r x l u H3 Q
theorem HI {r:V→Option Int→Option Int→Hp→VK→Prop} (hr:SlR X r) (he:PE X e te) (hl:PO X lo tl) (hu:PO X hi th):PE X (.Subscript e (.Slice lo hi none p2) pos) (tSl r te tl th):=by
 intro pins s σ H Q I h
 refine Subscript_ (thn (he pins s σ H _ I h) fun v s1 ⟨x,H1,I1,r1,q1⟩=>?_)
 refine wpAny_Slice (thn (hl pins s1 σ H1 _ I1 q1) fun vl s2 ⟨l,H2,I2,pl,q2⟩=>thn (hu pins s2 σ H2 _ I2 q2) fun vu s3 ⟨u,H3,I3,pu,q3⟩=>?_)
 rw [evalPart_none]
 refine wpAny_pure ?_
 have I4:Inv X pins σ H3 {s3 with heap:=s3.heap.push {cls:=.type "slice",data:=.fields #[vl,vu,.none]}}:=I3.kept (t':=s3.toks) fun b ob q=>Heap.get?_push_of_some _ q
 obtain ⟨T,id,hT,ht,hg⟩:=hr pins {s3 with heap:=s3.heap.push {cls:=.type "slice",data:=.fields #[vl,vu,.none]}} σ H3 x v vl vu l u s3.heap.objs.size Q I4 r1 (Heap.IsSliceOf.new ..) pl pu q3
 show wpAny (model X.prog X.w) X.A (subscriptTail e (.Slice lo hi none p2) v (.ref s3.heap.objs.size)) (EP X pins σ Q) X.xe {s3 with heap:=s3.heap.push {cls:=.type "slice",data:=.fields #[vl,vu,.none]}}
 exact tail_any (ops:=[.ref s3.heap.objs.size,v]) ht hT hg (by with_unfolding_all rfl)
def cutV (xs:List V) (lo hi:Option Int):List V:=(xs.drop (HT.sIx xs.length 0 lo)).take (HT.sIx xs.length xs.length hi - HT.sIx xs.length 0 lo)
theorem Es (xs:List V) (lo hi:Option Int):(cutV xs lo hi).length≤xs.length:=by
 unfold cutV
 rw [List.length_take,List.length_drop]
 omega
def rSlT (K:PySem.W.Frag):V→Option Int→Option Int→Hp→VK→Prop:=fun x lo hi H Q=>∃a xs,x=.ref a∧SqT K H a xs∧
 ¬(HT.sIx xs.length 0 lo=0∧HT.sIx xs.length xs.length hi=xs.length)∧∀p,H p=none→Q (.ref p) (upd H p (.tup (cutV xs lo hi)))
theorem Ol:SlR X (rSlT X.K):=by
 intro pins s σ H x v vl vu lo hi sl Q I rx hs pl pu h
 obtain ⟨a,xs,rfl,hx,hw,q⟩:=h
 cases rx
 obtain ⟨its,r,ht,hz⟩:=I.tuple hx
 have hlen:its.toArray.size=xs.length:=by rw [List.size_toArray];exact r.length.symm
 refine ⟨"tuple",_,PyProof.Rows.slot_tuple_getitem.lookup,ht.typeIs,?_⟩
 refine HT.getItem_tuple_cut ht hs pl pu (by rw [hlen];exact hw) ?_ (by rw [hlen];exact hz)
 rw [hlen]
 refine ⟨.ref s.heap.objs.size,_,I.laid (t':=s.toks) (o:=.tup (cutV xs lo hi)) (fun b ob q=>Heap.get?_push_of_some _ q) (Nat.le_refl _) ?_,rfl,q _ (I.hok.fresh (Nat.le_refl _))⟩
 exact ⟨Nat.le_trans (Es xs lo hi) hz,⟨_,(r.drop (HT.sIx xs.length 0 lo)).take (HT.sIx xs.length xs.length hi - HT.sIx xs.length 0 lo),IsTup.new _ _⟩,_,Heap.get?_push_size _ rfl,rfl⟩
def Qp (K:PySem.W.Frag):R2:=fun x y H Q=>∃a b xs ys,x=.ref a∧y=.ref b∧SqT K H a xs∧SqT K H b ys∧xs≠[]∧xs.length + ys.length≤sizeLine∧
 (ys=[]→Q (.ref a) H)∧(ys≠[]→∀p,H p=none→Q (.ref p) (upd H p (.tup (xs++ys))))
theorem Vals.nil_iff {xs:List V} {us:List Value} (r:Vals xs us):us=[]↔xs=[]:=by
 cases r with
 | nil=>simp
 | cons _ _=>simp
theorem op_catT:OpR X (binaryOp .Add) (Qp X.K):=by
 intro pins s σ H x y v u Q I rx ry h
 obtain ⟨a,b,xs,ys,rfl,rfl,ha,hb,hx,hz,q1,q2⟩:=h
 cases rx
 cases ry
 obtain ⟨its,r1,p1,_⟩:=I.tuple ha
 obtain ⟨its2,r2,p2,_⟩:=I.tuple hb
 refine HT.cat_tup p1 p2 (fun z=>hx (r1.nil_iff.mp z)) (fun z=>⟨.ref a,H,I,rfl,q1 (r2.nil_iff.mp z)⟩) (fun z=>?_) (by rw [←r1.length,←r2.length];exact hz)
 refine ⟨.ref s.heap.objs.size,_,I.laid (t':=s.toks) (o:=.tup (xs++ys)) (fun b ob q=>Heap.get?_push_of_some _ q) (Nat.le_refl _) ?_,rfl,q2 (fun w=>z (r2.nil_iff.mpr w)) _ (I.hok.fresh (Nat.le_refl _))⟩
 exact ⟨by rw [List.length_append];exact hz,⟨_,r1.append r2,IsTup.new _ _⟩,_,Heap.get?_push_size _ rfl,rfl⟩
end
def ixN (n:Nat) (i:Int):Option Nat:=if 0≤i then (if i < n then some i.toNat else none) else if -(n:Int)≤i then some (i + n).toNat else none
def atI {α:Type} (xs:List α) (i:Int):Option α:=(ixN xs.length i).bind fun j=>xs[j]?
theorem IP {n:Nat} {i:Int} {j:Nat} (h:ixN n i=some j):seqIndex? i n=some j∧j < n∧-(n:Int)≤i∧i < n:=by
 unfold ixN at h
 by_cases h0:0≤i
 ·rw [if_pos h0] at h
  by_cases h1:i < n
  ·rw [if_pos h1] at h
   have e:i.toNat=j:=Option.some.inj h
   exact ⟨by rw [seqIndex_of h0 h1,e],by omega,by omega,h1⟩
  ·rw [if_neg h1] at h;cases h
 ·rw [if_neg h0] at h
  by_cases h1:-(n:Int)≤i
  ·rw [if_pos h1] at h
   have e:(i + n).toNat=j:=Option.some.inj h
   exact ⟨by rw [seqIndex_neg (by omega) h1,e],by omega,h1,by omega⟩
  ·rw [if_neg h1] at h;cases h
theorem J2 {α:Type} {xs:List α} {i:Int} {v:α} (h:atI xs i=some v):∃j,seqIndex? i xs.length=some j∧xs[j]?=some v∧j < xs.length∧-(xs.length:Int)≤i∧i < xs.length:=by
 unfold atI at h
 cases e:ixN xs.length i with
 | none=>rw [e] at h;cases h
 | some j=>
   rw [e] at h
   obtain ⟨h1,h2,h3,h4⟩:=IP e
   exact ⟨j,h1,h,h2,h3,h4⟩
theorem M9 {α:Type} {xs:List α} {j:Nat} {v:α} (h:xs[j]?=some v):atI xs (j:Int)=some v:=by
 have hj:j < xs.length:=(List.getElem?_eq_some_iff.mp h).1
 have e:ixN xs.length (j:Int)=some j:=by
  unfold ixN
  rw [if_pos (by omega),if_pos (by omega)];simp
 unfold atI;rw [e];exact h
theorem K5 {α:Type} (xs:List α) (v:α):atI (xs++[v]) (-1)=some v:=by
 have hl:(xs++[v]).length=xs.length + 1:=by simp
 have e:ixN (xs++[v]).length (-1)=some xs.length:=by
  unfold ixN
  rw [hl,if_neg (by decide),if_pos (by omega)]
  congr 1
  omega
 unfold atI
 rw [e]
 show (xs++[v])[xs.length]?=some v
 simp
def EE (b:Expr):Prop:=∀o i,subscripted b false o i=operate [o,i] (getItem o i)
def IxR (X:Cx) (r:R2):Prop:=
 ∀(value slice:Expr) (pins:List (Addr×Obj)) (s:Shared) (σ:St) (H:Hp) (x y:V) (v u:Value) (Q:VK),Inv X pins σ H s→RelV x v→RelV y u→r x y H Q→
  subscripted slice false v u=operate [v,u] (getItem v u)→wpAny (model X.prog X.w) X.A (subscriptTail value slice v u) (EP X pins σ Q) X.xe s
def MtR (X:Cx) (id:String) (r:V→List V→Hp→VK→Prop):Prop:=
 ∀(pins:List (Addr×Obj)) (s:Shared) (σ:St) (H:Hp) (x:V) (xs:List V) (v:Value) (us:List Value) (Q:VK),Inv X pins σ H s→RelV x v→Vals xs us→r x xs H Q→
  wpAny (model X.prog X.w) X.A (call (.builtin id) (v::us)) (EP X pins σ Q) X.xe s
section
variable {X:Cx} {a b:Expr} {ta tb:TE} {pos:Pos}
theorem Mh {r:R2} (hr:IxR X r) (ha:PE X a ta) (hb:PE X b tb) (hs:EE b):PE X (.Subscript a b pos) (tOp r ta tb):=by
 intro pins s σ H Q I h
 exact Subscript_ (binT ha hb I h fun v u s2 x y H2 I2 rx ry q=>hr a b pins s2 σ H2 x y v u Q I2 rx ry q (hs _ _))
def rIxL (K:PySem.W.Frag):R2:=fun x y H Q=>∃p xs i v,x=.ref p∧y=.int i∧SqL K H p xs∧atI xs i=some v∧Q v H
def rIxT (K:PySem.W.Frag):R2:=fun x y H Q=>∃p xs i v,x=.ref p∧y=.int i∧SqT K H p xs∧atI xs i=some v∧Q v H
theorem Na:IxR X (rIxL X.K):=by
 intro value slice pins s σ H x y v u Q I rx ry h hs
 obtain ⟨p,xs,i,z,rfl,rfl,hq,he,q⟩:=h
 cases rx
 obtain ⟨t,rfl⟩:=ry
 obtain ⟨its,r,pl,hz⟩:=I.list hq
 obtain ⟨j,h1,h2,h3,h4,h5⟩:=J2 he
 obtain ⟨w,ew,rw'⟩:=r.get h2
 have hl:=r.length
 have hn:=EM
 have fin:EP X pins σ Q w s:=⟨z,H,I,rw',q⟩
 by_cases h0:0≤i
 ·have hj:i.toNat=j:=by
   rw [seqIndex_of h0 h5] at h1
   exact Option.some.inj h1
  exact item_listR pl.isList h0 (by omega) (by rw [hj];simpa using ew) fin hs
 ·have hj:(i + (its.toArray.size:Int)).toNat=j:=by
   rw [seqIndex_neg (by omega) h4] at h1
   rw [List.size_toArray,←hl]
   exact Option.some.inj h1
  exact subscriptTail_builtinR (x:=w) pl.isList.typeIs slot_list_getitem.lookup
   (wpAny_getItem_list_neg (Q:=fun r s'=>r=w∧EP X pins σ Q r s') pl.isList (by omega) (by rw [List.size_toArray] <;> omega) (by omega) (by rw [hj];simpa using ew) ⟨rfl,fin⟩) hs
theorem Pf:IxR X (rIxT X.K):=by
 intro value slice pins s σ H x y v u Q I rx ry h hs
 obtain ⟨p,xs,i,z,rfl,rfl,hq,he,q⟩:=h
 cases rx
 obtain ⟨t,rfl⟩:=ry
 obtain ⟨its,r,pl,hz⟩:=I.tuple hq
 obtain ⟨j,h1,h2,h3,h4,h5⟩:=J2 he
 obtain ⟨w,ew,rw'⟩:=r.get h2
 have hl:=r.length
 have hn:=EM
 have fin:EP X pins σ Q w s:=⟨z,H,I,rw',q⟩
 exact subscriptTail_builtinR (x:=w) pl.typeIs slot_tuple_getitem.lookup
  (getItem_tuple (j:=j) (Q:=fun r s'=>r=w∧EP X pins σ Q r s') pl (by omega) (by omega) (by rw [List.size_toArray,←hl];exact h1) (by simpa using ew) ⟨rfl,fin⟩) hs
theorem Ie (its:List Value) (n j:Nat) (u:Value):Obj.mapSeq (·.setIfInBounds j u) {cls:=.type "list",data:=.seq its.toArray n}={cls:=.type "list",data:=.seq (its.set j u).toArray n}:=by
 simp [Obj.mapSeq]
theorem Inv.lst {pins:List (Addr×Obj)} {σ:St} {H:Hp} {s:Shared} {p:Addr} {xs:List V} (I:Inv X pins σ H s) (h:H p=some (.lst xs)):
  ∃(its:List Value) (n:Nat),Vals xs its∧s.heap.get? p=some {cls:=.type "list",data:=.seq its.toArray n}∧xs.length≤sizeLine:=by
 obtain ⟨z,its,n,r,e⟩:=I.hok p _ h
 exact ⟨its,n,r,e,z⟩
theorem Inv.lstUpd {pins:List (Addr×Obj)} {σ:St} {H:Hp} {s:Shared} {p:Addr} {xs ys:List V} {its its':List Value} {n n':Nat} {f:Obj→Obj} (I:Inv X pins σ H s) (h:H p=some (.lst xs))
  (ho:s.heap.get? p=some {cls:=.type "list",data:=.seq its.toArray n}) (hf:f {cls:=.type "list",data:=.seq its.toArray n}={cls:=.type "list",data:=.seq its'.toArray n'}) (r:Vals ys its') (hz:ys.length≤sizeLine) (t:Nat):
  Inv X pins σ (upd H p (.lst ys)) {s with heap:=s.heap.update p f,toks:=t}:=by
 have e:(s.heap.update p f).get? p=some {cls:=.type "list",data:=.seq its'.toArray n'}:=by
  rw [Heap.get?_update_self f ho (by rw [hf] <;> rfl),hf]
 refine I.write (x:=p) (e:=p) (by rw [h];trivial) (.inl rfl) (fun b u hb q=>(Heap.get?_update_other _ _ (Ne.symm hb)).trans q) ⟨_,e⟩ ?_
 exact ⟨hz,its',n',r,e⟩
def PD:V→V→V→Hp→(Hp→Prop)→Prop:=fun o i v H Q=>∃p xs k j,o=.ref p∧i=.int k∧H p=some (.lst xs)∧ixN xs.length k=some j∧Q (upd H p (.lst (xs.set j v)))
theorem set_list:PSet X PD:=by
 intro pins s σ H o i v ov iv u Q I ro ri rv h
 obtain ⟨p,xs,k,j,rfl,rfl,hp,hj,q⟩:=h
 cases ro
 obtain ⟨t,rfl⟩:=ri
 obtain ⟨its,n,r,ho,hz⟩:=I.lst hp
 obtain ⟨h1,h2,h3,h4⟩:=IP hj
 have hl:=r.length
 have hn:=EM
 have I':Inv X pins σ (upd H p (.lst (xs.set j v))) {s with heap:=s.heap.update p (Obj.mapSeq (·.setIfInBounds j u))}:=
  I.lstUpd hp ho (Ie its n j u) (r.set rv j) (by rw [List.length_set];exact hz) s.toks
 by_cases h0:0≤k
 ·have hk:k.toNat=j:=by
   rw [seqIndex_of h0 h4] at h1
   exact Option.some.inj h1
  exact PySem.W.ki_setAt ho h0 (by omega) (by rw [List.size_toArray,←hl];exact h4) (by rw [hk];exact ⟨_,I',q⟩)
 ·have hk:(k + (its.toArray.size:Int)).toNat=j:=by
   rw [seqIndex_neg (by omega) h3] at h1
   rw [List.size_toArray,←hl]
   exact Option.some.inj h1
  exact PySem.W.ki_setBack ho (by omega) (by rw [List.size_toArray,←hl];exact h3) (by omega) (by rw [hk];exact ⟨_,I',q⟩)
theorem Gy (lo hi:Option Int) (n:Nat):(sliceBounds lo hi none n).1=((HT.sIx n 0 lo:Nat):Int)∧(sliceBounds lo hi none n).2.1=((HT.sIx n n hi:Nat):Int)∧(sliceBounds lo hi none n).2.2=1:=by
 refine ⟨?_,?_,rfl⟩
 ·cases lo with
  | none=>simp [sliceBounds,HT.sIx]
  | some i=>
    simp only [sliceBounds,HT.sIx,Option.getD_none,show (1:Int) > 0 by decide,if_true]
    by_cases h:i < 0
    ·simp only [h,if_true] <;> omega
    ·simp only [h,if_false] <;> omega
 ·cases hi with
  | none=>simp [sliceBounds,HT.sIx]
  | some i=>
    simp only [sliceBounds,HT.sIx,Option.getD_none,show (1:Int) > 0 by decide,if_true]
    by_cases h:i < 0
    ·simp only [h,if_true] <;> omega
    ·simp only [h,if_false] <;> omega
theorem Fs (its:List Value) (lo hi:Option Int):slicePick its.toArray lo hi none=((its.drop (HT.sIx its.length 0 lo)).take (HT.sIx its.length its.length hi - HT.sIx its.length 0 lo)).toArray:=by
 obtain ⟨h1,h2,h3⟩:=Gy lo hi its.toArray.size
 unfold slicePick
 rw [h1,h2,h3]
 simp only [sliceRange_one,pick_run,List.size_toArray] <;> rfl
def rSlL (K:PySem.W.Frag):V→Option Int→Option Int→Hp→VK→Prop:=fun x lo hi H Q=>∃a xs,x=.ref a∧SqL K H a xs∧∀p,H p=none→Q (.ref p) (upd H p (.lst (cutV xs lo hi)))
theorem Nj:SlR X (rSlL X.K):=by
 intro pins s σ H x v vl vu lo hi sl Q I rx hs pl pu h
 obtain ⟨a,xs,rfl,hx,q⟩:=h
 cases rx
 obtain ⟨its,r,ht,hz⟩:=I.list hx
 have hlen:=r.length
 refine ⟨"list",_,slot_list_getitem.lookup,ht.isList.typeIs,?_⟩
 refine wpAny_getItem_list_slice ht.isList hs pl pu .none (by simp) ?_ (by rw [List.size_toArray] <;> omega)
 rw [Fs,←hlen]
 refine ⟨.ref s.heap.objs.size,_,I.laid (t':=s.toks) (o:=.lst (cutV xs lo hi)) (fun b ob q=>Heap.get?_push_of_some _ q) (Nat.le_refl _) ?_,rfl,q _ (I.hok.fresh (Nat.le_refl _))⟩
 exact ⟨Nat.le_trans (Es xs lo hi) hz,_,0,(r.drop (HT.sIx xs.length 0 lo)).take (HT.sIx xs.length xs.length hi - HT.sIx xs.length 0 lo),Heap.get?_push_size _ rfl⟩
def Dc:V→Bool
 | .non=>true
 | .bl _=>true
 | .int _=>true
 | .str _=>true
 | _=>false
def eqV:V→V→Bool
 | .non,.non=>true
 | .bl a,.bl b=>a==b
 | .bl a,.int b=>(if a then 1 else 0)==b
 | .int a,.bl b=>a==(if b then 1 else 0)
 | .int a,.int b=>a==b
 | .str a,.str b=>a==b
 | _,_=>false
theorem II {A:Around} {s:Shared} {y x:V} {u v:Value} (ry:RelV y u) (rx:RelV x v) (fy:Dc y=true) (fx:Dc x=true):SeqAt.EqAt A s u v (eqV y x):=by
 cases y with
 | non=>
   cases ry
   cases x with
   | non=>cases rx;exact SeqAt.EqAt.same _
   | bl b=>cases rx;exact SeqAt.EqAt.none_bool b
   | int b=>obtain ⟨t,rfl⟩:=rx;exact SeqAt.EqAt.none_int b t
   | str b=>obtain ⟨t,rfl⟩:=rx;exact SeqAt.EqAt.none_str b t
   | _=>exact absurd (show false=true from fx) Bool.false_ne_true
 | bl a=>
   cases ry
   cases x with
   | non=>cases rx;exact SeqAt.EqAt.bool_none a
   | bl b=>cases rx;exact SeqAt.EqAt.bool_bool a b
   | int b=>obtain ⟨t,rfl⟩:=rx;exact SeqAt.EqAt.bool_int a b t
   | str b=>obtain ⟨t,rfl⟩:=rx;exact SeqAt.EqAt.bool_str a b t
   | _=>exact absurd (show false=true from fx) Bool.false_ne_true
 | int a=>
   obtain ⟨t',rfl⟩:=ry
   cases x with
   | non=>cases rx;exact SeqAt.EqAt.int_none a t'
   | bl b=>cases rx;exact SeqAt.EqAt.int_bool a t' b
   | int b=>obtain ⟨t,rfl⟩:=rx;exact SeqAt.EqAt.int_int a t' b t
   | str b=>obtain ⟨t,rfl⟩:=rx;exact SeqAt.EqAt.int_str a t' b t
   | _=>exact absurd (show false=true from fx) Bool.false_ne_true
 | str a=>
   obtain ⟨t',rfl⟩:=ry
   cases x with
   | non=>cases rx;exact SeqAt.EqAt.str_none a t'
   | bl b=>cases rx;exact SeqAt.EqAt.str_bool a t' b
   | int b=>obtain ⟨t,rfl⟩:=rx;exact SeqAt.EqAt.str_int a t' b t
   | str b=>obtain ⟨t,rfl⟩:=rx;exact SeqAt.EqAt.str_str a t' b t
   | _=>exact absurd (show false=true from fx) Bool.false_ne_true
 | _=>exact absurd (show false=true from fy) Bool.false_ne_true
def eqU (x:V) (u:Value):Bool:=match u with
 | .none=>eqV .non x
 | .bool b=>eqV (.bl b) x
 | .int i _=>eqV (.int i) x
 | .str z _=>eqV (.str z) x
 | _=>false
theorem LP {x y:V} {u:Value} (r:RelV y u) (f:Dc y=true):eqU x u=eqV y x:=by
 cases y with
 | non=>cases r;rfl
 | bl b=>cases r;rfl
 | int i=>obtain ⟨t,rfl⟩:=r;rfl
 | str z=>obtain ⟨t,rfl⟩:=r;rfl
 | _=>exact absurd (show false=true from f) Bool.false_ne_true
theorem DJ {x:V}:∀{xs:List V} {us:List Value},Vals xs us→xs.all Dc=true→us.any (eqU x)=xs.any fun y=>eqV y x
 | _,_,.nil,_=>rfl
 | y::xs,u::us,.cons r t,f=>by
   rw [List.all_cons,Bool.and_eq_true] at f
   rw [List.any_cons,List.any_cons,LP r f.1,DJ t f.2]
theorem CF {A:Around} {s:Shared} {x:V} {v:Value} (rx:RelV x v) (fx:Dc x=true):∀{xs:List V} {us:List Value},Vals xs us→xs.all Dc=true→∀u∈us,SeqAt.EqAt A s u v (eqU x u)
 | _,_,.nil,_=>fun u hu=>by cases hu
 | y::xs,u::us,.cons r t,f=>fun u' hu=>by
   rw [List.all_cons,Bool.and_eq_true] at f
   rcases List.mem_cons.mp hu with rfl | hu
   ·rw [LP r f.1];exact II r rx f.1 fx
   ·exact CF rx fx t f.2 u' hu
def inV (x:V) (xs:List V):Bool:=xs.any fun y=>eqV y x
def rIn (K:PySem.W.Frag) (neg:Bool):R2:=fun x y H Q=>∃p xs,y=.ref p∧(SqL K H p xs∨SqT K H p xs)∧Dc x=true∧xs.all Dc=true∧Q (.bl (if neg then !inV x xs else inV x xs)) H
theorem op_in_seq:OpR X (compareOp .In) (rIn X.K false):=by
 intro pins s σ H x y v u Q I rx ry h
 obtain ⟨p,xs,rfl,hq,fx,fs,q⟩:=h
 cases ry
 rcases hq with hq | hq
 ·obtain ⟨its,r,pl,hz⟩:=I.list hq
  refine SeqAt.in_listAt (eqU x) pl.isList (fun w hw=>CF rx fx r fs w (by simpa using hw)) ⟨.bl _,H,I,rfl,?_⟩
  rw [show its.toArray.any (eqU x)=its.any (eqU x) by simp,DJ r fs]
  exact q
 ·obtain ⟨its,r,pl,hz⟩:=I.tuple hq
  refine SeqAt.in_tupleAt (eqU x) pl (fun w hw=>CF rx fx r fs w (by simpa using hw)) ⟨.bl _,H,I,rfl,?_⟩
  rw [show its.toArray.any (eqU x)=its.any (eqU x) by simp,DJ r fs]
  exact q
theorem op_notIn_seq:OpR X (compareOp .NotIn) (rIn X.K true):=by
 intro pins s σ H x y v u Q I rx ry h
 obtain ⟨p,xs,rfl,hq,fx,fs,q⟩:=h
 cases ry
 rcases hq with hq | hq
 ·obtain ⟨its,r,pl,hz⟩:=I.list hq
  refine SeqAt.notIn_listAt (eqU x) pl.isList (fun w hw=>CF rx fx r fs w (by simpa using hw)) ⟨.bl _,H,I,rfl,?_⟩
  rw [show its.toArray.any (eqU x)=its.any (eqU x) by simp,DJ r fs]
  exact q
 ·obtain ⟨its,r,pl,hz⟩:=I.tuple hq
  refine SeqAt.notIn_tupleAt (eqU x) pl (fun w hw=>CF rx fx r fs w (by simpa using hw)) ⟨.bl _,H,I,rfl,?_⟩
  rw [show its.toArray.any (eqU x)=its.any (eqU x) by simp,DJ r fs]
  exact q
theorem call_len_seq:CallR X (.builtin "len") (fun xs H Q=>∃p ys,xs=[.ref p]∧(SqL X.K H p ys∨SqT X.K H p ys)∧Q (.int ys.length) H):=by
 intro pins s σ H xs us Q I r h
 obtain ⟨p,ys,rfl,hq,q⟩:=h
 obtain ⟨u,rfl,rx⟩:=vals1 r
 cases rx
 have hn:=EM
 rcases hq with hq | hq
 ·obtain ⟨its,r',pl,hz⟩:=I.list hq
  have hlen:=r'.length
  exact Calls.call_len_list pl.isList (by simp only [List.size_toArray] <;> omega) ⟨.int ys.length,H,I.tok _,⟨s.toks + 1,by rw [List.size_toArray,hlen]⟩,q⟩
 ·obtain ⟨its,r',pl,hz⟩:=I.tuple hq
  have hlen:=r'.length
  exact len_tuple pl (by simp only [List.size_toArray] <;> omega) ⟨.int ys.length,H,I.tok _,⟨s.toks + 1,by rw [List.size_toArray,hlen]⟩,q⟩
theorem call_len_str:CallR X (.builtin "len") (fun xs H Q=>∃z,xs=[.str z]∧z.length≤sizeLine∧Q (.int z.length) H):=by
 intro pins s σ H xs us Q I r h
 obtain ⟨z,rfl,hz,q⟩:=h
 obtain ⟨u,rfl,t,rfl⟩:=vals1 r
 have hn:=EM
 exact len_str (by omega) ⟨.int z.length,H,I.tok _,⟨_,rfl⟩,q⟩
theorem call_list_of:CallR X (.type "list") (fun xs H Q=>∃p ys,xs=[.ref p]∧(SqL X.K H p ys∨SqT X.K H p ys)∧∀l,H l=none→Q (.ref l) (upd H l (.lst ys))):=by
 intro pins s σ H xs us Q I r h
 obtain ⟨p,ys,rfl,hq,q⟩:=h
 obtain ⟨u,rfl,rx⟩:=vals1 r
 cases rx
 have fin:∀(its:List Value),Vals ys its→ys.length≤sizeLine→∀(h':Heap) (c':Nat),(∀b o',s.heap.get? b=some o'→h'.get? b=some o')→
   h'.get? s.heap.objs.size=some {cls:=.type "list",dict:=none,data:=.seq its.toArray c',slots:=#[]}→EP X pins σ Q (.ref s.heap.objs.size) {s with heap:=h'}:=fun its r' hz h' c' kp e=>
  ⟨.ref s.heap.objs.size,_,I.laid (t':=s.toks) kp (Nat.le_refl _) (show ObjOk X.prog X.w _ h' _ (.lst ys) from ⟨hz,its,c',r',e⟩),rfl,q _ (I.hok.fresh (Nat.le_refl _))⟩
 rcases hq with hq | hq
 ·obtain ⟨its,r',pl,hz⟩:=I.list hq
  have hlen:=r'.length
  obtain ⟨o,ho,hc,n,hd⟩:=pl.isList
  exact call_list_seq p (.inl rfl) ho hc hd (fun h' c' kp e=>fin its r' hz h' c' kp e) (by simp only [List.size_toArray] <;> omega)
 ·obtain ⟨its,r',pl,hz⟩:=I.tuple hq
  have hlen:=r'.length
  obtain ⟨o,ho,hc,n,hd⟩:=pl
  exact call_list_seq p (.inr rfl) ho hc hd (fun h' c' kp e=>fin its r' hz h' c' kp e) (by simp only [List.size_toArray] <;> omega)
theorem call_tuple_of:CallR X (.type "tuple") (fun xs H Q=>∃p ys,xs=[.ref p]∧((SqL X.K H p ys∧∀l,H l=none→Q (.ref l) (upd H l (.tup ys)))∨(SqT X.K H p ys∧Q (.ref p) H))):=by
 intro pins s σ H xs us Q I r h
 obtain ⟨p,ys,rfl,h⟩:=h
 obtain ⟨u,rfl,rx⟩:=vals1 r
 cases rx
 rcases h with ⟨hq,q⟩ | ⟨hq,q⟩
 ·obtain ⟨its,r',pl,hz⟩:=I.list hq
  have hlen:=r'.length
  refine call_tuple_list pl.isList (fun h' kp=>?_) (by simp only [List.size_toArray] <;> omega)
  have I1:Inv X pins σ H {s with heap:=h'}:=I.kept (t':=s.toks) kp
  have I2:Inv X pins σ (upd H h'.objs.size (.tup ys)) {s with heap:=h'.push {cls:=.type "tuple",data:=.seq its.toArray}}:=
   I1.laid (t':=s.toks) (fun b o e=>Heap.get?_push_of_some _ e) (Nat.le_refl _) (show ObjOk X.prog X.w _ _ _ (.tup ys) from ⟨hz,⟨its,r',IsTup.new _ _⟩,_,Heap.get?_push_size _ rfl,rfl⟩)
  exact ⟨.ref h'.objs.size,_,I2,rfl,q _ (I1.hok.fresh (Nat.le_refl _))⟩
 ·obtain ⟨its,r',pl,hz⟩:=I.tuple hq
  exact call_tuple_same pl ⟨.ref p,H,I,rfl,q⟩
def tyV (K:PySem.W.Frag) (T:String) (x:V) (H:Hp):Prop:=match x with
 | .str _=>T="str"
 | .int _=>T="int"
 | .ref p=>(T="list"∧∃xs,SqL K H p xs)∨(T="tuple"∧∃o,K.lookup p=some o∧o.cls=.type "tuple"∧o.dict=none)∨
   (T="dict"∧((∃kvs,H p=some (.dK kvs))∨∃kvs,H p=some (.dT kvs)))∨(T="set"∧∃S n,H p=some (.set S n))
 | _=>False
theorem Ov {pins:List (Addr×Obj)} {σ:St} {H:Hp} {s:Shared} {T:String} {x:V} {v:Value} (I:Inv X pins σ H s) (r:RelV x v) (ty:tyV X.K T x H):
  s.TypeIs v T∧∀a,v=.ref a→∃ob,s.heap.get? a=some ob∧ob.dict=none:=by
 cases x with
 | str z=>
   obtain ⟨t,rfl⟩:=r
   cases (show T="str" from ty)
   exact ⟨typeIs_str s z t,fun _ e=>nomatch e⟩
 | int i=>
   obtain ⟨t,rfl⟩:=r
   cases (show T="int" from ty)
   exact ⟨typeIs_int s i t,fun _ e=>nomatch e⟩
 | ref p=>
   cases r
   rcases ty with ⟨rfl,xs,hq⟩ | ⟨rfl,o,hk,hc,hd⟩ | ⟨rfl,hk⟩ | ⟨rfl,S,n,hk⟩
   ·obtain ⟨its,_,pl,_⟩:=I.list hq
    refine ⟨pl.isList.typeIs,fun a e=>?_⟩
    cases e
    obtain ⟨o,n,e,c,hd,_⟩:=pl
    exact ⟨o,e,hd⟩
   ·refine ⟨⟨o,I.kIn p o hk,hc⟩,fun a e=>?_⟩
    cases e
    exact ⟨o,I.kIn _ o hk,hd⟩
   ·have z:∃o,s.heap.get? p=some o∧o.ExactDict:=by
     rcases hk with ⟨kvs,hk⟩ | ⟨kvs,hk⟩
     ·obtain ⟨_,_,_,_,o,_,_,e,ex,_⟩:=I.hok p _ hk
      exact ⟨o,e,ex⟩
     ·obtain ⟨_,_,_,_,o,_,_,e,ex,_⟩:=I.hok p _ hk
      exact ⟨o,e,ex⟩
    obtain ⟨o,e,ex⟩:=z
    refine ⟨⟨o,e,ex.1⟩,fun a e2=>?_⟩
    cases e2
    exact ⟨o,e,ex.2.1⟩
   ·obtain ⟨o,_,_,_,e,ex,_⟩:=I.hok p _ hk
    refine ⟨⟨o,e,ex.1⟩,fun a e2=>?_⟩
    cases e2
    exact ⟨o,e,ex.2.1⟩
 | _=>exact False.elim ty
def tBM (K:PySem.W.Frag) (T:String) (r:V→List V→Hp→VK→Prop) (to:TE) (t:TA):TE:=fun σ H Q=>to σ H fun x H1=>tyV K T x H1∧t σ H1 fun xs H2=>r x xs H2 Q
variable {o e:Expr} {es:List Expr} {to:TE} {t:TA} {name:Str} {apos cpos:Pos} {T id:String} {r:V→List V→Hp→VK→Prop}
theorem Jy (pa:PlainAttrs T) (slot:Slot T name id) (hty:typeOf (.builtin id)=pure (.type "method_descriptor")) (hm:MtR X id r) (ho:PE X o to) (ha:PA X (e::es) t)
  (hbase:attributeBase o name X.env (eval o X.env)=eval o X.env:=by rfl)
  (hfew:((backTo cpos (starEach (e::es) X.env)).all (fun x=>!x.1) && (backToKw cpos (keywordEach [] X.env)).all (fun x=>x.1.isSome)
   && decide ((e::es).length + ([]:List Keyword).length + (if ([]:List Keyword).isEmpty then 0 else 1) < 30))=true:=by rfl)
  (hline:(apos.endLine==cpos.line)=true:=by rfl) (hs:starEach (e::es) X.env=(false,eval e X.env)::starEach es X.env:=by rfl) (hplain:(backTo cpos (starEach es X.env)).any (·.1)=false:=by rfl):
  PE X (.Call (.Attribute o name apos) (e::es) [] cpos) (tBM X.K T r to t):=by
 intro pins s σ H Q I h
 refine wpAny_Call_method_late hbase hfew hline rfl (thn (ho pins s σ H _ I h) fun v s1 ⟨x,H1,I1,r1,ty,q1⟩=>?_)
 obtain ⟨h1,h2⟩:=Ov I1 r1 ty
 refine ⟨T,id,pa,slot,hty,h1,h2,?_⟩
 have hA:=ha cpos pins s1 σ H1 _ I1 q1
 rw [hs] at hA ⊢
 refine Calls.callWith_builtin (by show (false || (backTo cpos (starEach es X.env)).any (·.1))=false;rw [hplain] <;> rfl) (Calls.evalArgs_plain ?_)
 exact thn hA fun us s2 ⟨vs,H2,I2,r2,q2⟩=>hm pins s2 σ H2 x vs v us Q I2 r1 r2 q2
end
def MtM (X:Cx) (id:String) (r:V→List V→Hp→VK→Prop):Prop:=
 ∀(pins:List (Addr×Obj)) (s:Shared) (σ:St) (H:Hp) (x:V) (xs:List V) (v:Value) (us:List Value) (Q:VK),Inv X pins σ H s→RelV x v→Vals xs us→r x xs H Q→
  wpAny (model X.prog X.w) X.A (call (.builtin id) (v::us)) (EP X pins σ Q) X.xe s
theorem Vals.one:∀{x:V} {us:List Value},Vals [x] us→∃u,us=[u]∧RelV x u
 | _,_,.cons r .nil=>⟨_,rfl,r⟩
theorem Vals.rep {xs:List V} {us:List Value} (h:Vals xs us):∀k:Nat,Vals (List.replicate k xs).flatten (List.replicate k us).flatten
 | 0=>.nil
 | k + 1=>by
   rw [List.replicate_succ,List.replicate_succ,List.flatten_cons,List.flatten_cons]
   exact Vals.append h (Vals.rep h k)
theorem foldl_rep (its:List Value):∀(k:Nat) (acc:List Value),
  List.foldl (fun x1 x2=>x1++x2) acc.toArray (List.replicate k its.toArray)=(acc++(List.replicate k its).flatten).toArray
 | 0,acc=>by simp
 | k + 1,acc=>by
   have e:acc.toArray++its.toArray=(acc++its).toArray:=by simp
   have e2:(acc++its)++(List.replicate k its).flatten=acc++(List.replicate (k + 1) its).flatten:=by
    rw [List.replicate_succ,List.flatten_cons,List.append_assoc]
   rw [←e2,←foldl_rep its k (acc++its),←e,List.replicate_succ,List.foldl_cons]
section
variable {X:Cx} {pins:List (Addr×Obj)} {σ:St} {H:Hp} {s:Shared} {l b:Addr} {xs ys zs:List V}
theorem Inv.lset {its its':List Value} {n:Nat} {f:Array Value→Array Value} {t':Nat} (I:Inv X pins σ H s) (hH:H l=some (.lst xs))
  (e:s.heap.get? l=some {cls:=.type "list",data:=.seq its.toArray n}) (hf:f its.toArray=its'.toArray) (hv:Vals ys its') (hz:ys.length≤sizeLine):
  Inv X pins σ (upd H l (.lst ys)) {s with heap:=s.heap.update l (Obj.mapSeq f),toks:=t'}:=by
 have q:=PySem.IsL.update e f
 rw [hf] at q
 refine I.write (x:=l) (e:=l) (by rw [hH];exact trivial) (.inl rfl) (fun b' u hb hu=>(Heap.get?_update_other s.heap (Obj.mapSeq f) (Ne.symm hb)).trans hu) ⟨_,q⟩ ?_
 exact ⟨hz,its',_,hv,q⟩
theorem Inv.lnew {its:List Value} {t':Nat} (I:Inv X pins σ H s) (hv:Vals ys its) (hz:ys.length≤sizeLine):
  Inv X pins σ (upd H s.heap.objs.size (.lst ys)) {s with heap:=s.heap.push {cls:=.type "list",data:=.seq its.toArray},toks:=t'}:=
 I.laid (fun _ _ q=>Heap.get?_push_of_some _ q) (Nat.le_refl _) ⟨hz,its,0,hv,Heap.get?_push_size _ rfl⟩
theorem Inv.lstM (I:Inv X pins σ H s) (hH:H l=some (.lst xs)):xs.length≤sizeLine∧∃(its:List Value) (n:Nat),Vals xs its∧xs.length=its.length∧s.heap.get? l=some {cls:=.type "list",data:=.seq its.toArray n}:=by
 obtain ⟨z,its,n,r,e⟩:=I.hok l _ hH
 exact ⟨z,its,n,r,r.length,e⟩
theorem Kv {n:Nat} (h:n≤sizeLine):Builtin.List.listTooLong n=false:=by
 unfold Builtin.List.listTooLong
 exact decide_eq_false (by omega)
end
section
variable {X:Cx}
def Mv:V→List V→Hp→VK→Prop:=fun x vs H Q=>∃l xs y,x=.ref l∧vs=[y]∧H l=some (.lst xs)∧xs.length < sizeLine∧Q .non (upd H l (.lst (xs++[y])))
theorem FD:MtM X "list.append" Mv:=by
 intro pins s σ H x vs v us Q I rx rv h
 obtain ⟨l,xs,y,rfl,rfl,hH,hz,q⟩:=h
 cases rx
 obtain ⟨u,rfl,ru⟩:=rv.one
 obtain ⟨z,its,n,r,hl,e⟩:=I.lstM hH
 refine call_meets F.slot_list_append ⟨_,e,rfl⟩ F.entry_list_append (F.args_list_append_2 _ _) (PySem.list_append l its.toArray n u (by rw [List.size_toArray];omega)) ⟨e,?_⟩
 refine ⟨.non,_,I.lset (its':=its++[u]) hH e (by simp) (r.append (.cons ru .nil)) ?_,rfl,q⟩
 rw [List.length_append,List.length_singleton]
 omega
theorem len_rep {α:Type} (xs:List α) (k:Nat):(List.replicate k xs).flatten.length=k * xs.length:=by
 induction k with
 | zero=>simp
 | succ k ih=>rw [List.replicate_succ,List.flatten_cons,List.length_append,ih,Nat.succ_mul,Nat.add_comm]
end
section
variable {prog:Program} {w:World} {A:Around} {E:Value→Shared→Prop} {s:Shared}
end
section
variable {X:Cx}
end
end L2
namespace Att
open PySem PySem.W PySem.Calls PyProof.Rows
theorem E1 {P:Params} {h:Heap}:∀(ns:List Int) (vs:List Value),WellAll P h vs (ns.map WData.int)→IntsAre vs ns:=by
 intro ns
 induction ns with
 | nil=>
   intro vs w
   rw [List.map_nil] at w
   cases w
   exact .nil
 | cons n ns ih=>
   intro vs w
   rw [List.map_cons] at w
   cases w with
   | cons a b=>
     cases a
     exact .cons _ _ (ih _ b)
theorem JR {l:OpenLaw} {n:Nat} (hn:l.most=some n) {P:Params} {h:Heap} {args:List WData} {vals:List Value}
  (hpre:l.row.toRowW.claim.pre args=true) (hwl:WellAll P h vals args):
  ∃a vs ns,vals=[Value.ref a]∧args=[WData.list (ns.map WData.int)]∧h.get? a=some {cls:=.type "list",data:=.seq vs.toArray}∧IntsAre vs ns∧ns.length≤n:=by
 have hsh:WShape.hasAll [] args [.list .int]=true:=(pre_splitW hpre).1
 have hc:l.pre.holds [] {args:=args}=true:=(pre_splitW hpre).2
 obtain ⟨d,r,rfl,h1,h2⟩:=hasAllW_cons hsh
 obtain rfl:=hasAllW_nil h2
 obtain ⟨xs,rfl,h3⟩:=hasW_list h1
 obtain ⟨ns,rfl⟩:=items_int h3
 have hlen:ns.length≤n:=by
  unfold OpenLaw.pre at hc
  have h4:(WTm.not (.lt (.lit (.int (n:Int))) (.len (.arg 0)))).holds [] {args:=[.list (ns.map .int)]}=true:=by
   have h4:=(holds_andW hc).1
   rw [hn] at h4
   exact h4
  have h5:=condW_of h4 (w_not (w_lt w_lit (w_len_list (w_arg rfl))))
  rw [List.length_map] at h5
  refine Nat.le_of_not_lt fun q=>?_
  have q':(n:Int) < ((ns.length:Nat):Int):=by omega
  first
   | (rw [decide_eq_true q'] at h5;exact absurd h5 (by decide))
   | (simp at h5;omega)
 cases hwl with
 | cons w1 w2=>
   cases w2
   cases w1 with
   | list ho hall=>exact ⟨_,_,ns,rfl,rfl,ho,E1 ns _ hall,hlen⟩
theorem Km (l:OpenLaw) (args:List WData):l.row.toRowW.claim.post args (.bool true) args=true:=
 postW_of (r:=l.row.toRowW) (X:=(true==true))
  (show WShape.has [] (.bool true) .bool=true by first | rfl | decide | simp [WShape.has,WShape.arms,WShape.armsAll])
  (show (WTm.eq .res (.lit (.bool true))).value [] {args:=args,res:=some (.bool true),after:=args}=some (.bool (true==true)) from w_eq_bool (w_res rfl) w_lit) rfl
theorem attach_call {l:OpenLaw} {n:Nat} {q:Program} {loose:List Str} {XP:(Str→Option Value)→Heap→Prop} {YP:World→Heap→Prop} {d:DefRec}
  (hn:l.most=some n) (hdf:d.params.defaults=[])
  (call:∀(w:World) (s₀ s₁:Shared) (mg mb:Str→Option Value) (fa:Addr) (o:Obj) (pm cd doc:Value) (a:Addr) (vs:List Value) (ns:List Int),
   Ground q loose [] XP w s₀ mg mb s₁.heap→YP w s₁.heap→
   s₁.heap.get? fa=some o→o.data=.func (docDef d.name d.params d.body d.scope pm cd doc)→s₁.heap.CodeRec cd d.name→mg d.name=some (.ref fa)→
   s₁.heap.get? a=some {cls:=.type "list",data:=.seq vs.toArray}→IntsAre vs ns→ns.length≤n→s₁.gens=#[]→
   codeAny (model l.prog w) callerA (.call (.ref fa) ⟨[.ref a],[]⟩) (fun r s'=>r=.ok (.ret (.bool true))∧OldK s₁.heap s'.heap∧s'.os=s₁.os∧AllBare s'.gens) s₁):
  WalkO q loose XP YP l.row.toRowW d [] (fun f vs=>PySem.call f vs):=by
 intro w s₀ s₁ mg mb G Y fa o pm cd doc dV kV ho hd hcd hD hmg hg args vals as hpre hlay hrd hwl hlo
 obtain rfl:dV=.none:=Dflts.none hD hdf
 obtain rfl:kV=.none:=Dflts.noKw hD
 obtain ⟨a,vs,ns,rfl,rfl,hobj,hints,hlen⟩:=JR hn hpre hwl
 refine enter_call (codeAny_mono (call w s₀ s₁ mg mb fa o pm cd doc a vs ns G Y ho (fd_plain hd) hcd hmg hobj hints hlen hg) fun r s' hq=>?_)
 obtain ⟨rfl,h2,h3,h4⟩:=hq
 exact ⟨.inl ⟨.bool true,.bool true,[],rfl,fun _=>rfl,.bool true,Km l _,fun _=>⟨List.Pairwise.nil,fun _ hm=>(nomatch hm)⟩⟩,h2,h3,h4⟩
section
variable {prog:Program} {w:World} {A:Around} {E:Value→Shared→Prop} {s:Shared} {K:Frag}
end
end Att
namespace L2
open PySem PySem.Spec PyProof.Rows
theorem FP:∀{vs:List Value} {ns:List Int},IntsAre vs ns→Vals (ns.map V.int) vs
 | _,_,.nil=>.nil
 | _,_,.cons n t h=>.cons ⟨t,rfl⟩ (FP h)
def Only (H:Hp):Prop:=∀b,H b=none∨∃o xs,H b=some (.frz o (.lst xs))
theorem K_ {P:Program} {w:World} {K:PySem.W.Frag} {mg mb:Str→Option Value} {CX:CXT} {k:Nat} {fa a:Addr} {fd:FuncData} {x:Str} {sp:Sp} {s₁:Shared} {vs:List Value} {ns:List Int}
  (KX:K.In s₁.heap) (hns:s₁.heap.Ns mainGlobals mg) (hb:s₁.heap.Ns builtinsNs mb) (hbb:∀x:Str,x≠"__name__"→mb x=bootBuiltins x) (hlim:s₁.heap.NoLimit) (hg:s₁.gens=#[])
  (ha:s₁.heap.get? a=some {cls:=.type "list",data:=.seq vs.toArray}) (hi:IntsAre vs ns) (hl:ns.length≤sizeLine) (hr:Room k callerA)
  (F:∀base:Heap,K.In base→base.Ns mainGlobals mg→FnOk P w K mg base CX k fa fd [x] sp) (hbind:∀(s:Shared) (u:Value),BindsTo s fd ⟨[u],[]⟩ [(x,u)])
  (hsp:∀H:Hp,Only H→SqL K H a (ns.map V.int)→sp [.ref a] H (fun v _=>v=.bl true) fun _ _ _=>False)
  (hCX:∀H e s',CX [] H s₁ (fun _ _ _=>False) e s'→False):
  codeAny (model P w) callerA (.call (.ref fa) ⟨[.ref a],[]⟩) (fun r s'=>r=.ok (.ret (.bool true))∧OldK s₁.heap s'.heap∧s'.os=s₁.os∧AllBare s'.gens) s₁:=by
 have rv:=FP hi
 have lenV:=hi.length
 have core:∀H:Hp,Only H→SqL K H a (ns.map V.int)→HOk P w H s₁.heap→(∀b,H b≠none→b=a)→(H a≠none→K.lookup a=none)→
   codeAny (model P w) callerA (.call (.ref fa) ⟨[.ref a],[]⟩) (fun r s'=>r=.ok (.ret (.bool true))∧OldK s₁.heap s'.heap∧s'.os=s₁.os∧AllBare s'.gens) s₁:=by
  intro H hO hS hok hA hK
  have base_of:∀{b:Addr} {o:Obj},s₁.heap.get? b=some o→H b=none→(hidT s₁.heap H).get? b=some o:=fun e n=>K0 e n
  have noA:∀{b:Addr} {o:Obj} {es:Array DictEntry} {ep:Nat},s₁.heap.get? b=some o→o.data=.dict es ep→H b=none:=fun {b o es ep} e d=>by
   cases q:H b with
   | none=>rfl
   | some u=>
     have e':b=a:=hA b (by rw [q];simp)
     subst e'
     rw [ha] at e;cases e
     have d':Data.seq vs.toArray _=Data.dict es ep:=d
     cases d'
  have nsK:∀{b:Addr} {m:Str→Option Value},s₁.heap.Ns b m→(hidT s₁.heap H).Ns b m:=fun {b m} ⟨o,es,ep,e,d,r⟩=>⟨o,es,ep,base_of e (noA e d),d,r⟩
  have hKb:K.In (hidT s₁.heap H):=fun b o e=>base_of (KX b o e) (by
   cases q:H b with
   | none=>rfl
   | some u=>
     have e':b=a:=hA b (by rw [q];simp)
     subst e'
     rw [hK (by rw [q];simp)] at e;cases e)
  have hM:Mod K mg (hidT s₁.heap H):=⟨hKb,nsK hns,⟨mb,nsK hb,hbb⟩,let ⟨mc,h1,h2⟩:=hlim;⟨mc,nsK h1,h2⟩⟩
  have e0:Env0 P w K mg (hidT s₁.heap H) callerA [] s₁ H:=⟨rfl,hM,fun b o e=>MU e,Nat.le_of_eq (JI _ _),trivial,fun b hb=>absurd (show b∈([]:List Addr) from hb) (by simp),hok,.of_eq hg⟩
  refine codeAny_mono ((F _ hKb (nsK hns)).run callerA [] s₁ H ⟨[.ref a],[]⟩ [.ref a] [.ref a] _ _ hr e0 (hbind s₁ (.ref a)) (.cons rfl .nil) (hsp H hO hS)) fun r s' h=>?_
  cases r with
  | error e=>exact (hCX H e s' h).elim
  | ok fl=>
    cases fl with
    | next=>exact False.elim h
    | brk=>exact False.elim h
    | cont=>exact False.elim h
    | ret u=>
      obtain ⟨v,H',os,bare,un,hok',r',q⟩:=h
      have q':v=.bl true:=q
      subst q'
      obtain rfl:u=Value.bool true:=r'
      refine ⟨rfl,OldK.of_keep fun b o e=>?_,os,bare⟩
      cases q:H b with
      | none=>exact un.keep b o e q (by intro z;exact absurd (show b∈([]:List Addr) from z) (by simp)) (by simp)
      | some u=>
        rcases hO b with z | ⟨ob,xs,z⟩
        ·rw [q] at z;cases z
        ·have z2:=un.frzs b ob _ z
         obtain ⟨e1,_⟩:=hok b _ z
         obtain ⟨e2,_⟩:=hok' b _ z2
         rw [e] at e1;cases e1
         exact e2
 cases hk:K.lookup a with
 | some o=>
   have e:=KX a o hk
   rw [ha] at e
   cases e
   refine core (fun _=>none) (fun _=>.inl rfl) (.inr ⟨_,vs.toArray,_,hk,rfl,rfl,rfl,by rw [List.size_toArray,lenV];exact hl,by simpa using rv⟩) (fun b u z=>by have z':(none:Option HO)=some u:=z;cases z') (fun b z=>absurd rfl z) fun z=>absurd rfl z
 | none=>
   refine core (fun b=>if b=a then some (.frz {cls:=.type "list",data:=.seq vs.toArray} (.lst (ns.map V.int))) else none) (fun b=>?_) (.inl (.inr ⟨{cls:=.type "list",data:=.seq vs.toArray},if_pos rfl⟩)) (fun b u z=>?_) (fun b z=>?_) fun _=>hk
   ·by_cases hb:b=a
    ·exact .inr ⟨_,_,if_pos hb⟩
    ·exact .inl (if_neg hb)
   ·by_cases hb:b=a
    ·have z':=(if_pos hb).symm.trans z
     cases z'
     subst hb
     exact ⟨ha,by rw [List.length_map];exact hl,vs,_,rv,ha⟩
    ·have z':=(if_neg hb).symm.trans z
     cases z'
   ·by_cases hb:b=a
    ·exact hb
    ·exact absurd (if_neg hb) z
theorem walk_of {l:PySem.W.OpenLaw} {n k:Nat} {q:Program} {loose:List Str} {XP:(Str→Option Value)→Heap→Prop} {YP:World→Heap→Prop} {d:DefRec} {K:Params→PySem.W.Frag} {CX:World→CXT} {sp:World→Sp} {x:Str}
  (hn:l.most=some n) (hn2:n≤sizeLine) (hdf:d.params.defaults=[]) (hr:Room k callerA)
  (hY:∀(w:World) (h:Heap),YP w h→(K w.params).In h)
  (F:∀(w:World) (mg:Str→Option Value) (fa:Addr) (h:Heap),(K w.params).In h→h.Ns mainGlobals mg→mg d.name=some (.ref fa)→
   ∃fd:FuncData,(∀(s:Shared) (u:Value),BindsTo s fd ⟨[u],[]⟩ [(x,u)])∧
    ∀base:Heap,(K w.params).In base→base.Ns mainGlobals mg→FnOk l.prog w (K w.params) mg base (CX w) k fa fd [x] (sp w))
  (hsp:∀(w:World) (H:Hp) (a:Addr) (ns:List Int),ns.length≤n→Only H→SqL (K w.params) H a (ns.map V.int)→sp w [.ref a] H (fun v _=>v=.bl true) fun _ _ _=>False)
  (hCX:∀(w:World) (H:Hp) (s:Shared) (e:Value) (s':Shared),CX w [] H s (fun _ _ _=>False) e s'→False):
  PySem.W.WalkO q loose XP YP l.row.toRowW d [] (fun f vs=>PySem.call f vs):=by
 refine Att.attach_call hn hdf fun w s₀ s₁ mg mb fa o pm cd doc a vs ns G Y ho hd hcd hmg hobj hints hlen hg=>?_
 have KX:=hY w _ Y
 obtain ⟨fd,hb,hF⟩:=F w mg fa _ KX G.T.g hmg
 exact K_ KX G.T.g G.T.b G.T.builtins G.T.nolimit hg hobj hints (Nat.le_trans hlen hn2) hr hF hb (fun H hO hS=>hsp w H a ns hlen hO hS) fun H e s'=>hCX w H s₁ e s'
def inClass (s:Stmt) (j:Nat):Stmt:=match s with
 | .ClassDef _ _ _ body _ _ _ _ _ _ _=>body.getD j (.Pass ⟨0,0,0,0⟩)
 | _=>.Pass ⟨0,0,0,0⟩
def BV (s:Stmt):Arguments:=match s with
 | .FunctionDef _ a _ _ _ _ _ _ _ _=>a
 | _=>{posonlyargs:=[],args:=[],vararg:=none,kwonlyargs:=[],kw_defaults:=[],kwarg:=none,defaults:=[]}
def AG (s:Stmt):List Stmt:=match s with
 | .FunctionDef _ _ b _ _ _ _ _ _ _=>b
 | _=>[]
def Ae (s:Stmt):Scope:=match s with
 | .FunctionDef _ _ _ _ _ _ sc _ _ _=>sc
 | _=>{kind:=.function,names:=[],isGenerator:=false,isCoroutine:=false}
abbrev CX0:CXT:=fun _ _ _ _ _ _=>False
abbrev E0:XK:=fun _ _ _=>False
theorem Dw {X:Cx}:Dl CX0 X E0:=fun _ _ _ _ _ _ _ h=>h.elim
structure Fun (K:PySem.W.Frag) (x qual:Str) (st:Stmt) (f:Addr) (fd:FuncData):Prop where
 ex:∃(oc:Value) (od:Option Addr) (kV doc pm:Value) (an:Option Addr) (cdv ct:Value) (osl:Array (Option Value)),
  fd=PySem.W.fnOf x qual (BV st) (AG st) (Ae st) .none kV doc pm an cdv ct∧K.lookup f=some ⟨oc,od,.func fd,osl⟩∧PySem.W.codeIn K cdv qual=true
 kp:PySem.W.keepIn K (.ref f)=true
section
variable {P:Program} {w:World} {K:PySem.W.Frag} {mg:Str→Option Value} {base:Heap}
theorem Fun.ok {x qual:Str} {st:Stmt} {f:Addr} {fd:FuncData} {N ps:List Str} {k:Nat} {sp:Sp} (F:Fun K x qual st f fd) (S:FnScope N ps (Ae st)) (len:∀vs H Q E,sp vs H Q E→vs.length=ps.length)
  (hbody:∀(cdv:Value) (A:Around) (outer:List Env) (s:Shared) (H:Hp) (vs:List V) (Q:VK) (E:XK),Room k (A.deeper (envOfC qual (Ae st) s.heap.objs.size f cdv))→sp vs H Q E→
   ∃t,PSs (cxOf CX0 P w K mg base N qual (Ae st) f cdv A outer s H E).nox (AG st) t∧t {nx:=fun _ H'=>Q .non H',rt:=Q} (start N vs) H):FnOk P w K mg base CX0 (k + 1) f fd ps sp:=by
 obtain ⟨oc,od,kV,doc,pm,an,cdv,ct,osl,rfl,lk,hcd⟩:=F.ex
 refine PV lk hcd S len fun A outer s H vs Q E hr hsp=>?_
 obtain ⟨t,h,q⟩:=hbody cdv A outer s H vs Q E hr hsp
 exact ⟨t,h.nox,q⟩
theorem Fun.binds {x qual:Str} {st:Stmt} {f:Addr} {fd:FuncData} {ps:List Str} (F:Fun K x qual st f fd)
  (h:∀(kV doc pm:Value) (an:Option Addr) (cdv ct:Value) (us:List Value),us.length=ps.length→bindArgs (PySem.W.fnOf x qual (BV st) (AG st) (Ae st) .none kV doc pm an cdv ct) ⟨us,[]⟩=pure (ps.zip us)):Binds K fd ps []:=by
 obtain ⟨oc,od,kV,doc,pm,an,cdv,ct,osl,rfl,lk,hcd⟩:=F.ex
 exact .all (h kV doc pm an cdv ct)
theorem IG {x qual:Str} {st:Stmt} {f:Addr} {oc:Value} {od an:Option Addr} {osl:Array (Option Value)} {kV doc pm cdv ct:Value} (l:K.lookup f=some ⟨oc,od,.func (PySem.W.fnOf x qual (BV st) (AG st) (Ae st) .none kV doc pm an cdv ct),osl⟩)
  (c:PySem.W.codeIn K cdv qual=true) (k:PySem.W.keepIn K (.ref f)=true):Fun K x qual st f (PySem.W.fnOf x qual (BV st) (AG st) (Ae st) .none kV doc pm an cdv ct):=⟨⟨oc,od,kV,doc,pm,an,cdv,ct,osl,rfl,l,c⟩,k⟩
end
section
variable {X:Cx}
theorem pv (i:Nat) {x:Str} {pos:Pos} (hN:X.N[i]?=some x:=by rfl) (hv:Vis X.env.scope x:=by first | exact Or.inl rfl | exact Or.inr (Or.inl rfl) | exact Or.inr (Or.inr rfl)) (hd:(x==("__debug__":Str))=false:=by decide)
  (hcd:(x==("__classdict__":Str))=false:=by decide):PE X (.Name x pos) (tVar i):=NV hN hv hd hcd
end
theorem iteF {A B:Prop} (h:B):if false=true then A else B:=by
 rw [if_neg Bool.false_ne_true]
 exact h
theorem iteT {A B:Prop} (h:A):if true=true then A else B:=by
 rw [if_pos rfl]
 exact h
def Same (H H':Hp):Prop:=∀b o,H b=some o→H' b=some o
theorem Same.refl (H:Hp):Same H H:=fun _ _ h=>h
theorem Same.trans {H H1 H2:Hp} (a:Same H H1) (b:Same H1 H2):Same H H2:=fun c o h=>b c o (a c o h)
theorem Same.free {H H':Hp} (e:Same H H') {l:Addr} (h:H' l=Option.none):H l=Option.none:=by
 cases q:H l with
 | none=>rfl
 | some o=>
   rw [e l o q] at h
   cases h
theorem Same.seq {K:PySem.W.Frag} {H H':Hp} {a:Addr} {xs:List V} (e:Same H H') (h:SqL K H a xs):SqL K H' a xs:=by
 rcases h with (h | ⟨o,h⟩) | h
 ·exact .inl (.inl (e _ _ h))
 ·exact .inl (.inr ⟨o,e _ _ h⟩)
 ·exact .inr h
def OwnG (k:Nat) (g:TG):Prop:=∀v σ H (Q Q':St→Hp→Prop),
 (∀σ2 H2,σ2.length=σ.length→(∀j,k≤j→σ2[j]?=σ[j]?)→Q σ2 H2→Q' σ2 H2)→g v σ H Q→g v σ H Q'
def Jw (k:Nat) (t:TGs):Prop:=∀vs σ H (Q Q':St→Hp→Prop),
 (∀σ2 H2,σ2.length=σ.length→(∀j,k≤j→σ2[j]?=σ[j]?)→Q σ2 H2→Q' σ2 H2)→t vs σ H Q→t vs σ H Q'
theorem Bd {k i:Nat} (h:i < k):OwnG k (BH i):=by
 intro v σ H Q Q' m q
 refine m _ _ (by simp) (fun j hj=>?_) q
 rw [List.getElem?_set_ne (by omega)]
theorem IO {k:Nat}:Jw k gNil:=fun vs σ H Q Q' m ⟨e,q⟩=>⟨e,m _ _ rfl (fun _ _=>rfl) q⟩
theorem DI {k:Nat} {t:TG} {u:TGs} (ht:OwnG k t) (hu:Jw k u):Jw k (GZ t u):=by
 rintro vs σ H Q Q' m ⟨v,r,e,q⟩
 refine ⟨v,r,e,ht v σ H _ _ (fun σ2 H2 l2 k2 q2=>?_) q⟩
 exact hu r σ2 H2 _ _ (fun σ3 H3 l3 k3 q3=>m σ3 H3 (l3.trans l2) (fun j hj=>(k3 j hj).trans (k2 j hj)) q3) q2
theorem Jf {k n:Nat} {K:PySem.W.Frag} {t:TGs} (ht:Jw k t):OwnG k (gTup K n t):=by
 rintro v σ H Q Q' m ⟨a,xs,e,hs,hl,q⟩
 exact ⟨a,xs,e,hs,hl,ht xs σ H Q Q' m q⟩
def A8 (X:Cx) (scope:Scope) (cl:List (Str×Addr)) (C:Addr) (N:List Str) (s:Shared) (H:Hp) (ex:List Addr):Cx:=
 {X with N:=N,s₀:=s,H₀:=H,env:=compEnvC scope cl C X.env,outer:=X.stack,ex:=ex,fn:=fun _=>false,pn:=[],xe:=fun _ _=>False}
def Cd (osc:Scope) (oN:List Str) (k:Nat) (ix:List Nat) (N:List Str) (scope:Scope):Prop:=
 scope.kind=.function∧(∀y∈scope.names,y.2≠.cell)∧(∀y∈scope.names,y.2=.local→scope.names.lookup y.1=some .local)∧
 (∀y∈scope.names,y.2=.free→osc.names.lookup y.1=some .cell∨osc.names.lookup y.1=some .free)∧
 N.length=k + ix.length∧(∀p∈(N.drop k).zip ix,oN[p.2]?=some p.1∧scope.names.lookup p.1=some .free)
instance {osc:Scope} {oN:List Str} {k:Nat} {ix:List Nat} {N:List Str} {scope:Scope}:Decidable (Cd osc oN k ix N scope):=by
 unfold Cd
 exact inferInstance
def outS (ix:List Nat) (σ:St):St:=ix.map fun i=>(σ[i]?).getD none
theorem Dp (env:Env):∀(ns:List (Str×NameKind)) (acc:List (Str×Addr)),(∀y∈ns,y.2=.free→∃c,env.cells.lookup y.1=some c)→
  ∃cl,(forIn (m:=Sem) ns acc fun (y:Str×NameKind) r=>match y with
   | (n,k)=>if (k==.free)=true then (do let c ←cellOf env n;pure (ForInStep.yield ((n,c)::r))) else pure (ForInStep.yield r))=pure cl∧
   (∀n c,cl.lookup n=some c→acc.lookup n=some c∨env.cells.lookup n=some c)∧∀n,((acc.lookup n).isSome=true∨(n,NameKind.free)∈ns)→(cl.lookup n).isSome=true
 | [],acc,_=>⟨acc,rfl,fun _ _ h=>.inl h,fun n h=>h.elim id fun z=>by cases z⟩
 | (n,k)::ns,acc,h=>by
   by_cases hk:k=.free
   ·subst hk
    obtain ⟨c,hc⟩:=h (n,.free) List.mem_cons_self rfl
    obtain ⟨cl,e,p,q⟩:=Dp env ns ((n,c)::acc) fun y hy=>h y (List.mem_cons_of_mem _ hy)
    refine ⟨cl,?_,fun m d hm=>?_,fun m hm=>?_⟩
    ·rw [List.forIn_cons]
     simp only [cellOf,hc,beq_self_eq_true,if_true,pure_bind]
     exact e
    ·rcases p m d hm with z | z
     ·rw [List.lookup_cons] at z
      split at z
      ·rename_i hmn
       cases z
       have:m=n:=by simpa using hmn
       subst this
       exact .inr hc
      ·exact .inl z
     ·exact .inr z
    ·refine q m ?_
     rw [List.lookup_cons]
     split
     ·exact .inl rfl
     ·rename_i hmn
      rcases hm with z | z
      ·exact .inl z
      ·rcases List.mem_cons.mp z with z | z
       ·cases z
        simp at hmn
       ·exact .inr z
   ·obtain ⟨cl,e,p,q⟩:=Dp env ns acc fun y hy=>h y (List.mem_cons_of_mem _ hy)
    have hb:(k==NameKind.free)=false:=by simpa using hk
    refine ⟨cl,?_,p,fun m hm=>q m (hm.imp id fun z=>?_)⟩
    ·rw [List.forIn_cons]
     simp only [hb,Bool.false_eq_true,if_false,pure_bind]
     exact e
    ·rcases List.mem_cons.mp z with z | z
     ·cases z
      exact absurd rfl hk
     ·exact z
theorem Da (env:Env) (scope:Scope) (h:∀y∈scope.names,y.2=.free→∃c,env.cells.lookup y.1=some c):
  ∃cl,closureFor scope env=pure cl∧(∀n c,cl.lookup n=some c→env.cells.lookup n=some c)∧∀n,(n,NameKind.free)∈scope.names→∃c,cl.lookup n=some c:=by
 obtain ⟨cl,e,p,q⟩:=Dp env scope.names [] h
 refine ⟨cl,?_,fun n c z=>(p n c z).elim (fun z=>by cases z) id,fun n hn=>Option.isSome_iff_exists.mp (q n (.inr hn))⟩
 unfold closureFor
 simpa using e
theorem Ka {prog:Program} {w:World} {A:Around} {R:Result→Shared→Prop} {s:Shared} {elt target iter:Expr} {ifs:List Expr} {scope:Scope} {pos:Pos} {it acc:Value} {env:Env}
  (J:Nat→Shared→Prop)
  (turn:∀n s,J n s→wpAny (model prog w) A (pyNext it) (fun r s1=>match r with
   | none=>R (.ok .next) s1
   | some v=>wpAny (model prog w) A (letOwnedTupleGo target it v) (fun _ s2=>wpAny (model prog w) A (assign target env v) (fun _ s3=>
     wpAny (model prog w) A (forIn ifs true fun c r=>if r=true then do let ok ←isTrue c env (eval c env);pure (ForInStep.yield ok) else pure (ForInStep.yield r)) (fun ok s4=>
      if ok=true then wpAny (model prog w) A (eval elt env) (fun x s5=>
       wpAny (model prog w) A (call (.builtin "list.append") [acc,x]) (fun _ s6=>∃m,m < n∧J m s6) (fun _ _=>False) s5) (fun _ _=>False) s4
      else ∃m,m < n∧J m s4) (fun _ _=>False) s3) (fun _ _=>False) s2) (fun _ _=>False) s1) (fun _ _=>False) s)
  (n:Nat) (h:J n s):codeAny (model prog w) A (.compLoop (.ListComp elt [⟨target,iter,ifs,0⟩] scope pos) 0 it acc env) R s:=by
 refine codeAny_loop rfl J (fun n s hJ=>?_) n h
 show wpAny (model prog w) A ((compTurn (.ListComp elt [⟨target,iter,ifs,0⟩] scope pos) 0 it acc env).onRaise (fun y=>do noteFrame y env;theTreesLotGoes y)) _ _ s
 refine wpAny_noted ?_
 rw [compTurn_list]
 refine wpAny_bind (wpAny_standAt (wpAny_bind (wpAny_mono (turn n s hJ) (fun r s1 h1=>?_) fun _ _ z=>z.elim)))
 cases r with
 | none=>exact wpAny_pure h1
 | some v=>
   refine wpAny_bind (wpAny_mono h1 (fun _ s2 h2=>?_) fun _ _ z=>z.elim)
   refine wpAny_bind (wpAny_mono h2 (fun _ s3 h3=>?_) fun _ _ z=>z.elim)
   refine wpAny_bind (wpAny_mono h3 (fun ok s4 h4=>?_) fun _ _ z=>z.elim)
   cases ok with
   | false=>exact wpAny_pure ⟨rfl,h4⟩
   | true=>
     refine wpAny_bind (wpAny_bind (wpAny_mono h4 (fun x s5 h5=>?_) fun _ _ z=>z.elim))
     exact wpAny_bind (wpAny_mono h5 (fun _ s6 h6=>wpAny_pure (wpAny_pure ⟨rfl,h6⟩)) fun _ _ z=>z.elim)
def PF (X:Cx) (ifs:List Expr) (t:TT):Prop:=
 ∀(pins:List (Addr×Obj)) (s:Shared) (σ:St) (H:Hp) (Q:Bool→Hp→Prop),Inv X pins σ H s→t σ H Q→
  wpAny (model X.prog X.w) X.A (forIn ifs true fun c r=>if r=true then do let ok ←isTrue c X.env (eval c X.env);pure (ForInStep.yield ok) else pure (ForInStep.yield r)) (TP X pins σ Q) X.xe s
def tYes:TT:=fun _ H Q=>Q true H
theorem Og {X:Cx}:PF X [] tYes:=fun _ _ _ H _ I h=>wpAny_tests_nil ⟨H,I,h⟩
section
variable {X:Cx} {pins:List (Addr×Obj)} {σ:St} {H:Hp} {s:Shared}
theorem HU {scope:Scope} {cl:List (Str×Addr)} {C:Addr} {N:List Str} {fp:List Addr} {k:Nat} {ix:List Nat} (I:Inv X pins σ H s) (hc:Cd X.env.scope X.N k ix N scope)
  (hcl:∀n c,cl.lookup n=some c→X.env.cells.lookup n=some c) (hcl2:∀n,(n,NameKind.free)∈scope.names→∃c,cl.lookup n=some c)
  (hC:s.heap.objs.size≤C) (hf:∀b∈fp,FpOk X pins H b) (hlt:∀b∈fp,b < s.heap.objs.size):(A8 X scope cl C N s H fp).Ok:=by
 obtain ⟨kind,nocell,names,free,len,own⟩:=hc
 have lk:∀(l:List (Str×NameKind)) (x:Str) (kd:NameKind),l.lookup x=some kd→(x,kd)∈l:=fun l x kd e=>PySem.mem_of_lookup e
 refine ⟨I.ok.mod,kind,I.ok.glob,I.ok.blt,hC,fun x y c h1 h2=>I.ok.inj x y c (hcl x c h1) (hcl y c h2),fun x hx=>?_,fun x c z=>(by cases z),I.ok.hd,I.ok.frames,.inl rfl,fun b hb=>⟨Nat.ne_of_lt (Nat.lt_of_lt_of_le (hlt b hb) hC),fun x c e=>(hf b hb).2.2.2.2.1 x c (hcl x c e)⟩,
  I.bs,Nat.le_trans I.ok.bsz I.sz,fun b o e z=>?_,fun b hb z=>?_,I.stack,I.stkFree⟩
 ·
  have hx':(relabel scope X.env).names.lookup x=some .cell∨(relabel scope X.env).names.lookup x=some .free:=hx
  have key:(x,NameKind.free)∈scope.names:=by
   have:∃kd,(x,kd)∈(relabel scope X.env).names∧(kd=.cell∨kd=.free):=by
    rcases hx' with z | z
    ·exact ⟨_,lk _ _ _ z,.inl rfl⟩
    ·exact ⟨_,lk _ _ _ z,.inr rfl⟩
   obtain ⟨kd,hm,hkd⟩:=this
   unfold relabel at hm
   obtain ⟨⟨n,k0⟩,h1,h2⟩:=List.mem_map.mp hm
   dsimp only at h2
   by_cases hc:(k0==NameKind.free && X.env.scope.kind==.function && X.env.kindOf n==some .cell)=true
   ·rw [if_pos hc] at h2
    cases h2
    have:k0=.free:=by
     simp only [Bool.and_eq_true] at hc
     simpa using hc.1.1
    rw [←this]
    exact h1
   ·rw [if_neg hc] at h2
    cases h2
    rcases hkd with z | z
    ·exact absurd z (nocell _ h1)
    ·rw [←z]
     exact h1
  exact hcl2 x key
 ·obtain ⟨_,_,_,hx,_⟩:=hf b z
  rcases hx with hx | hx
  ·exact I.ok.noex b o e hx
  ·exact absurd (Nat.lt_of_lt_of_le (Heap.lt_size (I.ok.bs b o e).1) hx) (Nat.lt_irrefl _)
 ·rcases List.mem_cons.mp (I.stkSub b z) with e | e
  ·exact (hf b hb).2.1 e
  ·exact (hf b hb).2.2.1 e
theorem JU {scope:Scope} {cl:List (Str×Addr)} {C:Addr} {h':Heap} {m m':Str→Option Value} {x:Str} {u:Value} (hl:scope.names.lookup x=some .free)
  (ho:X.env.scope.names.lookup x=some .cell∨X.env.scope.names.lookup x=some .free) (hcl:∀n c,cl.lookup n=some c→X.env.cells.lookup n=some c) (hcl2:∃c,cl.lookup x=some c)
  (l:Look X.env s.heap m x u) (hk:∀b o,s.heap.get? b=some o→h'.get? b=some o):Look (compEnvC scope cl C X.env) h' m' x u:=by
 rcases l with ⟨hk1,_⟩ | ⟨hk1,c,hc,o,e1,e2⟩
 ·have hk1':X.env.scope.names.lookup x=some .local:=hk1
  rcases ho with z | z <;> rw [hk1'] at z <;> cases z
 ·obtain ⟨c',hc'⟩:=hcl2
  have:=hcl x c' hc'
  rw [hc] at this
  cases this
  refine .inr ⟨?_,c,hc',o,hk _ _ e1,e2⟩
  show (relabel scope X.env).names.lookup x=some .cell∨(relabel scope X.env).names.lookup x=some .free
  unfold relabel
  dsimp only
  revert hl
  generalize scope.names=ns
  intro hl
  induction ns with
  | nil=>cases hl
  | cons y r ih=>
    obtain ⟨n,k0⟩:=y
    rw [List.map_cons]
    dsimp only
    rw [List.lookup_cons] at hl
    by_cases hxn:(x==n)=true
    ·rw [hxn] at hl
     cases hl
     have exn:x=n:=by simpa using hxn
     subst exn
     by_cases hc:(NameKind.free==NameKind.free && X.env.scope.kind==.function && X.env.kindOf x==some .cell)=true
     ·rw [if_pos hc,List.lookup_cons,beq_self_eq_true]
      exact .inl rfl
     ·rw [if_neg hc,List.lookup_cons,beq_self_eq_true]
      exact .inr rfl
    ·have hxn':(x==n)=false:=by simpa using hxn
     rw [hxn'] at hl
     have hnn:∀(kk:NameKind),(List.lookup x ((n,kk)::List.map (fun (y:Str×NameKind)=>if (y.2==NameKind.free && X.env.scope.kind==.function && X.env.kindOf y.1==some .cell)=true then (y.1,NameKind.cell) else (y.1,y.2)) r))=List.lookup x (List.map (fun (y:Str×NameKind)=>if (y.2==NameKind.free && X.env.scope.kind==.function && X.env.kindOf y.1==some .cell)=true then (y.1,NameKind.cell) else (y.1,y.2)) r):=fun kk=>by
      rw [List.lookup_cons,hxn']
     by_cases hc:(k0==NameKind.free && X.env.scope.kind==.function && X.env.kindOf n==some .cell)=true
     ·rw [if_pos hc]
      exact (hnn .cell).symm ▸ ih hl
     ·rw [if_neg hc]
      exact (hnn k0).symm ▸ ih hl
theorem KY {scope:Scope} {cl:List (Str×Addr)} {C:Addr} {N:List Str} {fp:List Addr} {k:Nat} {ix:List Nat} {h':Heap} {m':Str→Option Value} {t':Nat} (I:Inv X pins σ H s) (hc:Cd X.env.scope X.N k ix N scope)
  (hcl:∀n c,cl.lookup n=some c→X.env.cells.lookup n=some c) (hcl2:∀n,(n,NameKind.free)∈scope.names→∃c,cl.lookup n=some c)
  (hC:s.heap.objs.size≤C) (hf:∀b∈fp,FpOk X pins H b) (hlt:∀b∈fp,b < s.heap.objs.size) (hk:∀b o,s.heap.get? b=some o→h'.get? b=some o) (hn:h'.Ns C m'):
  Inv (A8 X scope cl C N s H fp) [] (List.replicate k none++outS ix σ) H {s with heap:=h',toks:=t'}:=by
 have ok:=HU I hc hcl hcl2 hC hf hlt
 obtain ⟨kind,nocell,names,free,len,own⟩:=hc
 have mem:∀{x:Str},scope.names.lookup x=some .free→(x,NameKind.free)∈scope.names:=fun e=>PySem.mem_of_lookup e
 refine ⟨ok,rfl,I.bare,Un.kept hk,⟨m',hn,fun i x v h1 h2 _=>?_⟩,fun x c e=>?_,I.hok.fresh hC,fun x c e=>I.freeC x c (hcl x c e),fun p hp=>(by cases hp),I.hok.kept hk,?_⟩
 ·have h1:N[i]?=some x:=h1
  have hi:k≤i:=by
   rcases Nat.lt_or_ge i k with z | z
   ·rw [List.getElem?_append_left (by simpa using z),List.getElem?_replicate,if_pos z] at h2
    cases h2
   ·exact z
  rw [List.getElem?_append_right (by simpa using hi),List.length_replicate] at h2
  unfold outS at h2
  rw [List.getElem?_map] at h2
  cases e:ix[i - k]? with
  | none=>rw [e] at h2;cases h2
  | some j=>
    rw [e] at h2
    have h2:(σ[j]?).getD none=some v:=Option.some.inj h2
    have hz:(x,j)∈(N.drop k).zip ix:=by
     refine List.mem_of_getElem? (i:=i - k) ?_
     rw [List.getElem?_zip_eq_some,List.getElem?_drop]
     exact ⟨by rw [Nat.add_sub_cancel' hi];exact h1,e⟩
    obtain ⟨o1,o2⟩:=own _ hz
    have hs:σ[j]?=some (some v):=by
     cases q:σ[j]? with
     | none=>rw [q] at h2;cases h2
     | some z=>rw [q] at h2;have h2:z=some v:=h2;rw [h2]
    obtain ⟨m,hm,hl⟩:=I.loc
    have hfr:=free _ (mem o2) rfl
    have hv:Vis X.env.scope x:=hfr.elim (fun z=>.inr (.inl z)) fun z=>.inr (.inr z)
    obtain ⟨u,r,l⟩:=hl j x v o1 hs hv
    exact ⟨u,r,JU o2 hfr hcl (hcl2 _ (mem o2)) l hk⟩
 ·obtain ⟨v,o,e1,e2⟩:=I.cell x c (hcl x c e)
  exact ⟨v,o,hk _ _ e1,e2⟩
 ·show (List.replicate k none++outS ix σ).length=N.length
  rw [List.length_append,List.length_replicate,len]
  unfold outS
  rw [List.length_map]
structure BlockEnd (X:Cx) (scope:Scope) (cl:List (Str×Addr)) (N:List Str) (s:Shared) (H:Hp) (fp:List Addr) (D C:Addr) (ys:List V) (H':Hp) (s':Shared):Prop where
 inv:∃σ',Inv (A8 X scope cl C N s H fp) [] σ' H' s'
 dn:H' D=none
 lst:∃(its:List Value) (n:Nat),Vals ys its∧s'.heap.get? D=some {cls:=.type "list",data:=.seq its.toArray n}
 hD:s.heap.objs.size≤D
 hC:s.heap.objs.size≤C
 ne:D≠C
 sz:ys.length≤sizeLine
theorem BlockEnd.out {scope:Scope} {cl:List (Str×Addr)} {N:List Str} {fp:List Addr} {D C:Addr} {ys:List V} {H':Hp} {s':Shared} (I:Inv X pins σ H s) (hf:∀b∈fp,FpOk X pins H b)
  (B:BlockEnd X scope cl N s H fp D C ys H' s'):Inv X pins σ (upd H' D (.lst ys)) s'∧(∃m,s'.heap.Ns C m)∧upd H' D (.lst ys) C=none:=by
 obtain ⟨σ',J⟩:=B.inv
 obtain ⟨its,n,rv,e⟩:=B.lst
 have eD:∀b u,H' b=some u→b≠D:=fun b u z=>A6 z B.dn
 refine ⟨?_,let ⟨m,hm,_⟩:=J.loc;⟨m,hm⟩,by rw [Aj (Ne.symm B.ne)];exact J.free⟩
 have U:Un (frs X.stack) fp H H' s.heap s'.heap:=J.base
 refine I.call' (ch:=fp) J.os ⟨U.keep,U.slot,fun b o q z hb=>?_,U.there,fun b xs q=>?_,fun b o xs q=>?_,fun b ps q=>?_⟩ ?_ J.bare fun b hb=>?_
 ·rw [Aj (Nat.ne_of_lt (Nat.lt_of_lt_of_le (Heap.lt_size q) B.hD))]
  exact U.free b o q z hb
 ·have z:=U.tups b xs q
  rw [Aj (eD _ _ z)];exact z
 ·have z:=U.frzs b o xs q
  rw [Aj (eD _ _ z)];exact z
 ·obtain ⟨m,z⟩:=U.tbls b ps q
  exact ⟨m,by rw [Aj (eD _ _ z)];exact z⟩
 ·intro b o q
  by_cases hb:b=D
  ·subst hb
   rw [Am] at q
   cases q
   exact ⟨B.sz,its,n,rv,e⟩
  ·rw [Aj hb] at q
   refine (J.hok b o q).stay (fun _ _ _ z=>z) (fun c z=>?_) fun c xs z=>?_
   ·rw [Aj (eD _ _ z)];exact z
   ·rw [Aj (eD _ _ z)];exact z
 ·obtain ⟨_,h1,h2,h3,h4,h5⟩:=hf b hb
  exact ⟨h3,h1,h4,h5⟩
end
def Q9 (k:Nat) (ix:List Nat) (g:TG) (tc:TT) (te:TE) (σ:St) (x:V) (H:Hp) (Qe:V→Hp→Prop) (Qn:Hp→Prop):Prop:=
 g x (List.replicate k none++outS ix σ) H fun σ2 H2=>tc σ2 H2 fun b H3=>if b=true then te σ2 H3 Qe else Qn H3
def I_ (k:Nat) (ix:List Nat) (g:TG) (tc:TT) (te:TE) (σ:St) (J:It) (H1:Hp) (Q:List V→Hp→Prop):Prop:=
 ∃W:Nat→Nat→List V→Hp→Prop,(∃m,W 0 m [] H1)∧∀i m ys H,W i m ys H→ys.length≤sizeLine∧
  ((J.stop i H∧Q ys H)∨(J.go i H∧∀x H',J.yld i H x H'→Q9 k ix g tc te σ x H' (fun v H4=>∃m',m' < m∧W (i + 1) m' (ys++[v]) H4) fun H3=>∃m',m' < m∧W (i + 1) m' ys H3))
section
variable {X:Cx} {pins:List (Addr×Obj)} {σ:St} {H:Hp} {s:Shared}
theorem Fb {elt target iter:Expr} {ifs:List Expr} {scope:Scope} {cl:List (Str×Addr)} {pos:Pos} {N:List Str} {fp:List Addr} {k:Nat} {ix:List Nat} {it:Addr} {J:It} {tn:Nat→Heap→Prop} {g:TG} {tc:TT} {te:TE}
  {Q:List V→Hp→Prop} {RR:Value→Addr→Result→Shared→Prop} {E:Value→Shared→Prop} (hcalm:X.calm=true) (I:Inv X pins σ H s) (hc:Cd X.env.scope X.N k ix N scope) (og:OwnG k g)
  (hcl:∀n c,cl.lookup n=some c→X.env.cells.lookup n=some c) (hcl2:∀n,(n,NameKind.free)∈scope.names→∃c,cl.lookup n=some c)
  (T:Turn X.prog X.w X.K target J fp it tn) (t0:tn 0 s.heap) (hf:∀b∈fp,FpOk X pins H b)
  (hg:∀C,PG (A8 X scope cl C N s H fp) target g) (ht:∀C,PF (A8 X scope cl C N s H fp) ifs tc) (he:∀C,PE (A8 X scope cl C N s H fp) elt te)
  (hw:I_ k ix g tc te σ J H Q)
  (fin:∀D C ys H' s',BlockEnd X scope cl N s H fp D C ys H' s'→Q ys H'→RR (.ref D) C (.ok .next) s'):
  wpAny (model X.prog X.w) X.A (newList []) (fun acc s3=>wpAny (model X.prog X.w) X.A (newFunctionEnv scope X.env.globals cl [] X.env.qual none .none (some X.env)) (fun cenv s4=>
   codeAny (model X.prog X.w) X.A (.compStart (.ListComp elt [⟨target,iter,ifs,0⟩] scope pos) 0 (.ref it) acc {cenv with scope:=relabel scope X.env}) (RR acc cenv.locals) s4) E s3) E s:=by
 have hlt:∀b∈fp,b < s.heap.objs.size:=fun b hb=>by
  obtain ⟨o,e,_⟩:=T.obj 0 _ t0 b hb
  exact Heap.lt_size e
 refine wpAny_newObj_type (wpAny_newFunctionEnv hc.2.1 (by intro y hy;simp at hy) (fun h1 hns hsb=>?_) hc.1)
 dsimp only at hns hsb ⊢
 generalize eH:s.heap.push {cls:=.type "list",dict:=none,data:=.seq ([]:List Value).toArray}=Hx at hns hsb ⊢
 have hC:Hx.objs.size=s.heap.objs.size + 1:=by rw [←eH,Heap.size_push]
 have hne:s.heap.objs.size≠Hx.objs.size:=by rw [hC];exact Nat.ne_of_lt (Nat.lt_succ_self _)
 have hle:s.heap.objs.size≤Hx.objs.size:=by rw [hC];exact Nat.le_succ _
 have old:∀b o,s.heap.get? b=some o→h1.get? b=some o:=fun b o e=>
  hsb.extBut b o (Nat.ne_of_lt (Nat.lt_of_lt_of_le (Heap.lt_size e) hle)) (Heap.get?_push_of_some _ (eH ▸ Heap.get?_push_of_some _ e))
 have hacc:h1.PlainList s.heap.objs.size #[]:=⟨_,hsb.extBut _ _ hne (Heap.get?_push_of_some _ (eH ▸ Heap.get?_push_size _ rfl))⟩
 have ci:=fun (t':Nat)=>KY (C:=Hx.objs.size) (t':=t') I hc hcl hcl2 hle hf hlt old hns
 have cfp:∀{H':Hp},(∀b∈fp,H' b=none)→∀b∈fp,FpOk (A8 X scope cl Hx.objs.size N s H fp) [] H' b:=fun hn b hb=>by
  obtain ⟨_,z1,z2,z3,z4,z5⟩:=hf b hb
  refine ⟨hn b hb,Nat.ne_of_lt (Nat.lt_of_lt_of_le (hlt b hb) hle),fun z=>?_,.inl hb,fun x c e=>z4 x c (hcl x c e),fun p hp=>by cases hp⟩
  rcases List.mem_cons.mp (I.stkSub b z) with e | e
  ·exact z1 e
  ·exact z2 e
 have dfs:s.heap.objs.size∉frs X.stack:=fun z=>(List.mem_cons.mp (I.stkSub _ z)).elim (fun e=>absurd I.lt (by rw [e];exact Nat.lt_irrefl _)) fun e=>I.nofs (Nat.le_refl _) e
 have cne:∀x c,X.env.cells.lookup x=some c→c≠s.heap.objs.size:=fun x c e z=>by
  obtain ⟨_,o,q,_⟩:=I.cell x c e
  exact absurd (Heap.lt_size q) (by rw [z];exact Nat.lt_irrefl _)
 obtain ⟨W,⟨m0,w0⟩,turn⟩:=hw
 have loop:∀s3:Shared,s3={s with heap:=h1,toks:=s.toks + ([]:List (Str×Value)).length}→
   codeAny (model X.prog X.w) X.A (.compLoop (.ListComp elt [⟨target,iter,ifs,0⟩] scope pos) 0 (.ref it) (.ref s.heap.objs.size) (compEnvC scope cl Hx.objs.size X.env)) (RR (.ref s.heap.objs.size) Hx.objs.size) s3:=by
  rintro s3 rfl
  refine Ka (fun n s'=>∃i ys H' its,Inv (A8 X scope cl Hx.objs.size N s H fp) [] (List.replicate k none++outS ix σ) H' s'∧tn i s'.heap∧(∀b∈fp,H' b=none)∧s'.heap.PlainList s.heap.objs.size (List.toArray its)∧
   H' s.heap.objs.size=none∧Vals ys its∧W i n ys H') ?_ m0 ⟨0,[],H,[],ci _,T.keep _ _ _ t0 fun b _ o e=>old b o e,fun b hb=>(hf b hb).1,hacc,I.hok.fresh (Nat.le_refl _),.nil,w0⟩
  rintro n s4 ⟨i,ys,H4,its,I4,t4,f4,p4,d4,v4,w4⟩
  obtain ⟨hsz,turn4⟩:=turn i n ys H4 w4
  rcases turn4 with ⟨st,q⟩ | ⟨go,step⟩
  ·
   obtain ⟨pn,pe⟩:=p4
   have I4':Inv (A8 X scope cl Hx.objs.size N s H fp) [(s.heap.objs.size,{cls:=.type "list",data:=.seq its.toArray pn})] (List.replicate k none++outS ix σ) H4 s4:=I4.pins_of fun p hp=>by
    have ep:=List.mem_singleton.mp hp
    subst ep
    exact ⟨pe,d4,hne,dfs,fun v z=>(by cases z)⟩
   have fp4:∀b∈fp,FpOk (A8 X scope cl Hx.objs.size N s H fp) [(s.heap.objs.size,{cls:=.type "list",data:=.seq its.toArray pn})] H4 b:=fun b hb=>by
    obtain ⟨z0,z1,z2,z3,z4,_⟩:=cfp f4 b hb
    refine ⟨z0,z1,z2,z3,z4,fun p hp e=>?_⟩
    have ep:=List.mem_singleton.mp hp
    subst ep
    exact absurd (hlt b hb) (by rw [←e];exact Nat.lt_irrefl _)
   refine thn (T.done (A8 X scope cl Hx.objs.size N s H fp) rfl rfl rfl hcalm i _ s4 _ H4 _ I4' fp4 t4 st) fun r s5 ⟨hr,I5⟩=>?_
   subst hr
   obtain ⟨e5,n5,_⟩:=I5.pin (s.heap.objs.size,_) (List.mem_singleton.mpr rfl)
   exact fin s.heap.objs.size Hx.objs.size ys H4 s5 ⟨⟨_,I5.pins_of (pins':=[]) fun p hp=>(by cases hp)⟩,n5,⟨its,pn,v4,e5⟩,Nat.le_refl _,hle,hne,hsz⟩ q
  ·obtain ⟨pn,pe⟩:=p4
   have I4':Inv (A8 X scope cl Hx.objs.size N s H fp) [(s.heap.objs.size,{cls:=.type "list",data:=.seq its.toArray pn})] (List.replicate k none++outS ix σ) H4 s4:=I4.pins_of fun p hp=>by
    have ep:=List.mem_singleton.mp hp
    subst ep
    exact ⟨pe,d4,hne,dfs,fun v z=>(by cases z)⟩
   have fpx:∀{H':Hp},(∀b∈fp,H' b=none)→∀b∈fp,FpOk (A8 X scope cl Hx.objs.size N s H fp) [(s.heap.objs.size,{cls:=.type "list",data:=.seq its.toArray pn})] H' b:=fun hn b hb=>by
    obtain ⟨z0,z1,z2,z3,z4,_⟩:=cfp hn b hb
    refine ⟨z0,z1,z2,z3,z4,fun p hp e=>?_⟩
    have ep:=List.mem_singleton.mp hp
    subst ep
    exact absurd (hlt b hb) (by rw [←e];exact Nat.lt_irrefl _)
   refine thn (T.item (A8 X scope cl Hx.objs.size N s H fp) rfl rfl rfl hcalm i _ s4 _ H4 (fun _ _=>False) I4' (fpx f4) t4 go) fun r s5 ⟨u,hr,h5⟩=>?_
   subst hr
   refine thn h5 fun _ s6 ⟨x,H6,I6,r6,y6,t6,f6⟩=>?_
   have I6':=I6.pinned (fpx f6) (T.obj _ _ t6)
   have stp:=og x _ H6 _ (fun σ2 H2=>(σ2.length=(List.replicate k none++outS ix σ).length∧∀j,k≤j→σ2[j]?=(List.replicate k none++outS ix σ)[j]?)∧
    tc σ2 H2 fun b H3=>if b=true then te σ2 H3 (fun v H4=>∃m',m' < n∧W (i + 1) m' (ys++[v]) H4) else ∃m',m' < n∧W (i + 1) m' ys H3) (fun σ2 H2 a b c=>⟨⟨a,b⟩,c⟩) (step x H6 y6)
   refine thn (hg _ _ s6 _ H6 x u _ I6' r6 stp) fun _ s7 ⟨σ7,H7,I7,⟨l7,k7⟩,q7⟩=>?_
   have weak:∀{H':Hp} {s':Shared} {ps:List (Addr×Obj)},Inv (A8 X scope cl Hx.objs.size N s H fp) ps σ7 H' s'→Inv (A8 X scope cl Hx.objs.size N s H fp) ps (List.replicate k none++outS ix σ) H' s':=fun z=>z.weak l7.symm fun j v e=>by
    rcases Nat.lt_or_ge j k with hj | hj
    ·rw [List.getElem?_append_left (by simpa using hj),List.getElem?_replicate,if_pos hj] at e
     cases e
    ·rw [k7 j hj];exact e
   refine thn (ht _ _ s7 σ7 H7 _ I7 q7) fun ok s8 ⟨H8,I8,q8⟩=>?_
   have keepT:∀{H':Hp} {s':Shared},Inv (A8 X scope cl Hx.objs.size N s H fp) ([(s.heap.objs.size,{cls:=.type "list",data:=.seq its.toArray pn})]++Fp fp s6.heap) σ7 H' s'→
     tn (i + 1) s'.heap∧(∀b∈fp,H' b=none)∧s'.heap.PlainList s.heap.objs.size its.toArray∧H' s.heap.objs.size=none:=fun {H' s'} z=>by
    refine ⟨T.keep _ _ _ t6 fun b hb o e=>(z.pin (b,o) (List.mem_append_right _ (List.mem_append_right _ (Cr hb e)))).1,fun b hb=>?_,?_⟩
    ·obtain ⟨o,e,d⟩:=T.obj _ _ t6 b hb
     exact (z.pin (b,o) (List.mem_append_right _ (List.mem_append_right _ (Cr hb e)))).2.1
    ·obtain ⟨e,n',_⟩:=z.pin (s.heap.objs.size,{cls:=.type "list",data:=.seq its.toArray pn}) (List.mem_append_right _ (List.mem_append_left _ (List.mem_singleton.mpr rfl)))
     exact ⟨⟨pn,e⟩,n'⟩
   cases ok with
   | false=>
     have q8:∃m',m' < n∧W (i + 1) m' ys H8:=by simpa using q8
     obtain ⟨m',hm,w8⟩:=q8
     obtain ⟨a1,a2,a3,a4⟩:=keepT I8
     exact ⟨m',hm,i + 1,ys,H8,its,(weak I8).pins_of (pins':=[]) fun p hp=>(by cases hp),a1,a2,a3,a4,v4,w8⟩
   | true=>
     have q8:te σ7 H8 (fun v H4=>∃m',m' < n∧W (i + 1) m' (ys++[v]) H4):=by simpa using q8
     show wpAny _ _ (eval elt _) _ _ s8
     refine thn (he _ _ s8 σ7 H8 _ I8 q8) fun y s9 ⟨v,H9,I9,r9,m',hm,w9⟩=>?_
     obtain ⟨a1,a2,a3,a4⟩:=keepT I9
     refine wpAny_list_append_plain a3 (fun h10 hp10 hs10=>?_) (by rw [List.size_toArray,←v4.length];exact hsz)
     refine ⟨m',hm,i + 1,ys++[v],H9,its++[y],?_,T.keep _ _ _ a1 fun b hb o e=>hs10.extBut b o (fun z=>absurd (hlt b hb) (by rw [z];exact Nat.lt_irrefl _)) e,a2,by simpa using hp10,a4,Paired.snoc v4 r9,w9⟩
     have I9':Inv (A8 X scope cl Hx.objs.size N s H fp) [] (List.replicate k none++outS ix σ) H9 s9:=(weak I9).pins_of (pins':=[]) fun p hp=>(by cases hp)
     exact I9'.turned (t':=s9.toks) (it:=s.heap.objs.size) (fun b o hb e=>hs10.extBut b o hb e) a4 hne (.inr (Nat.le_refl _))
      (fun x c e=>cne x c (hcl x c e)) fun p hp=>(by cases hp)
 exact codeAny_compStart_list (loop _ rfl) (T.self _ 0 _ _ _ (T.keep _ _ _ t0 fun b _ o e=>old b o e) (loop _ rfl))
end
def Q3 (k:Nat) (ix:List Nat) (wi:TI) (g:TG) (tc:TT) (te:TE):TE:=fun σ H Q=>wi σ H fun J H1=>
 I_ k ix g tc te σ J H1 fun ys H2=>∀D,H2 D=none→Q (.ref D) (upd H2 D (.lst ys))
section
variable {X:Cx} {elt target iter:Expr} {ifs:List Expr} {scope:Scope} {pos:Pos} {N:List Str} {k:Nat} {ix:List Nat} {wi:TI} {g:TG} {tc:TT} {te:TE}
theorem FQ {pins:List (Addr×Obj)} {σ:St} {H:Hp} {s:Shared} (I:Inv X pins σ H s) (hc:Cd X.env.scope X.N k ix N scope):∀y∈scope.names,y.2=.free→∃c,X.env.cells.lookup y.1=some c:=fun y hy e=>
 I.ok.has y.1 (hc.2.2.2.1 y hy e)
theorem MB (hcalm:X.calm=true) (hc:Cd X.env.scope X.N k ix N scope) (og:OwnG k g) (hi:PI X target iter wi)
  (hb:∀cl C s H fp,PG (A8 X scope cl C N s H fp) target g∧PF (A8 X scope cl C N s H fp) ifs tc∧PE (A8 X scope cl C N s H fp) elt te)
  (hs:∀x,foldedSetIterable iter X.env x=pure x:=by intro _;rfl):PE X (.ListComp elt [⟨target,iter,ifs,0⟩] scope pos) (Q3 k ix wi g tc te):=by
 intro pins s σ H Q I h
 obtain ⟨cl,hclos,hcl,hcl2⟩:=Da X.env scope (FQ I hc)
 rw [eval_ListComp]
 refine wpAny_comprehension_free (use:=none) rfl hs hclos hc.1 hc.2.2.1 (thn (hi pins s σ H _ I h) fun xv s1 h1=>thn h1 fun itv s2 h2=>?_)
 obtain ⟨it,fp,tn,J,H2,e,I2,T,st2,f2,hw⟩:=h2
 subst e
 refine Fb hcalm I2 hc og hcl hcl2 T st2 f2 (fun C=>(hb cl C s2 H2 fp).1) (fun C=>(hb cl C s2 H2 fp).2.1) (fun C=>(hb cl C s2 H2 fp).2.2) hw (RR:=fun acc C=>compPost (model X.prog X.w) X.A X.xe none (EP X pins σ Q) acc C) ?_
 intro D C ys H' s' B q
 obtain ⟨I3,⟨m,hm⟩,hCn⟩:=B.out I2 f2
 refine ⟨m,hm,fun h' hs'=>?_⟩
 have q':=q D B.dn
 have hCs:X.s₀.heap.objs.size≤C:=Nat.le_trans I2.sz B.hC
 obtain ⟨_,f1,f3,f4,f5,f6⟩:=I2.fpOk (H':=upd H' D (.lst ys)) B.hC hCn
 exact ⟨.ref D,_,I3.turned (t':=s'.toks) (it:=C) (fun b o hb e=>hs'.extBut b o hb e) hCn f1 f4 f5 f6,rfl,q'⟩
def Mg (i k:Nat) (ix:List Nat) (wi:TI) (g:TG) (tc:TT) (te:TE):TS:=fun D σ H=>wi σ H fun J H1=>
 I_ k ix g tc te σ J H1 fun ys H2=>∀p,H2 p=none→D.nx (σ.set i (some (.ref p))) (upd H2 p (.lst ys))
theorem Ip {i:Nat} {x:Str} {pos' spos:Pos} (hcalm:X.calm=true) (hN:X.N.Nodup) (hx0:X.N[i]?=some x) (hx:X.env.scope.names.lookup x=some .local) (hc:Cd X.env.scope X.N k ix N scope) (og:OwnG k g) (hi:PI X target iter wi)
  (hb:∀cl C s H fp,PG (A8 X scope cl C N s H fp) target g∧PF (A8 X scope cl C N s H fp) ifs tc∧PE (A8 X scope cl C N s H fp) elt te)
  (hsw:swapsWith (.ListComp elt [⟨target,iter,ifs,0⟩] scope pos) (some (.Name x pos')) spos.line X.env=pure true:=by rfl)
  (hs:∀x,foldedSetIterable iter X.env x=pure x:=by intro _;rfl):PS X (.Assign [.Name x pos'] (.ListComp elt [⟨target,iter,ifs,0⟩] scope pos) spos) (Mg i k ix wi g tc te):=by
 intro pins s σ H Dn I h
 obtain ⟨cl,hclos,hcl,hcl2⟩:=Da X.env scope (FQ I hc)
 rw [exec_Assign_Name_used _ _ _ _ hsw]
 refine wpAny_bind (wpAny_standAt (wpAny_bind ?_))
 show wpAny _ X.A (do let _ ←comprehension (.ListComp elt [⟨target,iter,ifs,0⟩] scope pos) scope X.env _ (newList []) false (eval iter X.env) (some (assign (.Name x pos') X.env))) _ _ s
 refine wpAny_bind (wpAny_mono (wpAny_comprehension_free (use:=some (assign (.Name x pos') X.env)) (Q:=fun _ s'=>SP X pins Dn .next s') rfl hs hclos hc.1 hc.2.2.1
  (thn (hi pins s σ H _ I h) fun xv s1 h1=>thn h1 fun itv s2 h2=>?_)) (fun _ s' hq=>wpAny_pure (wpAny_pure hq)) fun _ _ e=>e)
 obtain ⟨it,fp,tn,J,H2,e,I2,T,st2,f2,hw⟩:=h2
 subst e
 refine Fb hcalm I2 hc og hcl hcl2 T st2 f2 (fun C=>(hb cl C s2 H2 fp).1) (fun C=>(hb cl C s2 H2 fp).2.1) (fun C=>(hb cl C s2 H2 fp).2.2) hw (RR:=fun acc C=>compPost (model X.prog X.w) X.A X.xe (some (assign (.Name x pos') X.env)) (fun _ s'=>SP X pins Dn .next s') acc C) ?_
 intro D C ys H' s' B q
 obtain ⟨I3,⟨m,o,es,ep,ho,hd,hr⟩,hCn⟩:=B.out I2 f2
 have q':=q D B.dn
 obtain ⟨_,f1,f3,f4,f5,f6⟩:=I2.fpOk (H':=upd H' D (.lst ys)) B.hC hCn
 have I4:Inv X (pins++[(C,o)]) σ (upd H' D (.lst ys)) s':=I3.pins_of fun p hp=>(List.mem_append.mp hp).elim (fun z=>I3.pin p (List.mem_append_right _ z)) fun z=>by
  have z':=List.mem_singleton.mp z
  subst z'
  exact ⟨ho,hCn,f1,f3,fun v z=>by rw [hd] at z;cases z⟩
 show wpAny _ X.A (assign (.Name x pos') X.env (.ref D)) _ _ s'
 refine wpAny_assign_Name (DA I4 hN hx0 (.inl hx) (v:=.ref D) (u:=.ref D) rfl (fun s5 I5=>?_) (.inr hx))
 obtain ⟨e5,n5,_⟩:=I5.pin (C,o) (List.mem_append_right _ (List.mem_append_right _ (List.mem_singleton.mpr rfl)))
 refine ⟨m,⟨o,es,ep,e5,hd,hr⟩,fun h' hs'=>?_⟩
 exact ⟨_,_,I5.unpinned.turned (t':=s5.toks) (it:=C) (fun b o hb e=>hs'.extBut b o hb e) hCn f1 f4 f5 f6,q'⟩
end
section
def ExcAt (a C:Addr) (h:Heap):Prop:=∃o vs,h.get? a=some o∧o.cls=.ref C∧o.data=.fields vs
def excD (C:Addr):PyData:=.dict [(.none,.int (C:Int))]
def Pb (a C dx:Addr) (h:Heap):Prop:=∃o vs,h.get? a=some o∧o.cls=.ref C∧o.data=.fields vs∧o.dict=some dx
def Nt (C:Addr) (n:Int):PyData:=.dict [(.none,.int (C:Int)),(.none,.int n)]
def excC:List (PyData×PyData)→Option Addr
 | [(.none,.int i)]=>some i.toNat
 | [(.none,.int i),(.none,.int _)]=>some i.toNat
 | (.none,.tuple [.int i])::_=>some i.toNat
 | (.bool true,_)::_=>some 0
 | _=>none
def objD (C:Addr) (es:List (PyData×PyData)):PyData:=.dict ((.none,.tuple [.int (C:Int)])::es)
def KR:PyData→Bool
 | .dict ((.none,.tuple _)::_)=>true
 | .dict ((.bool true,_)::_)=>true
 | _=>false
theorem L9 (i:Int) (es:List (PyData×PyData)):excC ((.none,.tuple [.int i])::es)=some i.toNat:=by
 cases es with
 | nil=>rfl
 | cons y ys=>cases ys <;> rfl
def keyD:Key→PyData
 | .inl i=>.int i
 | .inr x=>.str x
def ppE (m:List ((Int×Int)×Int)):List (PyData×PyData):=(.bool true,.none)::m.map fun q=>(.tuple [.int q.1.1,.int q.1.2],.int q.2)
def ppK (m:List ((Int×Int)×Int)):List (List Key×V):=m.map fun q=>([.inl q.1.1,.inl q.1.2],V.int q.2)
def AZ:List Str:=["start","text","rows","ways","atoms","numbers","rights","memory","box_words","here","truth_pair","told_words","stored_cells","done_count","led","table","now","made","pair","recipes","text_cells","held","sure","late","events","loads","spots","states"]
mutual
inductive DV (K:PySem.W.Frag) (H:Hp):V→PyData→Prop where
 | non:DV K H .non .none
 | bl (b:Bool):DV K H (.bl b) (.bool b)
 | int (i:Int):DV K H (.int i) (.int i)
 | str (x:Str):DV K H (.str x) (.str x)
 | tup {a:Addr} {xs:List V} {ds:List PyData}:SqT K H a xs→DVs K H xs ds→DV K H (.ref a) (.tuple ds)
 | lst {a:Addr} {xs:List V} {ds:List PyData}:SqL K H a xs→DVs K H xs ds→DV K H (.ref a) (.list ds)
 | dct {a:Addr} {kvs:List (Key×V)} {es:List (PyData×PyData)}:H a=some (.dK kvs)→DVk K H kvs es→DV K H (.ref a) (.dict es)
 | exc {a C:Addr}:H a=some (.ext (ExcAt a C))→DV K H (.ref a) (.dict [(.none,.int (C:Int))])
 | exr {a C dx:Addr} {n:Int}:H a=some (.ext (Pb a C dx))→H dx=some (.xd [("row",.int n)])→DV K H (.ref a) (.dict [(.none,.int (C:Int)),(.none,.int n)])
 | obj {a C dx:Addr} {fs:List (Str×V)} {es:List (PyData×PyData)}:H a=some (.ins C dx fs)→(∀m:Str,m∉AZ→fs.lookup m=none)→DVf K H fs es→DV K H (.ref a) (.dict ((.none,.tuple [.int (C:Int)])::es))
 | dtt {a:Addr} {m:List ((Int×Int)×Int)}:H a=some (.dT (ppK m))→DV K H (.ref a) (.dict (ppE m))
inductive DVs (K:PySem.W.Frag) (H:Hp):List V→List PyData→Prop where
 | nil:DVs K H [] []
 | cons {x:V} {d:PyData} {xs:List V} {ds:List PyData}:DV K H x d→DVs K H xs ds→DVs K H (x::xs) (d::ds)
inductive DVk (K:PySem.W.Frag) (H:Hp):List (Key×V)→List (PyData×PyData)→Prop where
 | nil:DVk K H [] []
 | cons {k:Key} {x:V} {d:PyData} {xs:List (Key×V)} {ds:List (PyData×PyData)}:DV K H x d→DVk K H xs ds→DVk K H ((k,x)::xs) ((keyD k,d)::ds)
inductive DVf (K:PySem.W.Frag) (H:Hp):List (Str×V)→List (PyData×PyData)→Prop where
 | nil {fs:List (Str×V)}:DVf K H fs []
 | cons {fs:List (Str×V)} {f:Str} {x:V} {d:PyData} {ds:List (PyData×PyData)}:fs.lookup f=some x→DV K H x d→DVf K H fs ds→DVf K H fs ((.str f,d)::ds)
end
theorem Same.seqT {K:PySem.W.Frag} {H H':Hp} {a:Addr} {xs:List V} (e:Same H H') (h:SqT K H a xs):SqT K H' a xs:=by
 rcases h with (h | ⟨o,h⟩) | h
 ·exact .inl (.inl (e _ _ h))
 ·exact .inl (.inr ⟨o,e _ _ h⟩)
 ·exact .inr h
section
variable {K:PySem.W.Frag} {H H':Hp}
mutual
theorem DV.mono (e:Same H H'):∀{v:V} {d:PyData},DV K H v d→DV K H' v d
 | _,_,.non=>.non
 | _,_,.bl b=>.bl b
 | _,_,.int i=>.int i
 | _,_,.str x=>.str x
 | _,_,.tup h t=>.tup (e.seqT h) (DVs.mono e t)
 | _,_,.lst h t=>.lst (e.seq h) (DVs.mono e t)
 | _,_,.dct h t=>.dct (e _ _ h) (DVk.mono e t)
 | _,_,.exc h=>.exc (e _ _ h)
 | _,_,.exr h h'=>.exr (e _ _ h) (e _ _ h')
 | _,_,.obj h n t=>.obj (e _ _ h) n (DVf.mono e t)
 | _,_,.dtt h=>.dtt (e _ _ h)
theorem DVs.mono (e:Same H H'):∀{vs:List V} {ds:List PyData},DVs K H vs ds→DVs K H' vs ds
 | _,_,.nil=>.nil
 | _,_,.cons h t=>.cons (DV.mono e h) (DVs.mono e t)
theorem DVk.mono (e:Same H H'):∀{vs:List (Key×V)} {ds:List (PyData×PyData)},DVk K H vs ds→DVk K H' vs ds
 | _,_,.nil=>.nil
 | _,_,.cons h t=>.cons (DV.mono e h) (DVk.mono e t)
theorem DVf.mono (e:Same H H'):∀{vs:List (Str×V)} {ds:List (PyData×PyData)},DVf K H vs ds→DVf K H' vs ds
 | _,_,.nil=>.nil
 | _,_,.cons l h t=>.cons l (DV.mono e h) (DVf.mono e t)
end
theorem DVs.length:∀{vs:List V} {ds:List PyData},DVs K H vs ds→vs.length=ds.length
 | _,_,.nil=>rfl
 | _,_,.cons _ t=>by rw [List.length_cons,List.length_cons,DVs.length t]
theorem DVs.get:∀{vs:List V} {ds:List PyData} {i:Nat} {d:PyData},DVs K H vs ds→ds[i]?=some d→∃v,vs[i]?=some v∧DV K H v d
 | _,_,_,_,.nil,e=>by simp at e
 | _,_,0,_,.cons h _,e=>by simp at e;subst e;exact ⟨_,rfl,h⟩
 | _,_,i + 1,d,.cons _ t,e=>by
   obtain ⟨v,h1,h2⟩:=DVs.get (i:=i) (d:=d) t (by simpa using e)
   exact ⟨v,by simpa using h1,h2⟩
theorem DVs.get':∀{vs:List V} {ds:List PyData} {i:Nat} {v:V},DVs K H vs ds→vs[i]?=some v→∃d,ds[i]?=some d∧DV K H v d
 | _,_,_,_,.nil,e=>by simp at e
 | _,_,0,_,.cons h _,e=>by simp at e;subst e;exact ⟨_,rfl,h⟩
 | _,_,i + 1,d,.cons _ t,e=>by
   obtain ⟨v,h1,h2⟩:=DVs.get' (i:=i) (v:=d) t (by simpa using e)
   exact ⟨v,by simpa using h1,h2⟩
theorem DVs.append:∀{vs ws:List V} {ds es:List PyData},DVs K H vs ds→DVs K H ws es→DVs K H (vs++ws) (ds++es)
 | _,_,_,_,.nil,s=>s
 | _,_,_,_,.cons h t,s=>.cons h (DVs.append t s)
theorem DVs.take:∀{vs:List V} {ds:List PyData} (n:Nat),DVs K H vs ds→DVs K H (vs.take n) (ds.take n)
 | _,_,0,_=>.nil
 | _,_,_ + 1,.nil=>.nil
 | _,_,n + 1,.cons h t=>.cons h (DVs.take n t)
theorem DVs.drop:∀{vs:List V} {ds:List PyData} (n:Nat),DVs K H vs ds→DVs K H (vs.drop n) (ds.drop n)
 | _,_,0,r=>r
 | _,_,_ + 1,.nil=>.nil
 | _,_,n + 1,.cons _ t=>DVs.drop n t
theorem DVs.ints:∀(ns:List Int),DVs K H (ns.map V.int) (ns.map PyData.int)
 | []=>.nil
 | n::r=>.cons (.int n) (DVs.ints r)
theorem DVs.of_ints:∀{vs:List V} {ns:List Int},DVs K H vs (ns.map PyData.int)→vs=ns.map V.int
 | _,[],.nil=>rfl
 | _,n::r,.cons h t=>by cases h;rw [DVs.of_ints t];rfl
theorem DVs.of_bools:∀{vs:List V} {ns:List Bool},DVs K H vs (ns.map PyData.bool)→vs=ns.map V.bl
 | _,[],.nil=>rfl
 | _,n::r,.cons h t=>by cases h;rw [DVs.of_bools t];rfl
theorem DV.of_int {v:V} {i:Int} (h:DV K H v (.int i)):v=.int i:=by cases h;rfl
theorem DV.of_bl {v:V} {i:Bool} (h:DV K H v (.bool i)):v=.bl i:=by cases h;rfl
theorem DV.of_str {v:V} {i:Str} (h:DV K H v (.str i)):v=.str i:=by cases h;rfl
theorem DV.of_tup {v:V} {ds:List PyData} (h:DV K H v (.tuple ds)):∃a xs,v=.ref a∧SqT K H a xs∧DVs K H xs ds:=by cases h with | tup h t=>exact ⟨_,_,rfl,h,t⟩
theorem Hm {kvs:List (Key×V)} {es:List (PyData×PyData)} (h:DVk K H kvs es):excC es=none:=by
 cases h with
 | nil=>rfl
 | cons h t=>
   rename_i k x d xs ds
   cases t with
   | nil=>cases k <;> cases d <;> rfl
   | cons h2 t2=>rename_i k2 x2 d2 xs2 ds2;cases k <;> cases d <;> cases k2 <;> cases d2 <;> cases ds2 <;> rfl
theorem DV.of_objN {v:V} {C:Addr} {es:List (PyData×PyData)} (h:DV K H v (objD C es)):∃a dx fs,v=.ref a∧H a=some (.ins C dx fs)∧DVf K H fs es∧∀m:Str,m∉AZ→fs.lookup m=none:=by
 unfold objD at h
 generalize ei:((C:Nat):Int)=i at h
 generalize ee:PyData.dict ((.none,.tuple [.int i])::es)=e at h
 cases h with
 | dct h t=>
   injection ee with ee
   subst ee
   have z:=Hm t
   rw [L9] at z
   cases z
 | obj h n t=>
   injection ee with ee
   injection ee with ee e2
   injection ee with _ ee
   injection ee with ee
   injection ee with ee _
   injection ee with ee
   have:C=_:=Int.ofNat.inj (ei.trans ee)
   subst this e2
   exact ⟨_,_,_,rfl,h,t,n⟩
 | _=>cases ee
theorem DVf.get:∀{fs:List (Str×V)} {es:List (PyData×PyData)} {f:Str} {d:PyData},DVf K H fs es→(.str f,d)∈es→∃v,fs.lookup f=some v∧DV K H v d
 | _,_,_,_,.nil,h=>by cases h
 | _,_,f,d,.cons l q t,h=>by
   rcases List.mem_cons.mp h with e | e
   ·injection e with e1 e2
    injection e1 with e1
    subst e1 e2
    exact ⟨_,l,q⟩
   ·exact DVf.get t e
theorem DV.of_lst {v:V} {ds:List PyData} (h:DV K H v (.list ds)):∃a xs,v=.ref a∧SqL K H a xs∧DVs K H xs ds:=by cases h with | lst h t=>exact ⟨_,_,rfl,h,t⟩
end
mutual
theorem DV.reads {X:Cx} {pins:List (Addr×Obj)} {σ:St} {H:Hp} {s:Shared} (I:Inv X pins σ H s):∀{v:V} {d:PyData} {u:Value},DV X.K H v d→RelV v u→d.canLay0=true→∃as,Reads s.heap u d as
 | _,_,_,.non,r,_=>⟨[],by rw [show _=Value.none from r];exact .none⟩
 | _,_,_,.bl b,r,_=>⟨[],by rw [show _=Value.bool b from r];exact .bool b⟩
 | _,_,_,.int i,r,_=>let ⟨t,e⟩:=r;⟨[],by rw [e];exact .int i t⟩
 | _,_,_,.str x,r,_=>let ⟨t,e⟩:=r;⟨[],by rw [e];exact .str x t⟩
 | _,_,_,.tup h t,r,c=>by
   rw [show _=Value.ref _ from r]
   obtain ⟨its,rv,⟨o,e1,e2,n,e3⟩,_⟩:=I.tuple h
   obtain ⟨as,q⟩:=DVs.reads I t rv (by unfold PyData.canLay0 at c;exact c)
   exact ⟨_,.tuple e1 e2 e3 (by simpa using q)⟩
 | _,_,_,.lst h t,r,c=>by
   rw [show _=Value.ref _ from r]
   obtain ⟨its,rv,pl,_⟩:=I.list h
   obtain ⟨o,e1,e2,n,e3⟩:=pl.isList
   obtain ⟨as,q⟩:=DVs.reads I t rv (by unfold PyData.canLay0 at c;exact c)
   exact ⟨_,.list e1 e2 e3 (by simpa using q)⟩
 | _,_,_,.dct h t,r,c=>by simp [PyData.canLay0] at c
 | _,_,_,.exc h,r,c=>by simp [PyData.canLay0] at c
 | _,_,_,.exr h h',r,c=>by simp [PyData.canLay0] at c
 | _,_,_,.obj h n t,r,c=>by simp [PyData.canLay0] at c
 | _,_,_,.dtt h,r,c=>by simp [PyData.canLay0] at c
theorem DVs.reads {X:Cx} {pins:List (Addr×Obj)} {σ:St} {H:Hp} {s:Shared} (I:Inv X pins σ H s):∀{vs:List V} {ds:List PyData} {us:List Value},DVs X.K H vs ds→Vals vs us→PyData.canLayAll0 ds=true→∃as,ReadsAll s.heap us ds as
 | _,_,_,.nil,.nil,_=>⟨_,.nil⟩
 | _,_,_,.cons h t,.cons r rs,c=>by
   unfold PyData.canLayAll0 at c
   rw [Bool.and_eq_true] at c
   obtain ⟨a1,q1⟩:=DV.reads I h r c.1
   obtain ⟨a2,q2⟩:=DVs.reads I t rs c.2
   exact ⟨_,.cons q1 q2⟩
end
abbrev Gam:=List (Option PyData)
def SD (K:PySem.W.Frag) (H:Hp) (σ:St) (G:Gam):Prop:=σ.length=G.length∧∀(i:Nat) d,G[i]?=some (some d)→∃v,σ[i]?=some (some v)∧DV K H v d
theorem SD.mono {K:PySem.W.Frag} {H H':Hp} {σ:St} {G:Gam} (h:SD K H σ G) (e:Same H H'):SD K H' σ G:=⟨h.1,fun i d z=>let ⟨v,a,b⟩:=h.2 i d z;⟨v,a,b.mono e⟩⟩
theorem SD.set {K:PySem.W.Frag} {H:Hp} {σ:St} {G:Gam} {i:Nat} {v:V} {d:PyData} (h:SD K H σ G) (q:DV K H v d):SD K H (σ.set i (some v)) (G.set i (some d)):=by
 refine ⟨by rw [List.length_set,List.length_set,h.1],fun j e z=>?_⟩
 by_cases hj:i=j
 ·subst hj
  by_cases hl:i < G.length
  ·rw [List.getElem?_set_self hl] at z
   cases z
   exact ⟨v,List.getElem?_set_self (by rw [h.1];exact hl),q⟩
  ·rw [List.getElem?_eq_none (by rw [List.length_set];omega)] at z
   cases z
 ·rw [List.getElem?_set_ne hj] at z
  obtain ⟨w,a,b⟩:=h.2 j e z
  exact ⟨w,by rw [List.getElem?_set_ne hj];exact a,b⟩
theorem SD.forget {K:PySem.W.Frag} {H:Hp} {σ:St} {G G':Gam} (h:SD K H σ G) (hl:G'.length=G.length) (hw:∀(i:Nat) d,G'[i]?=some (some d)→G[i]?=some (some d)):SD K H σ G':=⟨h.1.trans hl.symm,fun i d z=>h.2 i d (hw i d z)⟩
def tD (K:PySem.W.Frag) (G:Gam) (d:PyData):TE:=fun σ H Q=>SD K H σ G∧∀v H',Same H H'→DV K H' v d→Q v H'
def tDT (K:PySem.W.Frag) (G:Gam) (b:Bool):TT:=fun σ H Q=>SD K H σ G∧∀H',Same H H'→Q b H'
def tDA (K:PySem.W.Frag) (G:Gam) (ds:List PyData):TA:=fun σ H Q=>SD K H σ G∧∀vs H',Same H H'→DVs K H' vs ds→Q vs H'
inductive Out where
 | next (G:Gam) | ret (d:PyData)
def tDS (K:PySem.W.Frag) (G:Gam) (o:Out):TS:=fun D σ H=>SD K H σ G∧match o with
 | .next G'=>∀σ' H',Same H H'→SD K H' σ' G'→D.nx σ' H'
 | .ret d=>∀v H',Same H H'→DV K H' v d→D.rt v H'
abbrev EV (X:Cx) (G:Gam) (e:Expr) (d:PyData):Prop:=PE X e (tD X.K G d)
abbrev TV (X:Cx) (G:Gam) (e:Expr) (b:Bool):Prop:=PT X e (tDT X.K G b)
abbrev WV (X:Cx) (G:Gam) (e:Expr) (b:Bool):Prop:=PW X e (tDT X.K G b)
abbrev AV (X:Cx) (G:Gam) (es:List Expr) (ds:List PyData):Prop:=PA X es (tDA X.K G ds)
abbrev SV (X:Cx) (G:Gam) (st:Stmt) (o:Out):Prop:=PS X st (tDS X.K G o)
abbrev SVs (X:Cx) (G:Gam) (st:List Stmt) (o:Out):Prop:=PSs X st (tDS X.K G o)
section
variable {X:Cx} {G:Gam} {a b c e:Expr} {es:List Expr} {pos:Pos} {d da db dc:PyData}
theorem PE.imp {t t':TE} (h:PE X e t) (m:∀σ H Q,t' σ H Q→t σ H Q):PE X e t':=fun pins s σ H Q I q=>h pins s σ H Q I (m σ H Q q)
theorem PT.imp {t t':TT} (h:PT X e t) (m:∀σ H Q,t' σ H Q→t σ H Q):PT X e t':=fun pins s σ H Q I q=>h pins s σ H Q I (m σ H Q q)
theorem PW.imp {t t':TT} (h:PW X e t) (m:∀σ H Q,t' σ H Q→t σ H Q):PW X e t':=fun w pins s σ H Q I q=>h w pins s σ H Q I (m σ H Q q)
theorem PA.imp {t t':TA} (h:PA X es t) (m:∀σ H Q,t' σ H Q→t σ H Q):PA X es t':=fun p pins s σ H Q I q=>h p pins s σ H Q I (m σ H Q q)
theorem PS.imp {st:Stmt} {t t':TS} (h:PS X st t) (m:∀D σ H,t' D σ H→t D σ H):PS X st t':=fun pins s σ H D I q=>h pins s σ H D I (m D σ H q)
theorem PSs.imp {st:List Stmt} {t t':TS} (h:PSs X st t) (m:∀D σ H,t' D σ H→t D σ H):PSs X st t':=fun pins s σ H D I q=>h pins s σ H D I (m D σ H q)
theorem OpR.imp {f:Value→Value→Sem Value} {r r':R2} (h:OpR X f r) (m:∀x y H Q,r' x y H Q→r x y H Q):OpR X f r':=fun pins s σ H x y v u Q I rx ry q=>h pins s σ H x y v u Q I rx ry (m x y H Q q)
theorem CallR.imp {f:Value} {r r':List V→Hp→VK→Prop} (h:CallR X f r) (m:∀xs H Q,r' xs H Q→r xs H Q):CallR X f r':=fun pins s σ H xs us Q I rs q=>h pins s σ H xs us Q I rs (m xs H Q q)
theorem Pk (i:Nat) {x:Str} (hG:G[i]?=some (some d)) (hp:PE X (.Name x pos) (tVar i)):EV X G (.Name x pos) d:=hp.imp fun σ H Q ⟨h,k⟩=>by
 obtain ⟨v,a,b⟩:=h.2 i d hG
 exact ⟨v,a,k v H (Same.refl H) b⟩
theorem evv (i:Nat) {x:Str} (hG:G[i]?=some (some d):=by rfl) (hN:X.N[i]?=some x:=by rfl) (hv:Vis X.env.scope x:=by first | exact Or.inl rfl | exact Or.inr (Or.inl rfl) | exact Or.inr (Or.inr rfl)) (hd:(x==("__debug__":Str))=false:=by decide) (hcd:(x==("__classdict__":Str))=false:=by decide):EV X G (.Name x pos) d:=Pk i hG (pv i hN hv hd hcd)
theorem Ab {i j}:EV X G (.Constant (.int i) j pos) (.int i):=pe_int.imp fun σ H Q ⟨h,k⟩=>k _ H (Same.refl H) (.int i)
theorem FZ {i j}:EV X G (.Constant (.bool i) j pos) (.bool i):=pe_bl.imp fun σ H Q ⟨h,k⟩=>k _ H (Same.refl H) (.bl i)
theorem Ai {i j}:EV X G (.Constant (.str i) j pos) (.str i):=pe_str.imp fun σ H Q ⟨h,k⟩=>k _ H (Same.refl H) (.str i)
theorem El {j}:EV X G (.Constant .none j pos) .none:=pe_non.imp fun σ H Q ⟨h,k⟩=>k _ H (Same.refl H) .non
def rD (K:PySem.W.Frag) (da db d:PyData):R2:=fun x y H Q=>DV K H x da∧DV K H y db∧∀v H',Same H H'→DV K H' v d→Q v H'
abbrev OD (X:Cx) (f:Value→Value→Sem Value) (da db d:PyData):Prop:=OpR X f (rD X.K da db d)
theorem FL {r:R2} {σ:St} {H:Hp} {Q:VK} {K:PySem.W.Frag} (h:SD K H σ G) (k:∀x y H',Same H H'→DV K H' x da→DV K H' y db→r x y H' Q):tOp r (tD K G da) (tD K G db) σ H Q:=
 ⟨h,fun x H1 s1 d1=>⟨h.mono s1,fun y H2 s2 d2=>k x y H2 (s1.trans s2) (d1.mono s2) d2⟩⟩
theorem Ad {op:Operator} (ha:EV X G a da) (hb:EV X G b db) (ho:OD X (binaryOp op) da db d):EV X G (.BinOp a op b pos) d:=
 (NH ho ha hb).imp fun σ H Q ⟨h,k⟩=>FL h fun x y H' s' d1 d2=>⟨d1,d2,fun v H2 s2 dv=>k v H2 (s'.trans s2) dv⟩
theorem Bf {op:CmpOp} (ha:EV X G a da) (hb:EV X G b db) (ho:OD X (compareOp op) da db d) (hm:behindInMarks op b=false):EV X G (.Compare a [op] [b] pos) d:=
 (Mw ho ha hb hm).imp fun σ H Q ⟨h,k⟩=>FL h fun x y H' s' d1 d2=>⟨d1,d2,fun v H2 s2 dv=>k v H2 (s'.trans s2) dv⟩
theorem An {op:CmpOp} {k:Bool} (ha:EV X G a da) (hb:EV X G b db) (ho:OD X (compareOp op) da db (.bool k)) (hm:behindInMarks op b=false):TV X G (.Compare a [op] [b] pos) k:=
 (M6 ho ha hb hm).imp fun σ H Q ⟨h,kk⟩=>FL h fun x y H' s' d1 d2=>⟨d1,d2,fun v H2 s2 dv=>⟨k,dv.of_bl,kk H2 (s'.trans s2)⟩⟩
theorem CO {f:Value→Value→Sem Value} {i j:Int} {g:Int→Int→V} (h:OpR X f (rI0 g)) (hd:∀H,DV X.K H (g i j) d):OD X f (.int i) (.int j) d:=
 h.imp fun x y H Q ⟨h1,h2,k⟩=>⟨i,j,h1.of_int,h2.of_int,k _ H (Same.refl H) (hd H)⟩
theorem IX {f:Value→Value→Sem Value} {i j:Int} {C:Int→Int→Prop} {g:Int→Int→V} (h:OpR X f (rI C g)) (hc:C i j) (hd:∀H,DV X.K H (g i j) d):OD X f (.int i) (.int j) d:=
 h.imp fun x y H Q ⟨h1,h2,k⟩=>⟨i,j,h1.of_int,h2.of_int,hc,k _ H (Same.refl H) (hd H)⟩
theorem Cy {k:Bool} (hu:X.A.units + 64 < cLine) (ha:da.canLay0=true) (hb:db.canLay0=true) (hd:min da.depth db.depth≤60) (hk:PyData.eqv da db=k):OD X (compareOp .Eq) da db (.bool k):=by
 intro pins s σ H x y v u Q I rx ry ⟨h1,h2,q⟩
 obtain ⟨as,r1⟩:=h1.reads I rx ha
 obtain ⟨bs,r2⟩:=h2.reads I ry hb
 refine PySem.SeqAt.compareEq_reads r1 r2 ha hb (by omega) ⟨.bl _,H,I,rfl,q _ H (Same.refl H) ?_⟩
 rw [hk]
 exact .bl k
theorem C_ {k:Bool} (hu:X.A.units + 64 < cLine) (ha:da.canLay0=true) (hb:db.canLay0=true) (hd:min da.depth db.depth≤60) (hk:(!PyData.eqv da db)=k):OD X (compareOp .NotEq) da db (.bool k):=by
 intro pins s σ H x y v u Q I rx ry ⟨h1,h2,q⟩
 obtain ⟨as,r1⟩:=h1.reads I rx ha
 obtain ⟨bs,r2⟩:=h2.reads I ry hb
 refine PySem.SeqAt.compareNe_reads r1 r2 ha hb (by omega) ⟨.bl _,H,I,rfl,q _ H (Same.refl H) ?_⟩
 rw [hk]
 exact .bl k
end
end
section
variable {X:Cx} {G:Gam} {a b c e:Expr} {es rest:List Expr} {pos:Pos} {d da db dc:PyData}
theorem Same.new {H:Hp} {p:Addr} {o:HO} (h:H p=none):Same H (upd H p o):=fun b u e=>by rw [Aj (A6 e h)];exact e
theorem AI {k:Bool} (h:EV X G e (.bool k)) (he:∀whole,isTrue e X.env whole=(do let v ←whole;standAt e.pos;holding [v] (truthy v)):=by intro _;rfl):TV X G e k:=
 (Ob h he).imp fun σ H Q ⟨h,q⟩=>⟨h,fun v H' s' dv=>⟨k,dv.of_bl,q H' s'⟩⟩
theorem Bx {k:Bool} (h:TV X G a k):WV X G (.BoolOp .And [a] pos) k:=MA h
theorem C8 {k:Bool} (h:TV X G a k):WV X G (.BoolOp .Or [a] pos) k:=On h
theorem Bc {k k':Bool} (h:TV X G a k) (h2:k=true→WV X G (.BoolOp .And (b::rest) pos) k'):WV X G (.BoolOp .And (a::b::rest) pos) (k && k'):=by
 cases k with
 | true=>exact (Ot h (h2 rfl)).imp fun σ H Q ⟨h,q⟩=>⟨h,fun H' s'=>(by simp only [if_true];exact ⟨h.mono s',fun H2 s2=>q H2 (s'.trans s2)⟩)⟩
 | false=>
   intro wh pins s σ H Q I ⟨h1,q⟩
   refine isTrue_and (thn (h pins s σ H (fun c H1=>c=false∧Q false H1) I ⟨h1,fun H' s'=>⟨rfl,q H' s'⟩⟩) fun c s1 ⟨H1,I1,e1,q1⟩=>?_)
   subst e1
   exact ⟨H1,I1,q1⟩
theorem DK {k k':Bool} (h:TV X G a k) (h2:k=false→WV X G (.BoolOp .Or (b::rest) pos) k'):WV X G (.BoolOp .Or (a::b::rest) pos) (k || k'):=by
 cases k with
 | false=>exact (Q0 h (h2 rfl)).imp fun σ H Q ⟨h,q⟩=>⟨h,fun H' s'=>(by simp only [Bool.false_eq_true,if_false];exact ⟨h.mono s',fun H2 s2=>q H2 (s'.trans s2)⟩)⟩
 | true=>
   intro wh pins s σ H Q I ⟨h1,q⟩
   refine isTrue_or (thn (h pins s σ H (fun c H1=>c=true∧Q true H1) I ⟨h1,fun H' s'=>⟨rfl,q H' s'⟩⟩) fun c s1 ⟨H1,I1,e1,q1⟩=>?_)
   subst e1
   exact ⟨H1,I1,q1⟩
theorem B3 {k:Bool} (h:WV X G e k):TV X G e k:=h.pt
theorem AL {k:Bool} (h:TV X G a k):TV X G (.UnaryOp .Not a pos) (!k):=(Pq h).imp fun σ H Q ⟨h,q⟩=>⟨h,fun H' s'=>q H' s'⟩
theorem Id {k:Bool} (h:EV X G a (.bool k)):EV X G (.UnaryOp .Not a pos) (.bool (!k)):=(O_ h).imp fun σ H Q ⟨h,q⟩=>⟨h,fun v H' s' dv=>⟨k,dv.of_bl,q _ H' s' (.bl _)⟩⟩
theorem C3 {op} (h:EV X G a d):EV X G (.BoolOp op [a] pos) d:=Pc h
theorem B5 {k:Bool} (h:EV X G a (.bool k)) (h2:k=true→EV X G (.BoolOp .And (b::rest) pos) d) (h3:k=false→d=.bool false):EV X G (.BoolOp .And (a::b::rest) pos) d:=by
 cases k with
 | true=>exact (Ps h (h2 rfl)).imp fun σ H Q ⟨h,q⟩=>⟨h,fun v H' s' dv=>⟨true,dv.of_bl,by simp only [if_true];exact ⟨h.mono s',fun v2 H2 s2 d2=>q v2 H2 (s'.trans s2) d2⟩⟩⟩
 | false=>
   intro pins s σ H Q I ⟨h1,q⟩
   refine BoolOp_and (thn (h pins s σ H (fun v H1=>v=.bl false∧Q (.bl false) H1) I ⟨h1,fun v H' s' dv=>⟨dv.of_bl,q _ H' s' (by rw [h3 rfl];exact .bl _)⟩⟩) fun v s1 ⟨x,H1,I1,r1,e1,q1⟩=>?_)
   subst e1
   cases r1
   exact wpAny_truthy_bool ⟨.bl false,H1,I1,rfl,q1⟩
theorem LC {op op':CmpOp} {k k':Bool} (ho:OD X (compareOp op) da db (.bool k)) (ho':k=true→OD X (compareOp op') db dc (.bool k')) (ha:EV X G a da) (hb:EV X G b db) (hc:k=true→EV X G c dc)
  (hm:lastMarks [op,op'] [b,c]=false:=by with_unfolding_all rfl):EV X G (.Compare a [op,op'] [b,c] pos) (.bool (k && k')):=by
 cases k with
 | true=>
   refine (Ma ho (ho' rfl) ha hb (hc rfl) hm).imp fun σ H Q ⟨h,q⟩=>⟨h,fun x H1 s1 d1=>⟨h.mono s1,fun y H2 s2 d2=>⟨d1.mono s2,d2,fun v H3 s3 d3=>⟨true,d3.of_bl,?_⟩⟩⟩⟩
   simp only [if_true]
   exact ⟨((h.mono s1).mono s2).mono s3,fun z H4 s4 d4=>⟨(d2.mono s3).mono s4,d4,fun v H5 s5 d5=>q v H5 ((((s1.trans s2).trans s3).trans s4).trans s5) d5⟩⟩
 | false=>
   intro pins s σ H Q I ⟨h1,q⟩
   refine Compare_chain (thn (ha pins s σ H (fun x H1=>Same H H1∧DV X.K H1 x da) I ⟨h1,fun v H' s' dv=>⟨s',dv⟩⟩) fun v s1 ⟨x,H1,I1,r1,z1,d1⟩=>
    chain_link (thn (hb pins s1 σ H1 (fun y H2=>Same H H2∧DV X.K H2 x da∧DV X.K H2 y db) I1 ⟨h1.mono z1,fun v H' s' dv=>⟨z1.trans s',d1.mono s',dv⟩⟩) fun u s2 ⟨y,H2,I2,r2,z2,d2,d3⟩=>
    thn (ho pins s2 σ H2 x y v u (fun z H3=>z=.bl false∧Q (.bl false) H3) I2 r1 r2 ⟨d2,d3,fun v H3 s3 d3=>⟨d3.of_bl,q _ H3 (z2.trans s3) (.bl false)⟩⟩) fun w s3 ⟨z,H3,I3,r3,e3,q3⟩=>?_)) hm
   subst e3
   cases r3
   exact wpAny_truthy_bool (ite_ff ⟨.bl false,H3,I3,rfl,q3⟩)
theorem Co {i j:Int}:OD X (binaryOp .Add) (.int i) (.int j) (.int (i + j)):=CO Ow fun H=>.int _
theorem OY {i j:Int}:OD X (binaryOp .Sub) (.int i) (.int j) (.int (i - j)):=CO P6 fun H=>.int _
theorem ER {i j:Int} (h:CMul i j):OD X (binaryOp .Mult) (.int i) (.int j) (.int (i * j)):=IX OK h fun H=>.int _
theorem Gp {i j:Int} (h:CDiv i j):OD X (binaryOp .FloorDiv) (.int i) (.int j) (.int (i / j)):=IX ML h fun H=>.int _
theorem Be {i j:Int} (h:0 < j):OD X (binaryOp .Mod) (.int i) (.int j) (.int (i % j)):=IX OX h fun H=>.int _
theorem Py {i j:Int} (h:CPow i j):OD X (binaryOp .Pow) (.int i) (.int j) (.int (i ^ j.toNat)):=IX Pp h fun H=>.int _
theorem Oa {i j:Int}:OD X (binaryOp .BitXor) (.int i) (.int j) (.int (Builtin.bitXor i j)):=CO Oc fun H=>.int _
theorem NJ {i j:Int}:OD X (compareOp .Lt) (.int i) (.int j) (.bool (decide (i < j))):=CO QB fun H=>.bl _
theorem K1 {i j:Int}:OD X (compareOp .LtE) (.int i) (.int j) (.bool (decide (i≤j))):=CO PJ fun H=>.bl _
theorem Qv {i j:Int}:OD X (compareOp .Gt) (.int i) (.int j) (.bool (decide (j < i))):=CO Q5 fun H=>.bl _
theorem PR {i j:Int}:OD X (compareOp .GtE) (.int i) (.int j) (.bool (decide (j≤i))):=CO QF fun H=>.bl _
theorem IZ {xs ys:List PyData} (hz:xs.length + ys.length≤sizeLine):OD X (binaryOp .Add) (.list xs) (.list ys) (.list (xs++ys)):=by
 intro pins s σ H x y v u Q I rx ry ⟨h1,h2,q⟩
 obtain ⟨l,us,rfl,hl,d1⟩:=h1.of_lst
 obtain ⟨m,ws,rfl,hm,d2⟩:=h2.of_lst
 cases rx
 cases ry
 obtain ⟨its,r,pl,_⟩:=I.list hl
 obtain ⟨its2,r2,pl2,_⟩:=I.list hm
 obtain ⟨⟨cls,dd,data,sl⟩,ho,hc,n,hd⟩:=pl.isList
 obtain ⟨⟨cls2,dd2,data2,sl2⟩,ho2,hc2,n2,hd2⟩:=pl2.isList
 simp only at hc hd hc2 hd2
 subst hc hd hc2 hd2
 have hn:its.toArray.size + its2.toArray.size≤sizeLine:=by rw [List.size_toArray,List.size_toArray,←r.length,←r2.length,d1.length,d2.length];exact hz
 refine concat_meets ⟨_,ho,rfl⟩ ⟨_,ho2,rfl⟩ noFill_list_add seq_list_add PySem.F.slot_list_add PySem.F.entry_list_add (PySem.F.args_list_add_2 _ _) (list_addW l m its.toArray its2.toArray n n2 dd dd2 sl sl2 hn) ⟨ho,ho2,?_⟩
 have ea:its.toArray++its2.toArray=(its++its2).toArray:=by simp
 rw [ea]
 have hf:=I.hok.fresh (Nat.le_refl _)
 refine ⟨.ref s.heap.objs.size,_,I.laid (t':=s.toks) (o:=.lst (us++ws)) (fun b o e=>Heap.get?_push_of_some _ e) (Nat.le_refl _) ⟨by rw [List.length_append,d1.length,d2.length];exact hz,its++its2,0,r.append r2,Heap.get?_push_size _ rfl⟩,rfl,q _ _ (Same.new hf) ?_⟩
 exact .lst (SqL.of Am) ((d1.append d2).mono (Same.new hf))
theorem Jr {xs ys:List PyData} (hx:xs≠[]) (hz:xs.length + ys.length≤sizeLine):OD X (binaryOp .Add) (.tuple xs) (.tuple ys) (.tuple (xs++ys)):=
 op_catT.imp fun x y H Q ⟨h1,h2,q⟩=>by
  obtain ⟨l,us,rfl,hl,d1⟩:=h1.of_tup
  obtain ⟨m,ws,rfl,hm,d2⟩:=h2.of_tup
  refine ⟨l,m,us,ws,rfl,rfl,hl,hm,fun z=>hx ?_,by rw [d1.length,d2.length];exact hz,fun z=>?_,fun z p hp=>?_⟩
  ·subst z
   cases d1
   rfl
  ·subst z
   cases d2
   rw [List.append_nil] at q
   exact q _ H (Same.refl H) (.tup hl d1)
  ·exact q _ _ (Same.new hp) (.tup (SqT.of Am) ((d1.append d2).mono (Same.new hp)))
def Ch:PyData→Bool
 | .none=>true
 | .bool _=>true
 | .int _=>true
 | .str _=>true
 | _=>false
theorem DV.flat {K:PySem.W.Frag} {H:Hp} {v:V} {d:PyData} (h:DV K H v d) (f:Ch d=true):Dc v=true:=by
 cases h <;> first | rfl | cases f
theorem DVs.flat {K:PySem.W.Frag} {H:Hp}:∀{vs:List V} {ds:List PyData},DVs K H vs ds→ds.all Ch=true→vs.all Dc=true
 | _,_,.nil,_=>rfl
 | _,_,.cons h t,f=>by
   rw [List.all_cons,Bool.and_eq_true] at f ⊢
   exact ⟨h.flat f.1,DVs.flat t f.2⟩
theorem DV.eqV_eqv {K:PySem.W.Frag} {H:Hp} {v w:V} {d e:PyData} (h:DV K H v d) (h':DV K H w e) (f:Ch d=true) (f':Ch e=true):eqV v w=PyData.eqv d e:=by
 cases h <;> cases h' <;> first | rfl | (simp [Ch] at f;done) | (simp [Ch] at f';done)
theorem DVs.inV {K:PySem.W.Frag} {H:Hp} {v:V} {d:PyData} (h:DV K H v d) (f:Ch d=true):∀{vs:List V} {ds:List PyData},DVs K H vs ds→ds.all Ch=true→inV v vs=ds.any fun e=>PyData.eqv e d
 | _,_,.nil,_=>rfl
 | _,_,.cons h' t,fs=>by
   rw [List.all_cons,Bool.and_eq_true] at fs
   have ih:=DVs.inV h f t fs.2
   unfold L2.inV at ih ⊢
   rw [List.any_cons,List.any_cons,ih,h'.eqV_eqv h fs.1 f]
theorem FA {xs:List PyData} {k:Bool} (hs:db=.list xs∨db=.tuple xs) (f:Ch da=true) (fs:xs.all Ch=true) (hk:(xs.any fun e=>PyData.eqv e da)=k):OD X (compareOp .In) da db (.bool k):=
 op_in_seq.imp fun x y H Q ⟨h1,h2,q⟩=>by
  have z:∃p us,y=.ref p∧(SqL X.K H p us∨SqT X.K H p us)∧DVs X.K H us xs:=by
   rcases hs with rfl | rfl
   ·obtain ⟨l,us,e,hl,d1⟩:=h2.of_lst
    exact ⟨l,us,e,.inl hl,d1⟩
   ·obtain ⟨l,us,e,hl,d1⟩:=h2.of_tup
    exact ⟨l,us,e,.inr hl,d1⟩
  obtain ⟨p,us,e,hl,d1⟩:=z
  refine ⟨p,us,e,hl,h1.flat f,d1.flat fs,q _ H (Same.refl H) ?_⟩
  rw [if_neg (by simp),d1.inV h1 f fs,hk]
  exact .bl k
theorem EW {xs:List PyData} {k:Bool} (hs:db=.list xs∨db=.tuple xs) (f:Ch da=true) (fs:xs.all Ch=true) (hk:(!xs.any fun e=>PyData.eqv e da)=k):OD X (compareOp .NotIn) da db (.bool k):=
 op_notIn_seq.imp fun x y H Q ⟨h1,h2,q⟩=>by
  have z:∃p us,y=.ref p∧(SqL X.K H p us∨SqT X.K H p us)∧DVs X.K H us xs:=by
   rcases hs with rfl | rfl
   ·obtain ⟨l,us,e,hl,d1⟩:=h2.of_lst
    exact ⟨l,us,e,.inl hl,d1⟩
   ·obtain ⟨l,us,e,hl,d1⟩:=h2.of_tup
    exact ⟨l,us,e,.inr hl,d1⟩
  obtain ⟨p,us,e,hl,d1⟩:=z
  refine ⟨p,us,e,hl,h1.flat f,d1.flat fs,q _ H (Same.refl H) ?_⟩
  rw [if_pos rfl,d1.inV h1 f fs,hk]
  exact .bl k
def nonD:PyData→Bool
 | .none=>true
 | _=>false
theorem DV.isNon {K:PySem.W.Frag} {H:Hp} {v:V} {d:PyData} (h:DV K H v d):decide (v=.non)=nonD d:=by
 cases h <;> rfl
theorem Ac:AV X G [] []:=pa_nil.imp fun σ H Q ⟨h,q⟩=>q [] H (Same.refl H) .nil
theorem Aa {ds:List PyData} (h:EV X G e d) (hr:AV X G es ds) (hs:starEach (e::es) X.env=(false,eval e X.env)::starEach es X.env:=by rfl):AV X G (e::es) (d::ds):=
 (Cn h hr hs).imp fun σ H Q ⟨h,q⟩=>⟨h,fun v H1 s1 d1=>⟨h.mono s1,fun vs H2 s2 d2=>q _ H2 (s1.trans s2) (.cons (d1.mono s2) d2)⟩⟩
theorem AR {x1} {ds:List PyData} (h:AV X G es ds) (hz:ds.length≤sizeLine):EV X G (.Tuple es x1 pos) (.tuple ds):=
 (Ly h).imp fun σ H Q ⟨h,q⟩=>⟨h,fun vs H1 s1 d1=>⟨by rw [d1.length];exact hz,fun p hp=>q _ _ (s1.trans (Same.new hp)) (.tup (SqT.of Am) (d1.mono (Same.new hp)))⟩⟩
theorem AF {ds:List PyData} (h:AV X G es ds) (hz:ds.length≤sizeLine):EV X G (.List es pos) (.list ds):=
 (GO h).imp fun σ H Q ⟨h,q⟩=>⟨h,fun vs H1 s1 d1=>⟨by rw [d1.length];exact hz,fun p hp=>q _ _ (s1.trans (Same.new hp)) (.lst (SqL.of Am) (d1.mono (Same.new hp)))⟩⟩
theorem DVs.atI {K:PySem.W.Frag} {H:Hp} {vs:List V} {ds:List PyData} {i:Int} {d:PyData} (h:DVs K H vs ds) (e:atI ds i=some d):∃v,L2.atI vs i=some v∧DV K H v d:=by
 unfold L2.atI at e ⊢
 rw [h.length]
 cases q:ixN ds.length i with
 | none=>rw [q] at e;cases e
 | some j=>
   rw [q] at e
   exact h.get e
theorem AC {ds:List PyData} {i:Int} (ha:EV X G a (.list ds)) (hb:EV X G b (.int i)) (he:atI ds i=some d) (hs:EE b:=by intro _ _;rfl):EV X G (.Subscript a b pos) d:=
 (Mh Na ha hb hs).imp fun σ H Q ⟨h,q⟩=>FL h fun x y H' s' d1 d2=>by
  obtain ⟨l,us,rfl,hl,d3⟩:=d1.of_lst
  obtain ⟨v,e1,e2⟩:=d3.atI he
  exact ⟨l,us,i,v,rfl,d2.of_int,hl,e1,q v H' s' e2⟩
theorem AE {ds:List PyData} {i:Int} (ha:EV X G a (.tuple ds)) (hb:EV X G b (.int i)) (he:atI ds i=some d) (hs:EE b:=by intro _ _;rfl):EV X G (.Subscript a b pos) d:=
 (Mh Pf ha hb hs).imp fun σ H Q ⟨h,q⟩=>FL h fun x y H' s' d1 d2=>by
  obtain ⟨l,us,rfl,hl,d3⟩:=d1.of_tup
  obtain ⟨v,e1,e2⟩:=d3.atI he
  exact ⟨l,us,i,v,rfl,d2.of_int,hl,e1,q v H' s' e2⟩
theorem KN {i:Int} (ha:EV X G a (.int i)):EV X G (.UnaryOp .USub a pos) (.int (-i)):=
 (Qf OS ha).imp fun σ H Q ⟨h,q⟩=>⟨h,fun v H' s' dv=>⟨i,dv.of_int,q _ H' s' (.int _)⟩⟩
def tDO (K:PySem.W.Frag) (G:Gam) (o:Option Int):TO:=fun σ H Q=>SD K H σ G∧∀H',Same H H'→Q o H'
abbrev OV (X:Cx) (G:Gam) (e:Option Expr) (o:Option Int):Prop:=PO X e (tDO X.K G o)
theorem EA:OV X G none none:=fun pins s σ H Q I ⟨h,q⟩=>Mp pins s σ H Q I (q H (Same.refl H))
theorem EC {i:Int} (h:EV X G e (.int i)):OV X G (some e) (some i):=fun pins s σ H Q I ⟨h1,q⟩=>Nl h pins s σ H Q I ⟨h1,fun v H' s' dv=>⟨i,dv.of_int,q H' s'⟩⟩
def cutD (xs:List PyData) (lo hi:Option Int):List PyData:=(xs.drop (HT.sIx xs.length 0 lo)).take (HT.sIx xs.length xs.length hi - HT.sIx xs.length 0 lo)
theorem DVs.cut {K:PySem.W.Frag} {H:Hp} {vs:List V} {ds:List PyData} (h:DVs K H vs ds) (lo hi:Option Int):DVs K H (cutV vs lo hi) (cutD ds lo hi):=by
 unfold cutV cutD
 rw [h.length]
 exact (h.drop _).take _
theorem P9 {lo hi:Option Expr} {ol oh:Option Int} {p2:Pos} {ds:List PyData} (ha:EV X G a (.list ds)) (hl:OV X G lo ol) (hh:OV X G hi oh):EV X G (.Subscript a (.Slice lo hi none p2) pos) (.list (cutD ds ol oh)):=
 (HI Nj ha hl hh).imp fun σ H Q ⟨h,q⟩=>⟨h,fun v H1 s1 d1=>⟨h.mono s1,fun H2 s2=>⟨(h.mono s1).mono s2,fun H3 s3=>by
  obtain ⟨l,us,rfl,hl,d3⟩:=((d1.mono s2).mono s3).of_lst
  exact ⟨l,us,rfl,hl,fun p hp=>q _ _ (((s1.trans s2).trans s3).trans (Same.new hp)) (.lst (SqL.of Am) ((d3.cut ol oh).mono (Same.new hp)))⟩⟩⟩⟩
theorem Ig {lo hi:Option Expr} {ol oh:Option Int} {p2:Pos} {ds:List PyData} (ha:EV X G a (.tuple ds)) (hl:OV X G lo ol) (hh:OV X G hi oh) (hw:¬(HT.sIx ds.length 0 ol=0∧HT.sIx ds.length ds.length oh=ds.length)):
  EV X G (.Subscript a (.Slice lo hi none p2) pos) (.tuple (cutD ds ol oh)):=
 (HI Ol ha hl hh).imp fun σ H Q ⟨h,q⟩=>⟨h,fun v H1 s1 d1=>⟨h.mono s1,fun H2 s2=>⟨(h.mono s1).mono s2,fun H3 s3=>by
  obtain ⟨l,us,rfl,hl,d3⟩:=((d1.mono s2).mono s3).of_tup
  exact ⟨l,us,rfl,hl,by rw [d3.length];exact hw,fun p hp=>q _ _ (((s1.trans s2).trans s3).trans (Same.new hp)) (.tup (SqT.of Am) ((d3.cut ol oh).mono (Same.new hp)))⟩⟩⟩⟩
end
section
variable {κ:Type} [DecidableEq κ]
def valV (kvs:List (κ×V)) (k:κ):Option V:=(kvs.find? fun kv=>decide (kv.1=k)).map (·.2)
def putK (kvs:List (κ×V)) (k:κ) (v:V):List (κ×V):=
 if (kvs.any fun kv=>decide (kv.1=k))=true then kvs.map (fun kv=>if kv.1=k then (kv.1,v) else kv) else kvs++[(k,v)]
def QL (kvs:List (κ×V)) (k:κ):List (κ×V):=kvs.filter fun kv=>decide (kv.1≠k)
end
theorem Qd {P:Program} {w:World} {k:Key} {u:Value} (r:RelV (kV k) u):(Bk P w).is k u=true:=by
 cases k with
 | inl i=>obtain ⟨t,e⟩:=(show ∃t,u=Value.int i t from r);subst e;exact Hy P w i t
 | inr x=>obtain ⟨t,e⟩:=(show ∃t,u=Value.str x t from r);subst e;exact HK P w x t
theorem FX {P:Program} {w:World}:∀{ks:List Key} {us:List Value},Vals (ks.map kV) us→ItemsAre (Bk P w) ks us
 | [],_,r=>by rw [List.map_nil] at r;cases r;exact .nil
 | k::ks,_,r=>by
   rw [List.map_cons] at r
   cases r with
   | cons h t=>exact .cons (Qd h) (FX t)
abbrev KT (H:Hp):List (List Key×V)→List (List Key×Addr×Value)→Prop:=Paired fun p q=>p.1=q.1∧H q.2.1=some (.tup (p.1.map kV))∧RelV p.2 q.2.2
section
variable {P:Program} {w:World} {H:Hp} {h:Heap} {a:Addr}
theorem Nu {u:HO} (ok:HOk P w H h) (e:Rd H a u):ObjOk P w H h a u:=e.ok ok
theorem QC {kvs:List (Key×V)} (ok:HOk P w H h) (e:Rd H a (.dK kvs)):kvs.length≤sizeLine∧(a==sysModules)=false∧∃vs,KV kvs vs∧h.DictOf (Bk P w) a vs:=
 show ObjOk P w H h a (.dK kvs) from Nu ok e
theorem Oh {ks:List Key} (ok:HOk P w H h) (e:H a=some (.tup (ks.map kV))):(tupleKind (Bk P w)).is h ks a:=by
 obtain ⟨_,⟨its,r,o,h1,h2,n,h3⟩,_⟩:=(show ObjOk P w H h a (.tup (ks.map kV)) from ok a _ e)
 exact ⟨o,its.toArray,n,h1,h2,h3,by simpa using FX r⟩
theorem Qz {kvs:List (List Key×V)} (ok:HOk P w H h) (e:Rd H a (.dT kvs)):kvs.length≤sizeLine∧(a==sysModules)=false∧
  ∃xs,KT H kvs xs∧h.DictOfH (tupleKind (Bk P w)) a xs:=by
 obtain ⟨z,y,xs,r,o,es,ep,h1,h2,h3,h4,h5⟩:=(show ObjOk P w H h a (.dT kvs) from Nu ok e)
 refine ⟨z,y,xs,r,o,es,ep,h1,h2,h3,h4,fun x hx=>?_,h5⟩
 have all:∀{l:List (List Key×V)} {m:List (List Key×Addr×Value)},KT H l m→∀x∈m,(tupleKind (Bk P w)).is h x.1 x.2.1:=by
  intro l m q
  induction q with
  | nil=>intro x hx;exact nomatch hx
  | @cons p q ps qs hq t ih=>
    intro x hx
    rcases List.mem_cons.mp hx with e | hx
    ·subst e
     exact Oh ok (by rw [←hq.1];exact hq.2.1)
    ·exact ih x hx
 exact all r x hx
end
def DGet (H:Hp) (a:Addr) (y:V) (r:Option V):Prop:=
 (∃kvs k,Rd H a (.dK kvs)∧y=kV k∧r=valV kvs k)∨∃kvs k b,Rd H a (.dT kvs)∧y=.ref b∧H b=some (.tup (k.map kV))∧r=valV kvs k
def DPut (H:Hp) (a:Addr) (y v:V) (H':Hp):Prop:=
 (∃kvs k,H a=some (.dK kvs)∧y=kV k∧kvs.length < sizeLine∧H'=upd H a (.dK (putK kvs k v)))∨
 ∃kvs k b,H a=some (.dT kvs)∧y=.ref b∧H b=some (.tup (k.map kV))∧kvs.length < sizeLine∧H'=upd H a (.dT (putK kvs k v))
section
variable {X:Cx} {pins:List (Addr×Obj)} {σ:St} {H:Hp} {s:Shared} {a:Addr} {y v:V} {u r:Value} {o:Option V} {A:Around} {E:Value→Shared→Prop}
end
section
variable {X:Cx} {pins:List (Addr×Obj)} {σ:St} {H:Hp} {s:Shared} {a:Addr} {kvs:List (Key×V)} {k:Key} {u:Value} {A:Around} {E:Value→Shared→Prop}
end
section
variable {X:Cx} {o i e value:Expr} {pos pos' tpos:Pos} {td ty tv:TE}
end
section
variable {X:Cx} {pos:Pos}
end
structure M1 (X:Cx) (o:Expr) (m:Str) (apos:Pos) (e:Expr) (cpos:Pos):Prop where
 base:attributeBase o m X.env (eval o X.env)=eval o X.env
 few:((backTo cpos (starEach [e] X.env)).all (fun x=>!x.1) && (backToKw cpos (keywordEach [] X.env)).all (fun x=>x.1.isSome)
  && decide (([e]:List Expr).length + ([]:List Keyword).length + (if ([]:List Keyword).isEmpty then 0 else 1) < 30))=true
 line:(apos.endLine==cpos.line)=true
 trees:backTo cpos (starEach [e] X.env)=[(false,eval e X.env)]
structure M2 (X:Cx) (o:Expr) (m:Str) (apos:Pos) (e f:Expr) (cpos:Pos):Prop where
 base:attributeBase o m X.env (eval o X.env)=eval o X.env
 few:((backTo cpos (starEach [e,f] X.env)).all (fun x=>!x.1) && (backToKw cpos (keywordEach [] X.env)).all (fun x=>x.1.isSome)
  && decide (([e,f]:List Expr).length + ([]:List Keyword).length + (if ([]:List Keyword).isEmpty then 0 else 1) < 30))=true
 line:(apos.endLine==cpos.line)=true
 trees:backTo cpos (starEach [e,f] X.env)=[(false,eval e X.env),(false,eval f X.env)]
def IsD (H:Hp) (a:Addr):Prop:=(∃kvs,Rd H a (.dK kvs))∨∃kvs,Rd H a (.dT kvs)
theorem O9 {X:Cx} {pins:List (Addr×Obj)} {σ:St} {H:Hp} {s:Shared} {a:Addr} (I:Inv X pins σ H s) (d:IsD H a):
  s.TypeIs (.ref a) "dict"∧(∀b,Value.ref a=.ref b→∃ob,s.heap.get? b=some ob∧ob.dict=none)∧(a==sysModules)=false:=by
 rcases d with ⟨kvs,e⟩ | ⟨kvs,e⟩
 ·obtain ⟨_,hd,vs,_,dd⟩:=QC I.hok e
  refine ⟨dd.typeIs,fun b q=>?_,hd⟩
  cases q
  obtain ⟨ob,_,_,h1,h2,_⟩:=dd
  exact ⟨ob,h1,h2.2.1⟩
 ·obtain ⟨_,hd,xs,_,dd⟩:=Qz I.hok e
  refine ⟨dd.typeIs,fun b q=>?_,hd⟩
  cases q
  obtain ⟨ob,_,_,h1,h2,_⟩:=dd
  exact ⟨ob,h1,h2.2.1⟩
section
variable {X:Cx} {pins:List (Addr×Obj)} {σ:St} {H:Hp} {s:Shared} {a:Addr} {y d:V} {u r:Value} {o:Option V} {A:Around} {E:Value→Shared→Prop}
end
section
variable {X:Cx} {o e f:Expr} {apos cpos:Pos} {td ty tx:TE}
end
section
variable {X:Cx} {pins:List (Addr×Obj)} {σ:St} {H:Hp} {s:Shared} {a:Addr} {kvs:List (Key×V)} {A:Around} {E:Value→Shared→Prop}
end
section
variable {X:Cx} {pins:List (Addr×Obj)} {σ:St} {H:Hp} {s:Shared} {a:Addr} {y:V} {u:Value} {A:Around} {E:Value→Shared→Prop}
end
def rDA (K:PySem.W.Frag) (ds:List PyData) (d:PyData):List V→Hp→VK→Prop:=fun xs H Q=>DVs K H xs ds∧∀v H',Same H H'→DV K H' v d→Q v H'
abbrev CD (X:Cx) (f:Value) (ds:List PyData) (d:PyData):Prop:=CallR X f (rDA X.K ds d)
section
variable {X:Cx} {G:Gam} {a b c e:Expr} {es rest:List Expr} {pos p p2:Pos} {d da db dc:PyData} {ds:List PyData} {x:Str} {id T:String}
theorem LX (hc:CD X (.builtin id) ds d) (hg:Gl X x) (hm:X.mg x=none) (hv:bootBuiltins x=some (.builtin id)) (ha:AV X G (e::es) ds) (hn:x≠"__name__":=by decide) (hdb:(x==("__debug__":Str))=false:=by decide)
  (he:starEach (e::es) X.env=(false,eval e X.env)::starEach es X.env:=by rfl) (hpl:(backTo pos (starEach es X.env)).any (·.1)=false:=by rfl):EV X G (.Call (.Name x p) (e::es) [] pos) d:=
 (HH hc hg hm hv ha hn hdb he hpl).imp fun σ H Q ⟨h,q⟩=>⟨h,fun vs H1 s1 d1=>⟨d1,fun v H2 s2 d2=>q v H2 (s1.trans s2) d2⟩⟩
theorem JZ (hc:CD X (.type T) ds d) (hg:Gl X x) (hm:X.mg x=none) (hv:bootBuiltins x=some (.type T)) (ha:AV X G (e::es) ds) (hn:x≠"__name__":=by decide) (hdb:(x==("__debug__":Str))=false:=by decide)
  (he:starEach (e::es) X.env=(false,eval e X.env)::starEach es X.env:=by rfl) (hpl:(backTo pos (starEach es X.env)).any (·.1)=false:=by rfl):EV X G (.Call (.Name x p) (e::es) [] pos) d:=
 (FY hc hg hm hv ha hn hdb he hpl).imp fun σ H Q ⟨h,q⟩=>⟨h,fun vs H1 s1 d1=>⟨d1,fun v H2 s2 d2=>q v H2 (s1.trans s2) d2⟩⟩
theorem DVs.one {K:PySem.W.Frag} {H:Hp} {vs:List V} (h:DVs K H vs [d]):∃v,vs=[v]∧DV K H v d:=by
 cases h with
 | cons h t=>cases t;exact ⟨_,rfl,h⟩
theorem DVs.two {K:PySem.W.Frag} {H:Hp} {vs:List V} (h:DVs K H vs [da,db]):∃v w,vs=[v,w]∧DV K H v da∧DV K H w db:=by
 cases h with
 | cons h t=>
   obtain ⟨w,rfl,h2⟩:=t.one
   exact ⟨_,w,rfl,h,h2⟩
theorem GI:CD X (.builtin "len") [.list ds] (.int ds.length):=call_len_seq.imp fun xs H Q ⟨h,q⟩=>by
 obtain ⟨v,rfl,dv⟩:=h.one
 obtain ⟨l,us,rfl,hl,d1⟩:=dv.of_lst
 exact ⟨l,us,rfl,.inl hl,q _ H (Same.refl H) (by rw [d1.length];exact .int _)⟩
theorem MY:CD X (.builtin "len") [.tuple ds] (.int ds.length):=call_len_seq.imp fun xs H Q ⟨h,q⟩=>by
 obtain ⟨v,rfl,dv⟩:=h.one
 obtain ⟨l,us,rfl,hl,d1⟩:=dv.of_tup
 exact ⟨l,us,rfl,.inr hl,q _ H (Same.refl H) (by rw [d1.length];exact .int _)⟩
theorem IY {z:Str} (hz:z.length≤sizeLine):CD X (.builtin "len") [.str z] (.int z.length):=call_len_str.imp fun xs H Q ⟨h,q⟩=>by
 obtain ⟨v,rfl,dv⟩:=h.one
 exact ⟨z,by rw [dv.of_str],hz,q _ H (Same.refl H) (.int _)⟩
theorem FT:CD X (.type "tuple") [.list ds] (.tuple ds):=call_tuple_of.imp fun xs H Q ⟨h,q⟩=>by
 obtain ⟨v,rfl,dv⟩:=h.one
 obtain ⟨l,us,rfl,hl,d1⟩:=dv.of_lst
 exact ⟨l,us,rfl,.inl ⟨hl,fun p hp=>q _ _ (Same.new hp) (.tup (SqT.of Am) (d1.mono (Same.new hp)))⟩⟩
theorem Mi:CD X (.type "list") [.list ds] (.list ds):=call_list_of.imp fun xs H Q ⟨h,q⟩=>by
 obtain ⟨v,rfl,dv⟩:=h.one
 obtain ⟨l,us,rfl,hl,d1⟩:=dv.of_lst
 exact ⟨l,us,rfl,.inl hl,fun p hp=>q _ _ (Same.new hp) (.lst (SqL.of Am) (d1.mono (Same.new hp)))⟩
theorem LG:CD X (.type "list") [.tuple ds] (.list ds):=call_list_of.imp fun xs H Q ⟨h,q⟩=>by
 obtain ⟨v,rfl,dv⟩:=h.one
 obtain ⟨l,us,rfl,hl,d1⟩:=dv.of_tup
 exact ⟨l,us,rfl,.inr hl,fun p hp=>q _ _ (Same.new hp) (.lst (SqL.of Am) (d1.mono (Same.new hp)))⟩
theorem MN {k:Bool}:CD X (.type "int") [.bool k] (.int (if k then 1 else 0)):=call_int1.imp fun xs H Q ⟨h,q⟩=>by
 obtain ⟨v,rfl,dv⟩:=h.one
 exact .inr ⟨k,by rw [dv.of_bl],q _ H (Same.refl H) (.int _)⟩
theorem P5 {i j:Int} (hc:X.calm=true):CD X (.builtin "max") [.int i,.int j] (.int (if j > i then j else i)):=(Kf hc).imp fun xs H Q ⟨h,q⟩=>by
 obtain ⟨v,w,rfl,dv,dw⟩:=h.two
 exact ⟨i,j,by rw [dv.of_int,dw.of_int],q _ H (Same.refl H) (.int _)⟩
theorem G8 (bs:List Bool):(List.range bs.length).all (fun i=>bs.getD i false)=bs.all (fun z=>z):=by
 rw [Bool.eq_iff_iff,List.all_eq_true,List.all_eq_true]
 constructor
 ·intro h x hx
  obtain ⟨i,hi,e⟩:=List.mem_iff_getElem.mp hx
  have:=h i (List.mem_range.mpr hi)
  simp only [List.getD_eq_getElem?_getD,List.getElem?_eq_getElem hi,Option.getD_some] at this
  rw [←e]
  exact this
 ·intro h i hi
  have hi:=List.mem_range.mp hi
  simp only [List.getD_eq_getElem?_getD,List.getElem?_eq_getElem hi,Option.getD_some]
  exact h _ (List.getElem_mem hi)
theorem IF (hc:X.calm=true) {bs:List Bool}:CD X (.builtin "all") [.list (bs.map PyData.bool)] (.bool (bs.all fun z=>z)):=by
 intro pins s σ H xs us Q I rs ⟨h,q⟩
 obtain ⟨v,rfl,dv⟩:=h.one
 obtain ⟨l,vs,rfl,hl,d1⟩:=dv.of_lst
 obtain ⟨u,rfl,ru⟩:=vals1 rs
 cases ru
 have e1:=d1.of_bools
 subst e1
 obtain ⟨its,r,pl,hz⟩:=I.list hl
 have hlt:l < s.heap.objs.size:=by
  obtain ⟨o,ho,_⟩:=pl.isList
  exact Heap.lt_size ho
 have hh:X.A.in1.handled=none:=I.ok.hd hc
 have hlen:its.toArray.size=bs.length:=by rw [List.size_toArray,←r.length,List.length_map]
 refine call_all_walk (wpAny_pyIter_list pl.isList ⟨s.heap.objs.size,_,_,its.toArray.size,_,_,fun i=>bs.getD i false,rfl,Walks.list hh s.heap.objs.size l (Nat.ne_of_lt hlt) its.toArray,
  ⟨⟨_,Heap.get?_push_size _ rfl,rfl,rfl⟩,let ⟨o,e,r⟩:=pl.isList;⟨o,Heap.get?_push_of_some _ e,r⟩⟩,fun i v s2 Q2 E2 hP hQ=>?_,fun h' tk hk=>?_⟩)
 ·have hP:its.toArray[i]?=some v:=hP
  have hP:its[i]?=some v:=by simpa using hP
  have hi:i < bs.length:=by
   have:=(List.getElem?_eq_some_iff.mp hP).1
   rw [←r.length,List.length_map] at this
   exact this
  have hb:(bs.map V.bl)[i]?=some (V.bl bs[i]):=by simp [hi]
  obtain ⟨u,e2,r2⟩:=r.get hb
  rw [hP] at e2
  cases e2
  cases r2
  refine wpAny_truthy_bool ?_
  have:bs.getD i false=bs[i]:=by simp [List.getD_eq_getElem?_getD,hi]
  exact this ▸ hQ
 ·rw [hlen,G8]
  have I1:Inv X pins σ H {s with heap:=h',toks:=tk}:=I.kept fun b o e=>hk b o (by
   intro z
   have z:b=s.heap.objs.size:=by simpa using z
   exact absurd (Heap.lt_size e) (by rw [z];exact Nat.lt_irrefl _)) (Heap.get?_push_of_some _ e)
  exact ⟨.bl _,H,I1,rfl,q _ H (Same.refl H) (.bl _)⟩
theorem KM (hc:X.calm=true) {ns:List Int}:CD X (.builtin "sum") [.list (ns.map PyData.int)] (.int ns.sum):=by
 intro pins s σ H xs us Q I rs ⟨h,q⟩
 obtain ⟨v,rfl,dv⟩:=h.one
 obtain ⟨l,vs,rfl,hl,d1⟩:=dv.of_lst
 obtain ⟨u,rfl,ru⟩:=vals1 rs
 cases ru
 have e1:=d1.of_ints
 subst e1
 obtain ⟨its,r,pl,hz⟩:=I.list hl
 have hi:IntsAre its ns:=intsAre_of r
 obtain ⟨ys,ey⟩:=(hi.allInts:AllInts its.toArray).items
 have hh:X.A.handled=none:=I.ok.hd hc
 have hl':s.heap.IsList l (intItems ys):=ey ▸ pl.isList
 refine sum_intListG hh hl' fun h' tk t' hk=>?_
 have I1:Inv X pins σ H {s with heap:=h',toks:=tk}:=I.kept hk
 have en:ns=numsOf its:=hi.numsOf.symm
 have es:preSum (numAt ys) ys.size=ns.sum:=by
  rw [preSum_eq,List.take_of_length_le (by simp),en,←nums_intItems ys]
  congr 2
  have:=congrArg Array.toList ey
  simpa using this.symm
 rw [es]
 exact ⟨.int _,H,I1,⟨_,rfl⟩,q _ H (Same.refl H) (.int _)⟩
def tyD:PyData→Value
 | .none=>.type "NoneType"
 | .bool _=>.type "bool"
 | .int _=>.type "int"
 | .str _=>.type "str"
 | .list _=>.type "list"
 | .tuple _=>.type "tuple"
 | .dict es=>match excC es with
   | some C=>.ref C
   | none=>.type "dict"
def GG (K:PySem.W.Frag) (C:Addr):Prop:=∀(a:Addr) (φ:Heap→Prop),(∀h,φ h→∃o,h.get? a=some o∧o.cls=.ref C)→PySem.W.KitX K (.ref a) (.ref C) φ
theorem Li {pins:List (Addr×Obj)} {σ:St} {H:Hp} {s:Shared} {A:Around} {E:Value→Shared→Prop} {Q:Value→Shared→Prop} {c:Value} {k:Bool} {v:V} {u:Value} (I:Inv X pins σ H s) (h:DV X.K H v d) (rv:RelV v u)
  (e:PySem.W.kitOne X.K (tyD d) c=some k) (hq:∀tk,Q (.bool k) {s with toks:=tk}) (hX:∀C,d=excD C→GG X.K C:=by intro _ z;cases z) (hX2:∀C n,d=Nt C n→GG X.K C:=by intro _ _ z;first | cases z | (unfold excD at z;cases z)) (hO:KR d=false:=by first | rfl | assumption):wpAny (model X.prog X.w) A (call (.builtin "isinstance") [u,c]) Q E s:=by
 cases h with
 | non=>exact CS I rv .non e hq
 | bl b=>exact CS I rv (.bl b) e hq
 | int i=>exact CS I rv (.int i) e hq
 | str x=>exact CS I rv (.str x) e hq
 | @tup a xs ds h t=>
   cases rv
   obtain ⟨its,_,⟨o,h1,h2,_⟩,_⟩:=I.tuple h
   exact PySem.W.kia_one PySem.W.kitx_tuple I.kIn ⟨o,h1,h2⟩ e (fun z=>nomatch z) hq
 | @lst a xs ds h t=>
   cases rv
   obtain ⟨its,_,pl,_⟩:=I.list h
   obtain ⟨o,h1,h2,_⟩:=pl.isList
   exact PySem.W.kia_one PySem.W.kitx_list I.kIn ⟨o,h1,h2⟩ e (fun z=>nomatch z) hq
 | @dct a kvs es h t=>
   cases rv
   have e':PySem.W.kitOne X.K (.type "dict") c=some k:=by
    have z:tyD (.dict es)=(match excC es with | some C=>Value.ref C | none=>.type "dict"):=rfl
    rw [z,Hm t] at e
    exact e
   exact PySem.W.kia_one PySem.W.kitx_dict I.kIn (O9 I (.inl ⟨kvs,.inl h⟩)).1 e' (fun z=>nomatch z) hq
 | @exc a C h=>
   cases rv
   have e':PySem.W.kitOne X.K (.ref C) c=some k:=e
   exact PySem.W.kia_one (hX C rfl a _ fun h p=>let ⟨o,_,h1,h2,_⟩:=p;⟨o,h1,h2⟩) I.kIn (I.hok a _ h).1 e' (fun z=>nomatch z) hq
 | @exr a C dx n h h'=>
   cases rv
   have e':PySem.W.kitOne X.K (.ref C) c=some k:=e
   exact PySem.W.kia_one (hX2 C n rfl a _ fun h p=>let ⟨o,_,h1,h2,_⟩:=p;⟨o,h1,h2⟩) I.kIn (I.hok a _ h).1 e' (fun z=>nomatch z) hq
 | obj h n t=>cases hO
 | dtt h=>unfold ppE KR at hO;cases hO
theorem Lq {k:Bool} {n:String} {x1:Str} (ha:EV X G a da) (hg:Gl X "isinstance") (hm:X.mg "isinstance"=none) (hg1:Gl X x1) (hm1:X.mg x1=none) (hv1:bootBuiltins x1=some (.type n)) (e:PySem.W.kitOne X.K (tyD da) (.type n)=some k)
  (hX:∀C,da=excD C→GG X.K C:=by intro _ z;cases z) (hX2:∀C n,da=Nt C n→GG X.K C:=by intro _ _ z;first | cases z | (unfold excD at z;cases z)) (hO:KR da=false:=by first | rfl | assumption) (hn:x1≠"__name__":=by decide) (hd1:(x1==("__debug__":Str))=false:=by decide) (hv:bootBuiltins "isinstance"=some (.builtin "isinstance"):=by decide +kernel)
  (he:starEach [a,.Name x1 p2] X.env=(false,eval a X.env)::starEach [.Name x1 p2] X.env:=by rfl) (he2:starEach [.Name x1 p2] X.env=(false,eval (.Name x1 p2) X.env)::starEach [] X.env:=by rfl)
  (hpl:(backTo pos (starEach [.Name x1 p2] X.env)).any (·.1)=false:=by rfl):
  EV X G (.Call (.Name "isinstance" p) [a,.Name x1 p2] [] pos) (.bool k):=by
 have cr:CallR X (.builtin "isinstance") (fun xs H Q=>∃v,xs=[v,.ty n]∧DV X.K H v da∧Q (.bl k) H):=by
  intro pins s σ H xs us Q I rs ⟨v,ex,dv,q⟩
  subst ex
  obtain ⟨u,w,rfl,ru,rw'⟩:=vals2 rs
  cases rw'
  exact Li I dv ru e (fun tk=>⟨.bl k,H,I.tok tk,rfl,q⟩) hX hX2 hO
 refine (HH cr hg hm hv (Cn ha (Cn (Mu (v:=.ty n) hg1 hm1 hv1 rfl hn hd1) pa_nil he2) he) (by decide) (by decide) he hpl).imp fun σ H Q ⟨h,q⟩=>⟨h,fun v H1 s1 d1=>⟨v,rfl,d1,q _ H1 s1 (.bl k)⟩⟩
def spD (K:PySem.W.Frag) (F:List PyData→PyData→Prop):Sp:=fun vs H Q _=>∃ds d,DVs K H vs ds∧F ds d∧∀v H',Same H H'→DV K H' v d→Q v H'
def DFn (P:Program) (w:World) (K:PySem.W.Frag) (mg:Str→Option Value) (base:Heap) (k:Nat) (x:Str) (F:List PyData→PyData→Prop):Prop:=
 ∃f fd ps,FnOk P w K mg base CX0 k f fd ps (spD K F)∧mg x=some (.ref f)∧PySem.W.keepIn K (.ref f)=true∧Binds K fd ps []
theorem Af {k:Nat} {F:List PyData→PyData→Prop} (D:DFn X.prog X.w X.K X.mg X.base k x F) (hr:Room k X.A) (hg:Gl X x) (ha:AV X G (e::es) ds) (hF:F ds d) (hdb:(x==("__debug__":Str))=false:=by decide)
  (he:starEach (e::es) X.env=(false,eval e X.env)::starEach es X.env:=by rfl) (hpl:(backTo pos (starEach es X.env)).any (·.1)=false:=by rfl):EV X G (.Call (.Name x p) (e::es) [] pos) d:=by
 obtain ⟨f,fd,ps,ok,hm,hk,hb⟩:=D
 refine (Gs ok hr hg hm hk hb .nil Dw ha hdb he hpl).imp fun σ H Q ⟨h,q⟩=>⟨h,fun vs H1 s1 d1=>?_⟩
 show spD X.K F (vs++[]) H1 Q E0
 rw [List.append_nil]
 exact ⟨ds,d,d1,hF,fun v H2 s2 d2=>q v H2 (s1.trans s2) d2⟩
theorem Lu {i:Int} {t:Tok} (hg:Gl X x) (hm:X.mg x=some (.int i t)) (hd:(x==("__debug__":Str))=false:=by decide):EV X G (.Name x pos) (.int i):=
 (E4 (v:=.int i) hg hm ⟨t,rfl⟩ hd).imp fun σ H Q ⟨h,q⟩=>q _ H (Same.refl H) (.int i)
theorem Ar:SVs X G [] (.next G):=pss_nil.imp fun D σ H ⟨h,q⟩=>q σ H (Same.refl H) h
theorem Ag {st:Stmt} {sts:List Stmt} {G1:Gam} {o:Out} (h1:SV X G st (.next G1)) (h2:SVs X G1 sts o):SVs X G (st::sts) o:=
 (A4 h1 h2).imp fun D σ H ⟨h,q⟩=>⟨h,fun σ' H' s' h'=>⟨h',by
  cases o with
  | next G2=>exact fun σ2 H2 s2 h2=>q σ2 H2 (s'.trans s2) h2
  | ret d=>exact fun v H2 s2 h2=>q v H2 (s'.trans s2) h2⟩⟩
theorem Ah {st:Stmt} {sts:List Stmt} (h1:SV X G st (.ret d)):SVs X G (st::sts) (.ret d):=by
 intro pins s σ H D I ⟨h,q⟩
 have z:PSs X (st::sts) (fun D σ H=>tDS X.K G (.ret d) D σ H):=by
  refine (A4 (t:=fun D σ H=>tDS X.K G (.ret d) D σ H) (u:=Lv) h1 AD).imp fun D σ H ⟨h,q⟩=>⟨h,q⟩
 exact z pins s σ H D I ⟨h,q⟩
theorem Ap (h:EV X G e d):SV X G (.Return (some e) pos) (.ret d):=(Ed h).imp fun D σ H ⟨h,q⟩=>⟨h,q⟩
theorem AQ {i:Nat} (hN:X.N.Nodup) (hi:X.N[i]?=some x) (hx:Loc X.env.scope x) (h:EV X G e d) (hs:swapsWith e (some (.Name x p)) pos.line X.env=pure false:=by rfl)
  (hf:X.fn x=true∨X.env.scope.names.lookup x=some .local:=by first | exact .inl rfl | exact .inr rfl | assumption):SV X G (.Assign [.Name x p] e pos) (.next (G.set i (some d))):=
 (Eh hN hi hx h hs hf).imp fun D σ H ⟨h,q⟩=>⟨h,fun v H1 s1 d1=>q _ H1 s1 ((h.mono s1).set d1)⟩
theorem A0 {k:Bool} {A B:List Stmt} {o:Out} (hc:TV X G c k) (h1:k=true→SVs X G A o) (h2:k=false→SVs X G B o):SV X G (.If c A B pos) o:=by
 have hA:PSs X A (fun D σ H=>k=true∧tDS X.K G o D σ H):=fun pins s σ H D I ⟨e,q⟩=>h1 e pins s σ H D I q
 have hB:PSs X B (fun D σ H=>k=false∧tDS X.K G o D σ H):=fun pins s σ H D I ⟨e,q⟩=>h2 e pins s σ H D I q
 refine (DE hc hA hB).imp fun D σ H ⟨h,q⟩=>⟨h,fun H1 s1=>?_⟩
 have fin:tDS X.K G o D σ H1:=⟨h.mono s1,by
  cases o with
  | next G2=>exact fun σ2 H2 s2 h2=>q σ2 H2 (s1.trans s2) h2
  | ret d=>exact fun v H2 s2 h2=>q v H2 (s1.trans s2) h2⟩
 cases k with
 | true=>exact iteT ⟨rfl,fin⟩
 | false=>exact iteF ⟨rfl,fin⟩
theorem IH {sts:List Stmt} {G1 G2:Gam} (h:SVs X G sts (.next G1)) (hl:G2.length=G1.length) (hw:∀(i:Nat) d,G2[i]?=some (some d)→G1[i]?=some (some d)):SVs X G sts (.next G2):=
 h.imp fun D σ H ⟨h,q⟩=>⟨h,fun σ' H' s' h'=>q σ' H' s' (h'.forget hl hw)⟩
structure ItD (K:PySem.W.Frag) (J:It) (ds:List PyData) (H0:Hp):Prop where
 go:∀i H,Same H0 H→i < ds.length→J.go i H
 yld:∀i H v H',Same H0 H→i < ds.length→J.yld i H v H'→Same H H'∧∃d,ds[i]?=some d∧DV K H' v d
 stop:∀i H,Same H0 H→ds.length≤i→J.stop i H
def tDI (K:PySem.W.Frag) (G:Gam) (ds:List PyData):TI:=fun σ H R=>SD K H σ G∧∀J H',Same H H'→ItD K J ds H'→R J H'
abbrev IV (X:Cx) (G:Gam) (tg iter:Expr) (ds:List PyData):Prop:=PI X tg iter (tDI X.K G ds)
theorem PI.imp {tg:Expr} {t t':TI} (h:PI X tg e t) (m:∀σ H R,t' σ H R→t σ H R):PI X tg e t':=fun pins s σ H R I q=>h pins s σ H R I (m σ H R q)
theorem J3 {tg:Expr} (h:EV X G e (.list ds)):IV X G tg e ds:=(IW h).imp fun σ H R ⟨h,q⟩=>⟨h,fun v H1 s1 d1=>by
 obtain ⟨l,us,rfl,hl,d2⟩:=d1.of_lst
 refine ⟨l,rfl,⟨us,hl⟩,q _ H1 s1 ⟨fun i H2 s2 hi=>?_,fun i H2 v H3 s2 _ ⟨e,y⟩=>?_,fun i H2 s2 hi=>⟨us,s2.seq hl,by rw [d2.length];exact hi⟩⟩⟩
 ·obtain ⟨v,e,_⟩:=d2.get (i:=i) (d:=ds[i]) (by simp [hi])
  exact ⟨us,v,s2.seq hl,e⟩
 ·subst e
  obtain ⟨d,e1,e2⟩:=d2.get' (y us (s2.seq hl))
  exact ⟨Same.refl _,d,e1,e2.mono s2⟩⟩
abbrev DU (lo:Int) (n:Nat):List PyData:=(List.range n).map fun (i:Nat)=>PyData.int (lo + (i:Int))
theorem Dk {lo:Int} {n:Nat}:(DU lo n).length=n:=by simp [DU]
theorem Ii {lo:Int} {n i:Nat} (h:i < n):(DU lo n)[i]?=some (.int (lo + (i:Int))):=by simp [DU,h]
theorem J_ {K:PySem.W.Frag} {lo:Int} {n:Nat} {H:Hp}:ItD K (Itr lo n) (DU lo n) H where
 go:=fun i H s h=>by rw [Dk] at h;exact h
 yld:=fun i H v H' s h ⟨e,y⟩=>by
  rw [Dk] at h
  subst e y
  exact ⟨Same.refl _,_,Ii h,.int _⟩
 stop:=fun i H s h=>by rw [Dk] at h;exact h
theorem CW {tg:Expr} {n:Int} (ha:EV X G a (.int n)) (h1:-(2 ^ 62)≤n) (h2:n < 2 ^ 62) (hg:Gl X "range") (hm:X.mg "range"=none) (hs:starEach [a] X.env=[(false,eval a X.env)]:=by rfl):
  IV X G tg (.Call (.Name "range" p) [a] [] pos) (DU 0 n.toNat):=
 (DS hg hm (Aa ha Ac hs) hs).imp fun σ H R ⟨h,q⟩=>⟨h,fun vs H1 s1 d1=>by
  obtain ⟨v,rfl,dv⟩:=d1.one
  exact ⟨n,by rw [dv.of_int],h1,h2,q _ H1 s1 J_⟩⟩
end
def outG (ix:List Nat) (G:Gam):Gam:=ix.map fun i=>(G[i]?).getD none
theorem SD.comp {K:PySem.W.Frag} {H:Hp} {σ:St} {G:Gam} (h:SD K H σ G) (k:Nat) (ix:List Nat):SD K H (List.replicate k none++outS ix σ) (List.replicate k none++outG ix G):=by
 refine ⟨by simp [outS,outG],fun i d e=>?_⟩
 rcases Nat.lt_or_ge i k with hi | hi
 ·rw [List.getElem?_append_left (by simpa using hi),List.getElem?_replicate,if_pos hi] at e
  cases e
 ·rw [List.getElem?_append_right (by simpa using hi),List.length_replicate] at e ⊢
  unfold outG at e
  unfold outS
  rw [List.getElem?_map] at e ⊢
  cases q:ix[i - k]? with
  | none=>rw [q] at e;cases e
  | some j=>
    rw [q] at e
    have e:(G[j]?).getD none=some d:=Option.some.inj e
    have e':G[j]?=some (some d):=by
     cases z:G[j]? with
     | none=>rw [z] at e;cases e
     | some w=>rw [z] at e;have e:w=some d:=e;rw [e]
    obtain ⟨v,a,b⟩:=h.2 j d e'
    exact ⟨v,by rw [Option.map_some,a];rfl,b⟩
section
variable {X:Cx} {G:Gam} {elt target iter:Expr} {ifs:List Expr} {scope:Scope} {pos:Pos} {N:List Str} {ix:List Nat} {ds:List PyData}
theorem PE.ex {ι:Type} {e:Expr} {t:ι→TE} {p:ι→Prop} (h:∀i,p i→PE X e (t i)):PE X e (fun σ H Q=>∃i,p i∧t i σ H Q):=fun pins s σ H Q I ⟨i,hi,q⟩=>h i hi pins s σ H Q I q
theorem PF.ex {ι:Type} {es:List Expr} {t:ι→TT} {p:ι→Prop} (h:∀i,p i→PF X es (t i)):PF X es (fun σ H Q=>∃i,p i∧t i σ H Q):=fun pins s σ H Q I ⟨i,hi,q⟩=>h i hi pins s σ H Q I q
theorem Er:PF X [] (tDT X.K G true):=fun pins s σ H Q I ⟨h,q⟩=>Og pins s σ H Q I (q H (Same.refl H))
structure BindD (K:PySem.W.Frag) (k:Nat) (g:TG) (B:PyData→Gam→Gam) (d:PyData):Prop where
 to:∀(v:V) σ H G (Q:St→Hp→Prop),SD K H σ G→DV K H v d→(∀σ2,SD K H σ2 (B d G)→Q σ2 H)→g v σ H Q
def bind1 (d:PyData) (G:Gam):Gam:=G.set 0 (some d)
def Lb (d:PyData) (G:Gam):Gam:=match d with
 | .tuple [a,b]=>(G.set 0 (some a)).set 1 (some b)
 | _=>G
theorem D_ {K:PySem.W.Frag} (d:PyData):BindD K 1 (BH 0) bind1 d:=⟨fun v σ H G Q h dv q=>q _ (h.set dv)⟩
theorem KC {K:PySem.W.Frag} (a b:PyData):BindD K 2 (gTup K 2 (GZ (BH 0) (GZ (BH 1) gNil))) Lb (.tuple [a,b]):=⟨fun v σ H G Q h dv q=>by
 obtain ⟨l,us,rfl,hl,d1⟩:=dv.of_tup
 obtain ⟨x,y,rfl,dx,dy⟩:=d1.two
 exact ⟨l,[x,y],rfl,hl,rfl,x,[y],rfl,y,[],rfl,rfl,q _ ((h.set dx).set dy)⟩⟩
theorem Jl {α:Type} {as:List α} {D:α→PyData} {k:Nat} {g:TG} {B:PyData→Gam→Gam} {σ:St} {J:It} {H1:Hp} {Q:List V→Hp→Prop} (K:PySem.W.Frag) (Pd:α→Bool) (F:α→PyData) (hz:as.length≤sizeLine) (og:OwnG k g)
  (hb:∀a∈as,BindD K k g B (D a)) (hσ:SD K H1 σ G) (hJ:ItD K J (as.map D) H1) (q:∀ys H',Same H1 H'→DVs K H' ys ((as.filter Pd).map F)→Q ys H'):
  I_ k ix g (fun σ H Q=>∃a,a∈as∧tDT K (B (D a) (List.replicate k none++outG ix G)) (Pd a) σ H Q) (fun σ H Q=>∃a,(a∈as∧Pd a=true)∧tD K (B (D a) (List.replicate k none++outG ix G)) (F a) σ H Q) σ J H1 Q:=by
 refine ⟨fun i m ys H=>i≤as.length∧m=as.length - i∧Same H1 H∧DVs K H ys (((as.take i).filter Pd).map F),⟨_,Nat.zero_le _,rfl,Same.refl _,.nil⟩,?_⟩
 rintro i m ys H ⟨hi,rfl,sm,dy⟩
 have hyl:ys.length≤as.length:=by
  rw [dy.length,List.length_map]
  refine Nat.le_trans (List.length_filter_le _ _) ?_
  rw [List.length_take]
  omega
 refine ⟨Nat.le_trans hyl hz,?_⟩
 by_cases hlt:i < as.length
 ·refine .inr ⟨hJ.go i H sm (by rw [List.length_map];exact hlt),fun v H' y=>?_⟩
  obtain ⟨s2,d,ed,dv⟩:=hJ.yld i H v H' sm (by rw [List.length_map];exact hlt) y
  have ea:as[i]?=some as[i]:=List.getElem?_eq_getElem hlt
  have ed':d=D as[i]:=by
   rw [List.getElem?_map,ea] at ed
   exact (Option.some.inj ed).symm
  subst ed'
  have hd:as[i]∈as:=List.getElem_mem hlt
  have tk:(as.take (i + 1)).filter Pd=(as.take i).filter Pd++(if Pd as[i] then [as[i]] else []):=take_succ_filter Pd as i as[i] ea
  refine (hb _ hd).to v _ H' _ _ (((hσ.mono sm).mono s2).comp k ix) dv fun σ2 h2=>⟨as[i],hd,h2,fun H3 s3=>?_⟩
  cases hp:Pd as[i] with
  | true=>
    refine iteT ⟨as[i],⟨hd,hp⟩,h2.mono s3,fun w H4 s4 dw=>⟨as.length - (i + 1),by omega,hlt,rfl,((sm.trans s2).trans s3).trans s4,?_⟩⟩
    rw [tk,hp,if_pos rfl,List.map_append]
    exact (((dy.mono s2).mono s3).mono s4).append (.cons dw .nil)
  | false=>
    refine iteF ⟨as.length - (i + 1),by omega,hlt,rfl,(sm.trans s2).trans s3,?_⟩
    rw [tk,hp,if_neg Bool.false_ne_true,List.append_nil]
    exact (dy.mono s2).mono s3
 ·have e:i=as.length:=by omega
  subst e
  rw [List.take_length] at dy
  exact .inl ⟨hJ.stop _ H sm (by rw [List.length_map];exact Nat.le_refl _),q ys H sm dy⟩
theorem Dz {α:Type} {as:List α} {D:α→PyData} {k:Nat} {g:TG} {B:PyData→Gam→Gam} (Pd:α→Bool) (F:α→PyData) (hcalm:X.calm=true) (hc:Cd X.env.scope X.N k ix N scope) (og:OwnG k g) (hi:IV X G target iter (as.map D)) (hz:as.length≤sizeLine)
  (hb:∀a∈as,BindD X.K k g B (D a)) (hg:∀cl C s H fp,PG (A8 X scope cl C N s H fp) target g)
  (ht:∀a∈as,∀cl C s H fp,PF (A8 X scope cl C N s H fp) ifs (tDT X.K (B (D a) (List.replicate k none++outG ix G)) (Pd a)))
  (he:∀a∈as,Pd a=true→∀cl C s H fp,EV (A8 X scope cl C N s H fp) (B (D a) (List.replicate k none++outG ix G)) elt (F a))
  (hs:∀x,foldedSetIterable iter X.env x=pure x:=by intro _;rfl):EV X G (.ListComp elt [⟨target,iter,ifs,0⟩] scope pos) (.list ((as.filter Pd).map F)):=by
 refine (MB hcalm hc og hi (fun cl C s H fp=>⟨hg cl C s H fp,PF.ex (t:=fun a=>tDT X.K (B (D a) (List.replicate k none++outG ix G)) (Pd a)) (p:=fun a=>a∈as) fun d hd=>ht d hd cl C s H fp,PE.ex (t:=fun a=>tD X.K (B (D a) (List.replicate k none++outG ix G)) (F a)) (p:=fun a=>a∈as∧Pd a=true) fun d hd=>he d hd.1 hd.2 cl C s H fp⟩) hs).imp fun σ H Q ⟨h,q⟩=>⟨h,fun J H1 s1 hJ=>?_⟩
 refine Jl X.K Pd F hz og hb (h.mono s1) hJ fun ys H2 s2 dy D hD=>?_
 exact q _ _ ((s1.trans s2).trans (Same.new hD)) (.lst (SqL.of Am) (dy.mono (Same.new hD)))
theorem Do {α:Type} {as:List α} {D:α→PyData} {k i:Nat} {x:Str} {pos' spos:Pos} {g:TG} {B:PyData→Gam→Gam} (Pd:α→Bool) (F:α→PyData) (hcalm:X.calm=true) (hN:X.N.Nodup) (hx0:X.N[i]?=some x) (hx:X.env.scope.names.lookup x=some .local)
  (hc:Cd X.env.scope X.N k ix N scope) (og:OwnG k g) (hi:IV X G target iter (as.map D)) (hz:as.length≤sizeLine)
  (hb:∀a∈as,BindD X.K k g B (D a)) (hg:∀cl C s H fp,PG (A8 X scope cl C N s H fp) target g)
  (ht:∀a∈as,∀cl C s H fp,PF (A8 X scope cl C N s H fp) ifs (tDT X.K (B (D a) (List.replicate k none++outG ix G)) (Pd a)))
  (he:∀a∈as,Pd a=true→∀cl C s H fp,EV (A8 X scope cl C N s H fp) (B (D a) (List.replicate k none++outG ix G)) elt (F a))
  (hsw:swapsWith (.ListComp elt [⟨target,iter,ifs,0⟩] scope pos) (some (.Name x pos')) spos.line X.env=pure true:=by rfl)
  (hs:∀x,foldedSetIterable iter X.env x=pure x:=by intro _;rfl):SV X G (.Assign [.Name x pos'] (.ListComp elt [⟨target,iter,ifs,0⟩] scope pos) spos) (.next (G.set i (some (.list ((as.filter Pd).map F))))):=by
 refine (Ip hcalm hN hx0 hx hc og hi (fun cl C s H fp=>⟨hg cl C s H fp,PF.ex (t:=fun a=>tDT X.K (B (D a) (List.replicate k none++outG ix G)) (Pd a)) (p:=fun a=>a∈as) fun d hd=>ht d hd cl C s H fp,PE.ex (t:=fun a=>tD X.K (B (D a) (List.replicate k none++outG ix G)) (F a)) (p:=fun a=>a∈as∧Pd a=true) fun d hd=>he d hd.1 hd.2 cl C s H fp⟩) hsw hs).imp fun Dn σ H ⟨h,q⟩=>⟨h,fun J H1 s1 hJ=>?_⟩
 refine Jl X.K Pd F hz og hb (h.mono s1) hJ fun ys H2 s2 dy D hD=>?_
 have s3:=(s1.trans s2).trans (Same.new (o:=.lst ys) hD)
 exact q _ _ s3 ((h.mono s3).set (.lst (SqL.of Am) (dy.mono (Same.new hD))))
theorem O0 {α:Type} {as:List α} {D:α→PyData} {tg:Expr} {body:List Stmt} {k:Nat} {g:TG} {B:PyData→Gam→Gam} (J:Nat→Gam) (hp:PassesOwn (model X.prog X.w) X.A X.env X.xe) (hcalm:X.calm=true) (hi:IV X (J 0) tg iter (as.map D)) (hg:PG X tg g) (hb:∀a∈as,BindD X.K k g B (D a))
  (hs:∀(i:Nat) a,as[i]?=some a→SVs X (B (D a) (J i)) body (.next (J (i + 1)))) (hfs:∀x,foldedSetIterable iter X.env x=pure x:=by intro _;rfl):SV X (J 0) (.For tg iter body [] pos) (.next (J as.length)):=by
 have hbody:PSs X body (fun Dn σ H=>∃p:Nat×α,as[p.1]?=some p.2∧tDS X.K (B (D p.2) (J p.1)) (.next (J (p.1 + 1))) Dn σ H):=fun pins s σ H Dn I ⟨p,hp,q⟩=>hs p.1 p.2 hp pins s σ H Dn I q
 refine (Gn hp hcalm hi hg hbody hfs).imp fun Dn σ H ⟨h,q⟩=>⟨h,fun It0 H1 s1 hJ=>?_⟩
 refine ⟨fun i m σ H=>i≤as.length∧m=as.length - i∧Same H1 H∧SD X.K H σ (J i),⟨_,Nat.zero_le _,rfl,Same.refl _,h.mono s1⟩,?_⟩
 rintro i m σ H ⟨hi,rfl,sm,hσ⟩
 by_cases hlt:i < as.length
 ·refine .inr ⟨hJ.go i H sm (by rw [List.length_map];exact hlt),fun σ' H'=>Same H1 H'∧SD X.K H' σ' (J (i + 1)),fun σ' H' ⟨a,b⟩=>⟨as.length - (i + 1),by omega,hlt,rfl,a,b⟩,fun v H' y=>?_⟩
  obtain ⟨s2,d,ed,dv⟩:=hJ.yld i H v H' sm (by rw [List.length_map];exact hlt) y
  have ea:as[i]?=some as[i]:=List.getElem?_eq_getElem hlt
  have ed':d=D as[i]:=by
   rw [List.getElem?_map,ea] at ed
   exact (Option.some.inj ed).symm
  subst ed'
  refine (hb _ (List.getElem_mem hlt)).to v _ H' _ _ (hσ.mono s2) dv fun σ2 h2=>⟨(i,as[i]),ea,h2,fun σ3 H3 s3 h3=>⟨(sm.trans s2).trans s3,h3⟩⟩
 ·have e:i=as.length:=by omega
  subst e
  exact .inl ⟨hJ.stop _ H sm (by rw [List.length_map];exact Nat.le_refl _),q σ H (s1.trans sm) hσ⟩
def K4 (i:Nat) (d:PyData) (G:Gam):Gam:=G.set i (some d)
theorem M7 {K:PySem.W.Frag} {k:Nat} (i:Nat) (d:PyData):BindD K k (BH i) (K4 i) d:=⟨fun v σ H G Q h dv q=>q _ (h.set dv)⟩
end
def AO (N:List Str) (ds:List PyData):Gam:=ds.map some++List.replicate (N.length - ds.length) none
theorem SD.start {K:PySem.W.Frag} {H:Hp} {N:List Str} {vs:List V} {ds:List PyData} (h:DVs K H vs ds):SD K H (start N vs) (AO N ds):=by
 refine ⟨by simp [L2.start,AO,h.length],fun i d e=>?_⟩
 unfold AO at e
 unfold L2.start
 rcases Nat.lt_or_ge i ds.length with hi | hi
 ·rw [List.getElem?_append_left (by simpa using hi),List.getElem?_map] at e
  rw [List.getElem?_append_left (by simpa [h.length] using hi),List.getElem?_map]
  cases q:ds[i]? with
  | none=>rw [q] at e;cases e
  | some d'=>
    rw [q] at e
    have e:d'=d:=by
     have:=Option.some.inj e
     exact Option.some.inj this
    subst e
    obtain ⟨v,a,b⟩:=h.get q
    exact ⟨v,by rw [a];rfl,b⟩
 ·rw [List.getElem?_append_right (by simpa using hi),List.getElem?_replicate] at e
  split at e <;> cases e
section
variable {P:Program} {w:World} {K:PySem.W.Frag} {mg:Str→Option Value} {base:Heap}
theorem Fun.data {x qual:Str} {st:Stmt} {f:Addr} {fd:FuncData} {N ps:List Str} {k:Nat} {F:List PyData→PyData→Prop} (F0:Fun K x qual st f fd) (hm:mg x=some (.ref f)) (hb:Binds K fd ps []) (S:FnScope N ps (Ae st)) (len:∀ds d,F ds d→ds.length=ps.length)
  (hbody:∀(cdv:Value) (A:Around) (outer:List Env) (s:Shared) (H:Hp) (E:XK) (ds:List PyData) (d:PyData),Room k (A.deeper (envOfC qual (Ae st) s.heap.objs.size f cdv))→F ds d→
   SVs (cxOf CX0 P w K mg base N qual (Ae st) f cdv A outer s H E).nox (AO N ds) (AG st) (.ret d)):DFn P w K mg base (k + 1) x F:=by
 refine ⟨f,fd,ps,F0.ok S (fun vs H Q E ⟨ds,d,h1,h2,_⟩=>h1.length.trans (len ds d h2)) (fun cdv A outer s H vs Q E hr ⟨ds,d,h1,h2,q⟩=>⟨_,hbody cdv A outer s H E ds d hr h2,SD.start h1,q⟩),hm,F0.kp,hb⟩
end
mutual
def noL:PyData→Bool
 | .none=>true
 | .bool _=>true
 | .int _=>true
 | .str _=>true
 | .tuple xs=>noLs xs
 | .list _=>false
 | .dict _=>false
def noLs:List PyData→Bool
 | []=>true
 | x::r=>noL x && noLs r
end
def dele (H:Hp) (p:Addr):Hp:=fun b=>if b=p then none else H b
theorem FV {H:Hp} {p:Addr}:dele H p p=none:=by unfold dele;rw [if_pos rfl]
theorem E5 {H:Hp} {p b:Addr} (h:b≠p):dele H p b=H b:=by unfold dele;rw [if_neg h]
theorem HW {H:Hp} {p:Addr} {o:HO} (h:H p=some o):upd (dele H p) p o=H:=by
 funext b
 by_cases hb:b=p
 ·subst hb;rw [Am,h]
 ·rw [Aj hb,E5 hb]
mutual
theorem DV.dele {K:PySem.W.Frag} {H:Hp} {p:Addr} {ws:List V} (hp:H p=some (.lst ws)):∀{v:V} {d:PyData},DV K H v d→noL d=true→DV K (L2.dele H p) v d
 | _,_,.non,_=>.non
 | _,_,.bl b,_=>.bl b
 | _,_,.int i,_=>.int i
 | _,_,.str x,_=>.str x
 | _,_,.tup (a:=a) h t,f=>by
   refine .tup ?_ (DVs.dele hp t (by unfold noL at f;exact f))
   rcases h with (h | ⟨o,h⟩) | h
   ·have:a≠p:=fun z=>by subst z;rw [hp] at h;cases h
    exact .inl (.inl (by rw [E5 this];exact h))
   ·have:a≠p:=fun z=>by subst z;rw [hp] at h;cases h
    exact .inl (.inr ⟨o,by rw [E5 this];exact h⟩)
   ·exact .inr h
 | _,_,.lst h t,f=>by unfold noL at f;cases f
 | _,_,.dct h t,f=>by unfold noL at f;cases f
 | _,_,.exc h,f=>by unfold noL at f;cases f
 | _,_,.exr h h',f=>by unfold noL at f;cases f
 | _,_,.obj h n t,f=>by unfold noL at f;cases f
 | _,_,.dtt h,f=>by unfold noL at f;cases f
theorem DVs.dele {K:PySem.W.Frag} {H:Hp} {p:Addr} {ws:List V} (hp:H p=some (.lst ws)):∀{vs:List V} {ds:List PyData},DVs K H vs ds→noLs ds=true→DVs K (L2.dele H p) vs ds
 | _,_,.nil,_=>.nil
 | _,_,.cons h t,f=>by
   unfold noLs at f
   rw [Bool.and_eq_true] at f
   exact .cons (DV.dele hp h f.1) (DVs.dele hp t f.2)
end
def OSt (K:PySem.W.Frag) (H0:Hp) (p:Addr) (i:Nat) (G:Gam) (ds:List PyData) (σ:St) (H:Hp):Prop:=
 ∃Hb vs,H=upd Hb p (.lst vs)∧Hb p=none∧Same H0 Hb∧SD K Hb σ G∧σ[i]?=some (some (.ref p))∧DVs K Hb vs ds
abbrev FO (G:Gam) (i:Nat) (ds:List PyData):Gam:=G.set i (some (.list ds))
theorem OSt.sd {K:PySem.W.Frag} {H0:Hp} {p:Addr} {i:Nat} {G:Gam} {ds:List PyData} {σ:St} {H:Hp} (h:OSt K H0 p i G ds σ H):SD K H σ (FO G i ds):=by
 obtain ⟨Hb,vs,rfl,hn,_,hσ,hi,dv⟩:=h
 have h1:=hσ.mono (Same.new (o:=.lst vs) hn)
 have h2:=h1.set (i:=i) (v:=.ref p) (d:=.list ds) (.lst (SqL.of Am) (dv.mono (Same.new hn)))
 have e:σ.set i (some (V.ref p))=σ:=by
  refine List.ext_getElem? fun j=>?_
  by_cases hj:i=j
  ·subst hj
   rw [List.getElem?_set_self (List.getElem?_eq_some_iff.mp hi).1,hi]
  ·rw [List.getElem?_set_ne hj]
 rw [e] at h2
 exact h2
theorem OSt.step {K:PySem.W.Frag} {H0:Hp} {p:Addr} {i:Nat} {G:Gam} {ds:List PyData} {σ:St} {H H':Hp} (h:OSt K H0 p i G ds σ H) (s:Same H H'):
  OSt K H0 p i G ds σ H'∧∀v d,DV K H' v d→noL d=true→∃Hb vs,H'=upd Hb p (.lst vs)∧Hb p=none∧Same H0 Hb∧SD K Hb σ G∧σ[i]?=some (some (.ref p))∧DVs K Hb vs ds∧DV K Hb v d:=by
 obtain ⟨Hb,vs,rfl,hn,s0,hσ,hi,dv⟩:=h
 have hp:H' p=some (.lst vs):=s p _ Am
 have sb:Same Hb (dele H' p):=fun b o e=>by
  have hb:b≠p:=A6 e hn
  rw [E5 hb]
  exact s b o (by rw [Aj hb];exact e)
 refine ⟨⟨dele H' p,vs,(HW hp).symm,FV,s0.trans sb,hσ.mono sb,hi,dv.mono sb⟩,fun v d q f=>⟨dele H' p,vs,(HW hp).symm,FV,s0.trans sb,hσ.mono sb,hi,dv.mono sb,DV.dele hp q f⟩⟩
def tH (K:PySem.W.Frag) (H0:Hp) (p:Addr) (i:Nat) (Pre Post:Gam→List PyData→Prop):TS:=fun D σ H=>(∃G ds,Pre G ds∧OSt K H0 p i G ds σ H)∧∀σ' H' G ds,Post G ds→OSt K H0 p i G ds σ' H'→D.nx σ' H'
abbrev HT1 (X:Cx) (H0:Hp) (p:Addr) (i:Nat) (Pre:Gam→List PyData→Prop) (st:Stmt) (Post:Gam→List PyData→Prop):Prop:=PS X st (tH X.K H0 p i Pre Post)
abbrev HTs (X:Cx) (H0:Hp) (p:Addr) (i:Nat) (Pre:Gam→List PyData→Prop) (sts:List Stmt) (Post:Gam→List PyData→Prop):Prop:=PSs X sts (tH X.K H0 p i Pre Post)
section
variable {X:Cx} {H0:Hp} {p:Addr} {i j:Nat} {Pre Mid Post PreA PreB:Gam→List PyData→Prop} {e c:Expr} {pos pos' pos2:Pos} {x:Str}
theorem BB (h:∀G ds,Pre G ds→Post G ds):HTs X H0 p i Pre [] Post:=pss_nil.imp fun D σ H ⟨⟨G,ds,a,b⟩,q⟩=>q σ H G ds (h G ds a) b
theorem AT {st:Stmt} {sts:List Stmt} (h1:HT1 X H0 p i Pre st Mid) (h2:HTs X H0 p i Mid sts Post):HTs X H0 p i Pre (st::sts) Post:=
 (A4 h1 h2).imp fun D σ H ⟨a,q⟩=>⟨a,fun σ' H' G ds m o=>⟨⟨G,ds,m,o⟩,q⟩⟩
theorem Ec (hN:X.N.Nodup) (hi:X.N[j]?=some x) (hij:j≠i) (hx:Loc X.env.scope x) (h:∀G ds,Pre G ds→∃d,EV X (FO G i ds) e d∧noL d=true∧Post (G.set j (some d)) ds) (hs:swapsWith e (some (.Name x pos')) pos.line X.env=pure false:=by rfl)
  (hf:X.fn x=true∨X.env.scope.names.lookup x=some .local:=by first | exact .inl rfl | exact .inr rfl | assumption):HT1 X H0 p i Pre (.Assign [.Name x pos'] e pos) Post:=by
 intro pins s σ H D I ⟨⟨G,ds,a,o⟩,q⟩
 obtain ⟨d,ev,nl,po⟩:=h G ds a
 refine Eh hN hi hx ev hs hf pins s σ H D I ⟨o.sd,fun v H1 s1 d1=>?_⟩
 obtain ⟨_,k⟩:=o.step s1
 obtain ⟨Hb,vs,e1,e2,e3,e4,e5,e6,e7⟩:=k v d d1 nl
 exact q _ _ _ ds po ⟨Hb,vs,e1,e2,e3,e4.set e7,by rw [List.getElem?_set_ne hij];exact e5,e6⟩
theorem FG (h:∀G ds,Pre G ds→∃d,EV X (FO G i ds) e d∧noL d=true∧ds.length < sizeLine∧Post G (ds++[d])) (hv:PE X (.Name x pos2) (tVar i))
  (hs0:starEach [e] X.env=(false,eval e X.env)::starEach [] X.env:=by rfl)
  (hb:attributeBase (.Name x pos2) "append" X.env (eval (.Name x pos2) X.env)=eval (.Name x pos2) X.env:=by rfl)
  (hfew:((backTo pos' (starEach [e] X.env)).all (fun x=>!x.1) && (backToKw pos' (keywordEach [] X.env)).all (fun x=>x.1.isSome)
   && decide ([e].length + ([]:List Keyword).length + (if ([]:List Keyword).isEmpty then 0 else 1) < 30))=true:=by rfl)
  {apos:Pos} (hline:(apos.endLine==pos'.line)=true:=by rfl) (hpl:(backTo pos' (starEach [] X.env)).any (·.1)=false:=by rfl)
  (hsw:swapsWith (.Call (.Attribute (.Name x pos2) "append" apos) [e] [] pos') none pos.line X.env=pure false:=by rfl):
  HT1 X H0 p i Pre (.Expr (.Call (.Attribute (.Name x pos2) "append" apos) [e] [] pos') pos) Post:=by
 intro pins s σ H D I ⟨⟨G,ds,a,o⟩,q⟩
 obtain ⟨d,ev,nl,hz,po⟩:=h G ds a
 refine DP (Jy PySem.F.plainAttrs_list PySem.F.slot_list_append PySem.F.type_list_append FD hv (Aa ev Ac hs0) hb hfew hline hs0 hpl) hsw pins s σ H D I ?_
 obtain ⟨Hb,vs,rfl,hn,s0,hσ,hi,dv⟩:=id o
 refine ⟨_,hi,.inl ⟨rfl,vs,SqL.of Am⟩,o.sd,fun ws H1 s1 d1=>?_⟩
 obtain ⟨v,rfl,d2⟩:=d1.one
 obtain ⟨_,k⟩:=o.step s1
 obtain ⟨Hb',vs',e1,e2,e3,e4,e5,e6,e7⟩:=k v d d2 nl
 subst e1
 have hup:upd (upd Hb' p (.lst vs')) p (.lst (vs'++[v]))=upd Hb' p (.lst (vs'++[v])):=Mj
 refine ⟨p,vs',v,rfl,rfl,Am,by rw [e6.length];exact hz,?_⟩
 rw [hup]
 exact q _ _ G _ po ⟨Hb',vs'++[v],rfl,e2,e3,e4,e5,e6.append (.cons e7 .nil)⟩
theorem Qh {α:Type} {Pr:α→Gam→List PyData→Prop} {st:Stmt} (h:∀a,HT1 X H0 p i (Pr a) st Post):HT1 X H0 p i (fun G ds=>∃a,Pr a G ds) st Post:=fun pins s σ H D I ⟨⟨G,ds,⟨a,b⟩,o⟩,q⟩=>h a pins s σ H D I ⟨⟨G,ds,b,o⟩,q⟩
theorem Qg {a:Expr} {G:Gam} {tg:Expr} {n:Int} (ha:EV X G a (.int n)) (h1:-(2 ^ 62)≤n) (h2:n < 2 ^ 62) (hg:Gl X "range") (hm:X.mg "range"=none) (hs:starEach [a] X.env=[(false,eval a X.env)]:=by rfl):
  PI X tg (.Call (.Name "range" pos') [a] [] pos) (fun σ H R=>SD X.K H σ G∧∀H',Same H H'→R (Itr 0 n.toNat) H'):=
 (DS hg hm (Aa ha Ac hs) hs).imp fun σ H R ⟨h,q⟩=>⟨h,fun vs H1 s1 d1=>by
  obtain ⟨v,rfl,dv⟩:=d1.one
  exact ⟨n,by rw [dv.of_int],h1,h2,q H1 s1⟩⟩
theorem Qu {a b:Expr} {G:Gam} {tg:Expr} {m n:Int} (ha:EV X G a (.int m)) (hb:EV X G b (.int n)) (h0:-(2 ^ 62)≤m∧m < 2 ^ 62∧-(2 ^ 62)≤n∧n < 2 ^ 62) (hg:Gl X "range") (hm:X.mg "range"=none)
  (hs:starEach [a,b] X.env=[(false,eval a X.env),(false,eval b X.env)]:=by rfl) (hs2:starEach [b] X.env=[(false,eval b X.env)]:=by rfl):
  PI X tg (.Call (.Name "range" pos') [a,b] [] pos) (fun σ H R=>SD X.K H σ G∧∀H',Same H H'→R (Itr m (n - m).toNat) H'):=
 (JO hg hm (Aa ha (Aa hb Ac hs2) (by rw [hs,hs2])) hs hs2).imp fun σ H R ⟨h,q⟩=>⟨h,fun vs H1 s1 d1=>by
  obtain ⟨v,w,rfl,dv,dw⟩:=d1.two
  exact ⟨m,n,by rw [dv.of_int,dw.of_int],h0,q H1 s1⟩⟩
theorem KZ {A B:List Stmt} (h:∀G ds,Pre G ds→(TV X (FO G i ds) c true∧PreA G ds)∨(TV X (FO G i ds) c false∧PreB G ds)) (h1:HTs X H0 p i PreA A Post) (h2:HTs X H0 p i PreB B Post):HT1 X H0 p i Pre (.If c A B pos) Post:=by
 intro pins s σ H D I ⟨⟨G,ds,a,o⟩,q⟩
 rcases h G ds a with ⟨tv,pa⟩ | ⟨tv,pb⟩
 ·exact DE tv h1 h2 pins s σ H D I ⟨o.sd,fun H1 s1=>iteT ⟨⟨G,ds,pa,(o.step s1).1⟩,q⟩⟩
 ·exact DE tv h1 h2 pins s σ H D I ⟨o.sd,fun H1 s1=>iteF ⟨⟨G,ds,pb,(o.step s1).1⟩,q⟩⟩
theorem Jz {tg iter:Expr} {body:List Stmt} {lo:Int} {n:Nat} (W:Nat→Gam→List PyData→Prop) (hp:PassesOwn (model X.prog X.w) X.A X.env X.xe) (hcalm:X.calm=true) (hij:j≠i) (hg:PG X tg (BH j))
  (hpre:∀G ds,Pre G ds→W 0 G ds∧PI X tg iter (fun σ H R=>SD X.K H σ (FO G i ds)∧∀H',Same H H'→R (Itr lo n) H'))
  (hs:∀k,k < n→HTs X H0 p i (fun G ds=>∃G',W k G' ds∧G=G'.set j (some (.int (lo + (k:Nat))))) body (W (k + 1))) (hpost:∀G ds,W n G ds→Post G ds)
  (hfs:∀x,foldedSetIterable iter X.env x=pure x:=by intro _;rfl):HT1 X H0 p i Pre (.For tg iter body [] pos) Post:=by
 intro pins s σ H D I ⟨⟨G,ds,a,o⟩,q⟩
 obtain ⟨w0,hi⟩:=hpre G ds a
 have hbody:PSs X body (fun D σ H=>∃k:Nat,k < n∧tH X.K H0 p i (fun G ds=>∃G',W k G' ds∧G=G'.set j (some (.int (lo + (k:Nat))))) (W (k + 1)) D σ H):=fun pins s σ H D I ⟨k,hk,q⟩=>hs k hk pins s σ H D I q
 refine Gn hp hcalm hi hg hbody hfs pins s σ H D I ⟨o.sd,fun H1 s1=>?_⟩
 refine FS (lo:=lo) (n:=n) (g:=BH j) (tb:=fun D σ H=>∃k:Nat,k < n∧tH X.K H0 p i (fun G ds=>∃G',W k G' ds∧G=G'.set j (some (.int (lo + (k:Nat))))) (W (k + 1)) D σ H) (fun k σ H=>k≤n∧∃G ds,W k G ds∧OSt X.K H0 p i G ds σ H) ⟨Nat.zero_le _,G,ds,w0,(o.step s1).1⟩ (fun k σ2 H2 hk ⟨_,G2,ds2,w2,o2⟩=>?_) (fun σ2 H2 ⟨_,G2,ds2,w2,o2⟩=>q σ2 H2 G2 ds2 (hpost _ _ w2) o2)
 obtain ⟨Hb,vs,rfl,hn,s0,hσ,hi2,dv⟩:=id o2
 refine ⟨k,hk,⟨_,ds2,⟨G2,w2,rfl⟩,Hb,vs,rfl,hn,s0,hσ.set (.int _),by rw [List.getElem?_set_ne hij];exact hi2,dv⟩,fun σ3 H3 G3 ds3 w3 o3=>⟨hk,G3,ds3,w3,o3⟩⟩
theorem Nn {tg:Expr} {y:Str} {body:List Stmt} {m:Nat} {xs:List PyData} (W:Nat→Gam→List PyData→Prop) (hp:PassesOwn (model X.prog X.w) X.A X.env X.xe) (hcalm:X.calm=true) (hij:j≠i) (hg:PG X tg (BH j)) (hv:PE X (.Name y pos') (tVar m))
  (hpre:∀G ds,Pre G ds→W 0 G ds∧G[m]?=some (some (.list xs)))
  (hs:∀(H1:Hp) (k:Nat) d,xs[k]?=some d→HTs X H1 p i (fun G ds=>∃G',W k G' ds∧G=G'.set j (some d)) body (W (k + 1))) (hpost:∀G ds,W xs.length G ds→Post G ds)
  (hfs:∀x,foldedSetIterable (.Name y pos') X.env x=pure x:=by intro _;rfl):HT1 X H0 p i Pre (.For tg (.Name y pos') body [] pos) Post:=by
 intro pins s σ H D I ⟨⟨G,ds,a,o⟩,q⟩
 obtain ⟨w0,hm⟩:=hpre G ds a
 obtain ⟨Hb,vs,rfl,hn,s0,hσ,hi,dv⟩:=id o
 obtain ⟨v,e1,dl⟩:=hσ.2 m _ hm
 obtain ⟨l,us,rfl,hl,dus⟩:=dl.of_lst
 have hbody:PSs X body (fun D σ H=>∃kd:Nat×PyData,xs[kd.1]?=some kd.2∧tH X.K Hb p i (fun G ds=>∃G',W kd.1 G' ds∧G=G'.set j (some kd.2)) (W (kd.1 + 1)) D σ H):=fun pins s σ H D I ⟨k,hk,q⟩=>hs Hb k.1 k.2 hk pins s σ H D I q
 have keyN:∀{G2:Gam} {ds2:List PyData} {σ2:St} {H2:Hp},OSt X.K Hb p i G2 ds2 σ2 H2→SqL X.K H2 l us:=fun ⟨Hc,ws,e,nc,sc,_⟩=>by
  subst e
  exact (Same.new nc).seq (sc.seq hl)
 refine Gn hp hcalm (IW hv) hg hbody hfs pins s σ _ D I ⟨_,e1,l,rfl,⟨us,(Same.new hn).seq hl⟩,?_⟩
 refine Ls (K:=X.K) (a:=l) (xs:=us) (g:=BH j) (tb:=fun D σ H=>∃kd:Nat×PyData,xs[kd.1]?=some kd.2∧tH X.K Hb p i (fun G ds=>∃G',W kd.1 G' ds∧G=G'.set j (some kd.2)) (W (kd.1 + 1)) D σ H)
  (fun k σ H=>∃G ds,W k G ds∧OSt X.K Hb p i G ds σ H) ⟨G,ds,w0,Hb,vs,rfl,hn,Same.refl _,hσ,hi,dv⟩ (fun k σ2 H2 _ ⟨_,_,_,o2⟩=>keyN o2) (fun k z σ2 H2 hk ⟨G2,ds2,w2,o2⟩=>?_)
  (fun σ2 H2 ⟨G2,ds2,w2,Hc,ws,e,nc,sc,r⟩=>q σ2 H2 G2 ds2 (hpost _ _ (by rw [←dus.length];exact w2)) ⟨Hc,ws,e,nc,s0.trans sc,r⟩)
 obtain ⟨d,ed,dz⟩:=dus.get' hk
 obtain ⟨Hc,ws,e,nc,sc,hσ2,hi2,dv2⟩:=o2
 exact ⟨(k,d),ed,⟨_,ds2,⟨G2,w2,rfl⟩,Hc,ws,e,nc,sc,hσ2.set (dz.mono sc),by rw [List.getElem?_set_ne hij];exact hi2,dv2⟩,fun σ3 H3 G3 ds3 w3 o3=>⟨G3,ds3,w3,o3⟩⟩
def tR (K:PySem.W.Frag) (G:Gam) (R:PyData→Prop):TS:=fun D σ H=>SD K H σ G∧∀d v H',R d→Same H H'→DV K H' v d→D.rt v H'
abbrev RVs (X:Cx) (G:Gam) (sts:List Stmt) (R:PyData→Prop):Prop:=PSs X sts (tR X.K G R)
def tHR (K:PySem.W.Frag) (H0:Hp) (p:Addr) (i:Nat) (Pre:Gam→List PyData→Prop) (R:PyData→Prop):TS:=fun D σ H=>(∃G ds,Pre G ds∧OSt K H0 p i G ds σ H)∧∀d v H',R d→Same H0 H'→DV K H' v d→D.rt v H'
abbrev HRs (X:Cx) (H0:Hp) (p:Addr) (i:Nat) (Pre:Gam→List PyData→Prop) (sts:List Stmt) (R:PyData→Prop):Prop:=PSs X sts (tHR X.K H0 p i Pre R)
variable {R:PyData→Prop} {G:Gam} {d:PyData}
theorem HS {st:Stmt} {sts:List Stmt} (h1:HT1 X H0 p i Pre st Mid) (h2:HRs X H0 p i Mid sts R):HRs X H0 p i Pre (st::sts) R:=
 (A4 h1 h2).imp fun D σ H ⟨a,q⟩=>⟨a,fun σ' H' G ds m o=>⟨⟨G,ds,m,o⟩,q⟩⟩
theorem Nk {sts:List Stmt} (hv:PE X (.Name x pos2) (tVar i)) (h:∀G ds,Pre G ds→R (.list ds)):HRs X H0 p i Pre (.Return (some (.Name x pos2)) pos::sts) R:=
 (A4 (Ed hv) (AD (sts:=sts))).imp fun D σ H ⟨⟨G,ds,a,Hb,vs,e,n,s0,hσ,hi,dv⟩,q⟩=>by
  subst e
  exact ⟨_,hi,q _ _ _ (h G ds a) (s0.trans (Same.new n)) (.lst (SqL.of Am) (dv.mono (Same.new n)))⟩
theorem Np {sts:List Stmt} (hN:X.N.Nodup) (hi:X.N[i]?=some x) (hx:Loc X.env.scope x) (hG:i < G.length) (h:∀H0 p,HRs X H0 p i (fun G' ds=>G'=G.set i none∧ds=[]) sts R)
  (hs:swapsWith (.List [] pos2) (some (.Name x pos')) pos.line X.env=pure false:=by rfl) (hf:X.fn x=true∨X.env.scope.names.lookup x=some .local:=by first | exact .inl rfl | exact .inr rfl | assumption):
  RVs X G (.Assign [.Name x pos'] (.List [] pos2) pos::sts) R:=by
 intro pins s σ H D I ⟨hσ,q⟩
 have h2:PSs X sts (fun D σ H=>∃hp:Hp×Addr,tHR X.K hp.1 hp.2 i (fun G' ds=>G'=G.set i none∧ds=[]) R D σ H):=fun pins s σ H D I ⟨hp,q⟩=>h hp.1 hp.2 pins s σ H D I q
 refine A4 (Eh hN hi hx (GO pa_nil) hs hf) h2 pins s σ H D I ⟨Nat.zero_le _,fun p hp=>⟨(H,p),⟨_,[],⟨rfl,rfl⟩,H,[],rfl,hp,Same.refl _,⟨by rw [List.length_set,List.length_set,hσ.1],fun j d e=>?_⟩,List.getElem?_set_self (by rw [hσ.1];exact hG),.nil⟩,fun d v H' r s' dv=>q d v H' r s' dv⟩⟩
 by_cases hj:i=j
 ·subst hj
  rw [List.getElem?_set_self hG] at e
  cases e
 ·rw [List.getElem?_set_ne hj] at e ⊢
  exact hσ.2 j d e
theorem Mc {st:Stmt} {sts:List Stmt} {G1:Gam} (h1:SV X G st (.next G1)) (h2:RVs X G1 sts R):RVs X G (st::sts) R:=
 (A4 h1 h2).imp fun D σ H ⟨h,q⟩=>⟨h,fun σ' H' s' h'=>⟨h',fun d v H2 r s2 dv=>q d v H2 r (s'.trans s2) dv⟩⟩
def spR (K:PySem.W.Frag) (F:List PyData→PyData→Prop) (pre:List PyData→Prop):Sp:=fun vs H Q _=>∃ds,DVs K H vs ds∧pre ds∧∀d v H',F ds d→Same H H'→DV K H' v d→Q v H'
def RFn (P:Program) (w:World) (K:PySem.W.Frag) (mg:Str→Option Value) (base:Heap) (k:Nat) (x:Str) (F:List PyData→PyData→Prop) (pre:List PyData→Prop):Prop:=
 ∃f fd ps,FnOk P w K mg base CX0 k f fd ps (spR K F pre)∧mg x=some (.ref f)∧PySem.W.keepIn K (.ref f)=true∧Binds K fd ps []
def tDR (K:PySem.W.Frag) (G:Gam) (R:PyData→Prop):TE:=fun σ H Q=>SD K H σ G∧∀d v H',R d→Same H H'→DV K H' v d→Q v H'
abbrev EVR (X:Cx) (G:Gam) (e:Expr) (R:PyData→Prop):Prop:=PE X e (tDR X.K G R)
theorem LO {k:Nat} {F:List PyData→PyData→Prop} {pre:List PyData→Prop} {es:List Expr} {ds:List PyData} (D:RFn X.prog X.w X.K X.mg X.base k x F pre) (hr:Room k X.A) (hg:Gl X x) (ha:AV X G (e::es) ds) (hF:pre ds) (hdb:(x==("__debug__":Str))=false:=by decide)
  (he:starEach (e::es) X.env=(false,eval e X.env)::starEach es X.env:=by rfl) (hpl:(backTo pos (starEach es X.env)).any (·.1)=false:=by rfl):EVR X G (.Call (.Name x pos2) (e::es) [] pos) (F ds):=by
 obtain ⟨f,fd,ps,ok,hm,hk,hb⟩:=D
 refine (Gs ok hr hg hm hk hb .nil Dw ha hdb he hpl).imp fun σ H Q ⟨h,q⟩=>⟨h,fun vs H1 s1 d1=>?_⟩
 show spR X.K F pre (vs++[]) H1 Q E0
 rw [List.append_nil]
 exact ⟨ds,d1,hF,fun d v H2 r s2 d2=>q d v H2 r (s1.trans s2) d2⟩
theorem OG (h:EV X G e d) (hr:R d):EVR X G e R:=h.imp fun σ H Q ⟨h,q⟩=>⟨h,fun v H' s' dv=>q d v H' hr s' dv⟩
theorem HG {sts:List Stmt} {o:Out} (hN:X.N.Nodup) (hi:X.N[i]?=some x) (hx:Loc X.env.scope x) (h:EVR X G e R) (h2:∀d,R d→SVs X (G.set i (some d)) sts o) (hs:swapsWith e (some (.Name x pos')) pos.line X.env=pure false:=by rfl)
  (hf:X.fn x=true∨X.env.scope.names.lookup x=some .local:=by first | exact .inl rfl | exact .inr rfl | assumption):SVs X G (.Assign [.Name x pos'] e pos::sts) o:=by
 have hr:PSs X sts (fun D σ H=>∃d,R d∧tDS X.K (G.set i (some d)) o D σ H):=fun pins s σ H D I ⟨d,r,q⟩=>h2 d r pins s σ H D I q
 refine (A4 (Eh hN hi hx h hs hf) hr).imp fun D σ H ⟨h,q⟩=>⟨h,fun d v H1 r s1 d1=>⟨d,r,(h.mono s1).set d1,?_⟩⟩
 cases o with
 | next G2=>exact fun σ2 H2 s2 h2=>q σ2 H2 (s1.trans s2) h2
 | ret d=>exact fun v H2 s2 h2=>q v H2 (s1.trans s2) h2
end
section
variable {P:Program} {w:World} {K:PySem.W.Frag} {mg:Str→Option Value} {base:Heap}
theorem Fun.dataR {x qual:Str} {st:Stmt} {f:Addr} {fd:FuncData} {N ps:List Str} {k:Nat} {F:List PyData→PyData→Prop} {pre:List PyData→Prop} (F0:Fun K x qual st f fd) (hm:mg x=some (.ref f)) (hb:Binds K fd ps []) (S:FnScope N ps (Ae st)) (len:∀ds,pre ds→ds.length=ps.length)
  (hbody:∀(cdv:Value) (A:Around) (outer:List Env) (s:Shared) (H:Hp) (E:XK) (ds:List PyData),Room k (A.deeper (envOfC qual (Ae st) s.heap.objs.size f cdv))→pre ds→
   RVs (cxOf CX0 P w K mg base N qual (Ae st) f cdv A outer s H E).nox (AO N ds) (AG st) (F ds)):RFn P w K mg base (k + 1) x F pre:=by
 refine ⟨f,fd,ps,F0.ok S (fun vs H Q E ⟨ds,h1,h2,_⟩=>h1.length.trans (len ds h2)) (fun cdv A outer s H vs Q E hr ⟨ds,h1,h2,q⟩=>⟨_,hbody cdv A outer s H E ds hr h2,SD.start h1,q⟩),hm,F0.kp,hb⟩
end
section
section
variable {X:Cx} {G:Gam} {a b c e:Expr} {es rest:List Expr} {pos p p2 p3:Pos} {d d' da db dc:PyData} {ds:List PyData} {x:Str}
theorem Av (h:EV X G e d) (q:d=d'):EV X G e d':=q ▸ h
theorem Al {k k':Bool} (h:TV X G e k) (q:k=k'):TV X G e k':=q ▸ h
end
mutual
theorem CN:∀(d:PyData),d.canLay0=true→PyData.eqv d d=true
 | .none,_=>rfl
 | .bool b,_=>by simp [PyData.eqv]
 | .int i,_=>by simp [PyData.eqv]
 | .str x,_=>by simp [PyData.eqv]
 | .list xs,h=>by unfold PyData.eqv;exact CQ xs (by simpa [PyData.canLay0] using h)
 | .tuple xs,h=>by unfold PyData.eqv;exact CQ xs (by simpa [PyData.canLay0] using h)
 | .dict _,h=>by simp [PyData.canLay0] at h
theorem CQ:∀(ds:List PyData),PyData.canLayAll0 ds=true→PyData.eqvAll ds ds=true
 | [],_=>rfl
 | d::r,h=>by
   have h':d.canLay0=true∧PyData.canLayAll0 r=true:=by simpa [PyData.canLayAll0] using h
   unfold PyData.eqvAll
   rw [CN d h'.1,CQ r h'.2]
   rfl
end
theorem Db {α:Type} {f:α→PyData}:∀(l:List α),(∀a∈l,(f a).canLay0=true)→PyData.canLayAll0 (l.map f)=true
 | [],_=>rfl
 | a::r,h=>by
   rw [List.map_cons]
   unfold PyData.canLayAll0
   rw [h a List.mem_cons_self,Db r fun b hb=>h b (List.mem_cons_of_mem _ hb)]
   rfl
theorem Bg {α:Type} (l:List α):l.filter (fun _=>true)=l:=List.filter_eq_self.mpr fun _ _=>rfl
theorem Bl {xs:List PyData} {i:Int} {d:PyData} (h0:0≤i) (h:xs[i.toNat]?=some d):atI xs i=some d:=by
 have:=M9 h
 rwa [Int.toNat_of_nonneg h0] at this
section
variable {X:Cx} {G:Gam} {a b c e:Expr} {es:List Expr} {pos p:Pos} {d da db dc:PyData} {ds:List PyData} {x:Str}
theorem Aw (id:String) (ha:AV X G (e::es) ds) (hc:CD X (.builtin id) ds d) (hg:Gl X x) (hm:X.mg x=none) (hv:bootBuiltins x=some (.builtin id)) (hn:x≠"__name__":=by decide) (hdb:(x==("__debug__":Str))=false:=by decide)
  (he:starEach (e::es) X.env=(false,eval e X.env)::starEach es X.env:=by rfl) (hpl:(backTo pos (starEach es X.env)).any (·.1)=false:=by rfl):EV X G (.Call (.Name x p) (e::es) [] pos) d:=LX hc hg hm hv ha hn hdb he hpl
theorem Iu (T:String) (ha:AV X G (e::es) ds) (hc:CD X (.type T) ds d) (hg:Gl X x) (hm:X.mg x=none) (hv:bootBuiltins x=some (.type T)) (hn:x≠"__name__":=by decide) (hdb:(x==("__debug__":Str))=false:=by decide)
  (he:starEach (e::es) X.env=(false,eval e X.env)::starEach es X.env:=by rfl) (hpl:(backTo pos (starEach es X.env)).any (·.1)=false:=by rfl):EV X G (.Call (.Name x p) (e::es) [] pos) d:=JZ hc hg hm hv ha hn hdb he hpl
theorem JS {op op':CmpOp} {k k':Bool} (ha:EV X G a da) (hb:EV X G b db) (ho:OD X (compareOp op) da db (.bool k)) (hc:EV X G c dc) (ho':OD X (compareOp op') db dc (.bool k'))
  (hm:lastMarks [op,op'] [b,c]=false:=by with_unfolding_all rfl):EV X G (.Compare a [op,op'] [b,c] pos) (.bool (k && k')):=LC ho (fun _=>ho') ha hb (fun _=>hc) hm
end
theorem BA {zs:List Int} {i:Int} (h0:0≤i) (h:i < zs.length):atI (zs.map PyData.int) i=some (.int (zs.getD i.toNat 0)):=by
 have hi:i.toNat < zs.length:=by omega
 exact Bl h0 (by simp [hi])
structure FnIn (K:PySem.W.Frag) (x:Str) (st:Stmt) (f:Addr) (fd:FuncData):Prop where
 ns:PySem.W.nsIn K mainGlobals x=some (some (.ref f))
 fn:Fun K x x st f fd
theorem fnIn_mk {K:PySem.W.Frag} {x:Str} {st:Stmt} {f:Addr} {oc:Value} {od an:Option Addr} {osl:Array (Option Value)} {kV doc pm cdv ct:Value} (a:PySem.W.nsIn K mainGlobals x=some (some (.ref f)))
  (l:K.lookup f=some ⟨oc,od,.func (PySem.W.fnOf x x (BV st) (AG st) (Ae st) .none kV doc pm an cdv ct),osl⟩) (c:PySem.W.codeIn K cdv x=true) (k:PySem.W.keepIn K (.ref f)=true):∃f fd,FnIn K x st f fd:=
 ⟨f,_,a,IG l c k⟩
section
variable {P:Program} {w:World} {K:PySem.W.Frag} {mg:Str→Option Value} {base:Heap}
theorem Fun.dataOk {x qual:Str} {st:Stmt} {f:Addr} {fd:FuncData} {N ps:List Str} {k:Nat} {F:List PyData→PyData→Prop} (F0:Fun K x qual st f fd) (S:FnScope N ps (Ae st)) (len:∀ds d,F ds d→ds.length=ps.length)
  (hbody:∀(cdv:Value) (A:Around) (outer:List Env) (s:Shared) (H:Hp) (E:XK) (ds:List PyData) (d:PyData),Room k (A.deeper (envOfC qual (Ae st) s.heap.objs.size f cdv))→F ds d→
   SVs (cxOf CX0 P w K mg base N qual (Ae st) f cdv A outer s H E).nox (AO N ds) (AG st) (.ret d)):FnOk P w K mg base CX0 (k + 1) f fd ps (spD K F):=
 F0.ok S (fun vs H Q E ⟨ds,d,h1,h2,_⟩=>h1.length.trans (len ds d h2)) (fun cdv A outer s H vs Q E hr ⟨ds,d,h1,h2,q⟩=>⟨_,hbody cdv A outer s H E ds d hr h2,SD.start h1,q⟩)
end
def Jj (ds:List PyData) (d:PyData):Prop:=∃ns:List Int,ds=[.list (ns.map PyData.int)]∧ns.length≤63∧d=.bool true
theorem walk_D {l:PySem.W.OpenLaw} {q:Program} {loose:List Str} {XP:(Str→Option Value)→Heap→Prop} {YP:World→Heap→Prop} {d:DefRec} {K:Params→PySem.W.Frag} (hn:l.most=some 63) (hdf:d.params.defaults=[])
  (hY:∀(w:World) (h:Heap),YP w h→(K w.params).In h)
  (F:∀(w:World) (mg:Str→Option Value) (fa:Addr) (h:Heap),(K w.params).In h→h.Ns mainGlobals mg→mg d.name=some (.ref fa)→
   ∃fd:FuncData,(∀(s:Shared) (u:Value),BindsTo s fd ⟨[u],[]⟩ [("script",u)])∧∀base:Heap,(K w.params).In base→base.Ns mainGlobals mg→FnOk l.prog w (K w.params) mg base CX0 20 fa fd ["script"] (spD (K w.params) Jj)):
  PySem.W.WalkO q loose XP YP l.row.toRowW d [] (fun f vs=>PySem.call f vs):=
 L2.walk_of (n:=63) (k:=20) (x:="script") (CX:=fun _=>CX0) (sp:=fun w=>spD (K w.params) Jj) hn (by decide) hdf ⟨rfl,by decide,by decide⟩ hY F
   (fun _ _ a ns hl _ hS=>⟨_,_,.cons (.lst hS (DVs.ints ns)) .nil,⟨ns,rfl,hl,rfl⟩,fun v H' _ dv=>dv.of_bl⟩) fun _ _ _ _ _ z=>z
end
section
open Builtin.SmallTypes (nextOf)
section
variable {prog:Program} {w:World} {A:Around} {E:Value→Shared→Prop} {s:Shared}
theorem Lp {it t:Addr} {i:Nat} {its:Array Value} {x:Value} {Q:Value→Shared→Prop} (hi:s.heap.IsTupleIter it t i) (ht:s.heap.IsTuple t its) (hx:its[i]?=some x)
  (q:∀g,g.IsTupleIter it t (i + 1)→Heap.SameBut it s.heap g→Q x {s with heap:=g}):wpAny (model prog w) A (nextOf (.ref it)) Q E s:=by
 obtain ⟨o,ho,hc,hd⟩:=id hi;obtain ⟨ol,hol,_,nl,hdl⟩:=ht
 unfold nextOf
 refine wpAny_bind (wpAny_callSpecial?_slot (name:=Str.ofString "__next__") hi.typeIs PySem.F.slot_tuple_iterator_next (wpAny_call_entry PySem.F.slot_tuple_iterator_next hi.typeIs PySem.F.entry_tuple_iterator_next ?_ (PySem.F.args_tuple_iterator_next_1 _)))
 show wpAny _ A.in1 (field (.ref it) 0 >>=_) _ _ s
 refine wpAny_bind (wpAny_field ho hd (x:=.ref t) rfl ?_)
 show wpAny _ A.in1 (if (Value.ref t==Value.none)=true then _ else _) _ _ s
 rw [if_neg (show ¬((Value.ref t==Value.none)=true) by exact Bool.false_ne_true)]
 show wpAny _ A.in1 (field (.ref it) 1 >>=_) _ _ s
 refine wpAny_bind (wpAny_field ho hd (x:=.int i 0) rfl ?_)
 show wpAny _ A.in1 (seqItems? (.ref t) >>=_) _ _ s
 refine wpAny_bind (wpAny_seqItems hol hdl ?_)
 simp only [Int.toNat_natCast,hx]
 refine wpAny_bind (wpAny_setField ho hd (by simp) (wpAny_pure ⟨x,rfl,wpAny_pure (q _ ⟨_,Heap.get?_update_self _ ho (Obj.isFreed_of_fields (Obj.data_mapFields hd _)),(Obj.cls_mapFields ..).trans hc,?_⟩ (Heap.SameBut.update ..))⟩))
 rw [Obj.data_mapFields hd];simp [rawInt]
structure ZAp (z a b i j t:Addr):Prop where
 az:a≠z
 bz:b≠z
 iz:i≠z
 jz:j≠z
 ab:a≠b
 ai:a≠i
 aj:a≠j
 bi:b≠i
 bj:b≠j
 ij:i≠j
 tz:t≠z
 tb:t≠b
 ti:t≠i
 tj:t≠j
abbrev BM:String:="str_ascii_iterator"
theorem KQ {z a b i j t:Addr} {k c:Nat} {x:Str} {tk:Tok} {ys:Array Value} {y p q:Value} {Q:Value→Shared→Prop} (D:ZAp z a b i j t)
  (hz:IsZip s.heap z a b .none) (ha:IsPair s.heap a (.ref i) (.ref j)) (hb:IsPair s.heap b p q) (h1:s.heap.IsStrIter i BM x tk k) (h2:s.heap.IsTupleIter j t k) (ht:s.heap.IsTuple t ys) (hx:x.cps[k]?=some c) (hy:ys[k]?=some y)
  (fin:∀g n,IsZip g z a b (rawInt s.heap.objs.size)→IsPair g b (.str ⟨#[c]⟩ s.toks) y→g.IsStrIter i BM x tk (k + 1)→g.IsTupleIter j t (k + 1)→IsPair g s.heap.objs.size (.str ⟨#[c]⟩ s.toks) y→g.objs.size=s.heap.objs.size + 1→
   (∀d o,d≠z→d≠b→d≠i→d≠j→s.heap.get? d=some o→g.get? d=some o)→Q (.ref s.heap.objs.size) {s with heap:=g,toks:=n}):
  wpAny (model prog w) A (Builtin.«zip.__next__» ⟨[.ref z],[]⟩) (fun r s'=>∃v,r=.done (.ret v)∧Q v s') E s:=by
 show wpAny (model prog w) A (field (.ref z) 2 >>=_) _ _ _
 refine wpAny_bind (wpAny_field hz rfl (x:=.bool false) rfl ?_)
 show wpAny (model prog w) A (field (.ref z) 3 >>=_) _ _ _
 refine wpAny_bind (wpAny_field hz rfl (x:=.ref a) rfl (wpAny_bind (wpAny_seqItems ha rfl ?_)))
 show wpAny (model prog w) A (Builtin.SmallTypes.ownedTupleIsFree (.ref z) >>=_) _ _ _
 refine wpAny_bind ?_
 unfold Builtin.SmallTypes.ownedTupleIsFree
 refine wpAny_bind (wpAny_field hz rfl (x:=.none) rfl (wpAny_pure ?_))
 simp only [if_true]
 refine wpAny_bind (wpAny_rule (wpAny_bind (wpAny_field hz rfl (x:=.ref b) rfl (wpAny_bind (wpAny_setField_rec hz (by simp) fun g1 z1 s1=>?_)))))
 replace z1:IsZip g1 z a b .ellipsis:=z1
 refine wpAny_bind ?_
 simp only [List.zipIdx_cons,List.zipIdx_nil,List.forIn_cons,List.forIn_nil]
 refine wpAny_bind (wpAny_bind (wpAny_onRaise ?_))
 show wpAny (model prog w) A (nextOf (.ref i) >>=_) _ _ _
 refine wpAny_bind (wpAny_nextOf_ascii_item (h1.extBut s1.extBut D.iz) hx fun g2 i2 s2=>wpAny_pure ?_)
 have b2:IsPair g2 b p q:=s2.extBut _ _ D.bi (s1.extBut _ _ D.bz hb)
 refine wpAny_bind (wpAny_seqItems b2 rfl (wpAny_bind (wpAny_updateSeq_pair b2 fun g3 b3 s3=>?_)))
 replace b3:IsPair g3 b (.str ⟨#[c]⟩ s.toks) q:=b3
 refine wpAny_bind (wpAny_letGo (wpAny_pure ?_))
 refine wpAny_bind (wpAny_bind (wpAny_onRaise ?_))
 show wpAny (model prog w) A (nextOf (.ref j) >>=_) _ _ _
 have j3:g3.IsTupleIter j t k:=by
  obtain ⟨o,e,r⟩:=h2
  exact ⟨o,s3.extBut _ _ D.bj.symm (s2.extBut _ _ D.ij.symm (s1.extBut _ _ D.jz e)),r⟩
 have t3:g3.IsTuple t ys:=by
  obtain ⟨o,e,r⟩:=ht
  exact ⟨o,s3.extBut _ _ D.tb (s2.extBut _ _ D.ti (s1.extBut _ _ D.tz e)),r⟩
 refine wpAny_bind (Lp j3 t3 hy fun g4 j4 s4=>wpAny_pure ?_)
 have b4:IsPair g4 b (.str ⟨#[c]⟩ s.toks) q:=s4.extBut _ _ D.bj b3
 refine wpAny_bind (wpAny_seqItems b4 rfl (wpAny_bind (wpAny_updateSeq_pair b4 fun g5 b5 s5=>?_)))
 replace b5:IsPair g5 b (.str ⟨#[c]⟩ s.toks) y:=b5
 refine wpAny_bind (wpAny_letGo (wpAny_pure (wpAny_pure (wpAny_bind (wpAny_seqItems b5 rfl (wpAny_bind (wpAny_newTuple ?_)))))))
 have sz:g5.objs.size=s.heap.objs.size:=by rw [s5.1,s4.1,s3.1,s2.1,s1.1]
 have z5:IsZip g5 z a b .ellipsis:=s5.extBut _ _ D.bz.symm (s4.extBut _ _ D.jz.symm (s3.extBut _ _ D.bz.symm (s2.extBut _ _ D.iz.symm z1)))
 have k5:∀d o,d≠z→d≠b→d≠i→d≠j→s.heap.get? d=some o→g5.get? d=some o:=fun d o d1 d2 d3 d4 e=>s5.extBut _ _ d2 (s4.extBut _ _ d4 (s3.extBut _ _ d2 (s2.extBut _ _ d3 (s1.extBut _ _ d1 e))))
 have i5:g5.IsStrIter i BM x tk (k + 1):=((i2.extBut s3.extBut D.bi.symm).extBut s4.extBut D.ij).extBut s5.extBut D.bi.symm
 have j5:g5.IsTupleIter j t (k + 1):=by
  obtain ⟨o,e,r⟩:=j4
  exact ⟨o,s5.extBut _ _ D.bj.symm e,r⟩
 have zlt:z < g5.objs.size:=Heap.lt_size z5
 show wpAny (model prog w) A (Builtin.SmallTypes.ownedTupleHandOut (.ref z) (.ref g5.objs.size) >>=_) _ _ _
 refine wpAny_bind ?_
 unfold Builtin.SmallTypes.ownedTupleHandOut
 have z6:IsZip (g5.push {cls:=.type "tuple",data:=.seq #[.str ⟨#[c]⟩ s.toks,y]}) z a b .ellipsis:=Heap.get?_push_of_some _ z5
 refine wpAny_bind (wpAny_setField_rec z6 (by simp) fun g7 z7 s7=>?_)
 replace z7:IsZip g7 z a b (rawInt g5.objs.size):=z7
 refine wpAny_setField_rec z7 (by simp) fun g8 z8 s8=>?_
 replace z8:IsZip g8 z a b (rawInt g5.objs.size):=z8
 have up:∀d o,d≠z→g5.get? d=some o→g8.get? d=some o:=fun d o d1 e=>s8.extBut _ _ d1 (s7.extBut _ _ d1 (Heap.get?_push_of_some _ e))
 have p8:IsPair g8 g5.objs.size (.str ⟨#[c]⟩ s.toks) y:=s8.extBut _ _ (Nat.ne_of_gt zlt) (s7.extBut _ _ (Nat.ne_of_gt zlt) (Heap.get?_push_size _ rfl))
 have n8:g8.objs.size=g5.objs.size + 1:=by rw [s8.1,s7.1,Heap.size_push]
 rw [sz] at z8 p8 n8
 refine wpAny_pure ⟨_,rfl,?_⟩
 show Q (.ref g5.objs.size) _
 rw [sz]
 refine fin g8 _ z8 (up _ _ D.bz b5) ?_ ?_ p8 n8 fun d o d1 d2 d3 d4 e=>up d o d1 (k5 d o d1 d2 d3 d4 e)
 ·obtain ⟨o,e,r⟩:=i5
  exact ⟨o,up _ _ D.iz e,r⟩
 ·obtain ⟨o,e,r⟩:=j5
  exact ⟨o,up _ _ D.jz e,r⟩
theorem Lx {z a b i j:Addr} {k:Nat} {x:Str} {tk:Tok} {Q:Fin→Shared→Prop} (hh:A.handled=none) (iz:i≠z)
  (hz:IsZip s.heap z a b .none) (ha:IsPair s.heap a (.ref i) (.ref j)) (h1:s.heap.IsStrIter i BM x tk k) (hx:x.cps[k]?=none)
  (fin:∀g e,(∀d o,d≠z→d≠b→d≠i→d≠j→s.heap.get? d=some o→g.get? d=some o)→(∃o,g.get? e=some o∧o.cls=.type "StopIteration")→E (.ref e) {s with heap:=g}):
  wpAny (model prog w) A (Builtin.«zip.__next__» ⟨[.ref z],[]⟩) Q E s:=by
 show wpAny (model prog w) A (field (.ref z) 2 >>=_) _ _ _
 refine wpAny_bind (wpAny_field hz rfl (x:=.bool false) rfl ?_)
 show wpAny (model prog w) A (field (.ref z) 3 >>=_) _ _ _
 refine wpAny_bind (wpAny_field hz rfl (x:=.ref a) rfl (wpAny_bind (wpAny_seqItems ha rfl ?_)))
 show wpAny (model prog w) A (Builtin.SmallTypes.ownedTupleIsFree (.ref z) >>=_) _ _ _
 refine wpAny_bind ?_
 unfold Builtin.SmallTypes.ownedTupleIsFree
 refine wpAny_bind (wpAny_field hz rfl (x:=.none) rfl (wpAny_pure ?_))
 simp only [if_true]
 refine wpAny_bind (wpAny_rule (wpAny_bind (wpAny_field hz rfl (x:=.ref b) rfl (wpAny_bind (wpAny_setField_rec hz (by simp) fun g1 z1 s1=>?_)))))
 replace z1:IsZip g1 z a b .ellipsis:=z1
 refine wpAny_bind ?_
 simp only [List.zipIdx_cons,List.zipIdx_nil,List.forIn_cons,List.forIn_nil]
 refine wpAny_bind (wpAny_bind (wpAny_onRaise ?_))
 show wpAny (model prog w) A (nextOf (.ref i) >>=_) _ _ _
 refine wpAny_bind (wpAny_nextOf_ascii_end hh (h1.extBut s1.extBut iz) hx fun g2 e s2 he=>?_)
 obtain ⟨oe,hoe,hce⟩:=he
 have z2:IsZip g2 z a b .ellipsis:=s2 _ _ iz.symm z1
 have ez:e≠z:=fun y=>by subst y;rw [z2] at hoe;cases hoe;simp at hce
 exact wpAny_setField_rec z2 (by simp) fun g3 _ s3=>fin g3 e (fun d o d1 _ d3 _ y=>s3.extBut _ _ d1 (s2 _ _ d3 (s1.extBut _ _ d1 y))) ⟨oe,s3.extBut _ _ ez hoe,hce⟩
end
end
def Qs (K:PySem.W.Frag) (x:Str) (t:Addr):It:=
 ⟨fun k H=>∃ys,SqT K H t ys∧k < ys.length∧k < x.cps.size,fun k H v H'=>∃p c y,H p=none∧v=.ref p∧H'=upd H p (.tup [.str ⟨#[c]⟩,y])∧x.cps[k]?=some c∧∀ys,SqT K H t ys→ys[k]?=some y,fun k _=>x.cps.size≤k⟩
def ZTn (z a b i j t:Addr) (x:Str) (tk:Tok) (k:Nat) (h:Heap):Prop:=IsZip h z a b .none∧IsPair h a (.ref i) (.ref j)∧(∃p q,IsPair h b p q)∧h.IsStrIter i BM x tk k∧h.IsTupleIter j t k
structure ZAp0 (z a b i j:Addr):Prop where
 az:a≠z
 bz:b≠z
 iz:i≠z
 jz:j≠z
 ab:a≠b
 ai:a≠i
 aj:a≠j
 bi:b≠i
 bj:b≠j
 ij:i≠j
theorem JA {X:Cx} {pins:List (Addr×Obj)} {σ:St} {H:Hp} {s:Shared} {t b:Addr} {ys:List V} (I:Inv X pins σ H s) (h:SqT X.K H t ys) (f:FpOk X pins H b):t≠b:=by
 intro e
 subst e
 obtain ⟨hn,_,_,hx,_⟩:=f
 rcases h with (h | ⟨o,h⟩) | ⟨o,its,n,hk,_⟩
 ·rw [hn] at h;cases h
 ·rw [hn] at h;cases h
 ·have hb:=I.mod.kin t o hk
  rcases hx with hx | hx
  ·exact I.ok.noex t o hb hx
  ·exact absurd (Nat.lt_of_lt_of_le (Heap.lt_size (I.ok.bs t o hb).1) hx) (Nat.lt_irrefl _)
theorem Inv.turnedNew {X:Cx} {pins:List (Addr×Obj)} {σ:St} {H:Hp} {s:Shared} {h':Heap} {t':Nat} {ch:List Addr} {p:Addr} {vs:List V} {us:List Value} (I:Inv X pins σ H s) (hf:∀b∈ch,FpOk X pins H b)
  (k:∀b o,b∉ch→s.heap.get? b=some o→h'.get? b=some o) (hc:∀b∈ch,∃o,h'.get? b=some o) (hp:s.heap.objs.size≤p) (r:Vals vs us) (hz:vs.length≤sizeLine) (ht:IsTup h' p us.toArray∧∃o,h'.get? p=some o∧o.dict=none):Inv X pins σ (upd H p (.tup vs)) {s with heap:=h',toks:=t'}:=by
 have nc:∀b u,H b=some u→b∉ch:=fun b u e z=>by rw [(hf b z).1] at e;cases e
 have hn:H p=none:=I.hok.fresh hp
 refine I.step (g':=s.gens) (d':=s.drawn) (ch:=ch) (fun b hb=>?_) (fun b o _ _ hc e _=>k b o hc e) (fun b o _ _ hc e _=>⟨o.slots,k b o hc e⟩) (fun b o _ e n=>?_) (fun b o hc e=>⟨o,k b o hc e⟩)
  (fun b xs e=>?_) (fun b o u e=>?_) (fun b ps e=>⟨#[],?_⟩) (fun m hm=>?_) (fun b u e=>?_) I.bare
 ·obtain ⟨_,h1,h2,h3,h4,h5⟩:=hf b hb
  exact ⟨h3,h1,h4,h5⟩
 ·rw [Aj (Nat.ne_of_lt (Nat.lt_of_lt_of_le (Heap.lt_size e) hp))];exact n
 ·rw [Aj (A6 e hn)];exact e
 ·rw [Aj (A6 e hn)];exact e
 ·rw [Aj (A6 e hn),e];simp
 ·obtain ⟨o,es,ep,ho,rr⟩:=hm
  exact ⟨o,es,ep,k _ o (fun z=>(hf _ z).2.1 rfl) ho,rr⟩
 ·by_cases hb:b=p
  ·subst hb
   rw [Am] at e
   cases e
   exact ⟨hz,⟨us,r,ht.1⟩,ht.2⟩
  ·rw [Aj hb] at e
   refine (I.hok b u e).stay (fun c v hc q=>k c v ?_ q) (fun c q=>?_) fun c xs q=>?_
   ·rcases hc with z | z
    ·rw [z];exact nc b u e
    ·exact nc c _ z
   ·rw [Aj (A6 q hn)];exact q
   ·rw [Aj (A6 q hn)];exact q
theorem Inv.turnedMany {X:Cx} {pins:List (Addr×Obj)} {σ:St} {H:Hp} {s:Shared} {h':Heap} {t':Nat} {ch:List Addr} (I:Inv X pins σ H s) (hf:∀b∈ch,FpOk X pins H b)
  (k:∀b o,b∉ch→s.heap.get? b=some o→h'.get? b=some o):Inv X pins σ H {s with heap:=h',toks:=t'}:=by
 have nc:∀b u,H b=some u→b∉ch:=fun b u e z=>by rw [(hf b z).1] at e;cases e
 refine I.step (g':=s.gens) (d':=s.drawn) (ch:=ch) (fun b hb=>?_) (fun b o _ _ hc e _=>k b o hc e) (fun b o _ _ hc e _=>⟨o.slots,k b o hc e⟩) (fun b o _ e n=>n) (fun b o hc e=>⟨o,k b o hc e⟩)
  (fun b xs e=>e) (fun b o u e=>e) (fun b ps e=>⟨#[],by rw [e];simp⟩) (fun m hm=>?_) (fun b u e=>?_) I.bare
 ·obtain ⟨_,h1,h2,h3,h4,h5⟩:=hf b hb
  exact ⟨h3,h1,h4,h5⟩
 ·obtain ⟨o,es,ep,ho,rr⟩:=hm
  exact ⟨o,es,ep,k _ o (fun z=>(hf _ z).2.1 rfl) ho,rr⟩
 ·refine (I.hok b u e).stay (fun c v hc q=>k c v ?_ q) (fun c q=>q) fun c xs q=>q
  rcases hc with z | z
  ·rw [z];exact nc b u e
  ·exact nc c _ z
theorem L4 {P:Program} {w:World} {K:PySem.W.Frag} {elts:List Expr} {x1} {tpos:Pos} {z a b i j t:Addr} {x:Str} {tk:Tok} (D0:ZAp0 z a b i j):
  Turn P w K (.Tuple elts x1 tpos) (Qs K x t) [z,a,b,i,j] z (ZTn z a b i j t x tk) where
 mem:=by simp
 obj:=fun k h st c hc=>by
  obtain ⟨hz,ha,⟨p,q,hb⟩,⟨o1,e1,_,d1⟩,⟨o2,e2,_,d2⟩⟩:=st
  simp only [List.mem_cons,List.not_mem_nil,or_false] at hc
  rcases hc with rfl | rfl | rfl | rfl | rfl
  ·exact ⟨_,hz,fun v z=>(by cases z)⟩
  ·exact ⟨_,ha,fun v z=>(by cases z)⟩
  ·exact ⟨_,hb,fun v z=>(by cases z)⟩
  ·exact ⟨_,e1,fun v z=>by rw [d1] at z;cases z⟩
  ·exact ⟨_,e2,fun v z=>by rw [d2] at z;cases z⟩
 keep:=fun k h h' st kk=>by
  obtain ⟨hz,ha,⟨p,q,hb⟩,⟨o1,e1,r1⟩,⟨o2,e2,r2⟩⟩:=st
  exact ⟨kk z (by simp) _ hz,kk a (by simp) _ ha,⟨p,q,kk b (by simp) _ hb⟩,⟨o1,kk i (by simp) _ e1,r1⟩,⟨o2,kk j (by simp) _ e2,r2⟩⟩
 item:=fun X eP eW eK hcalm k pins s σ H E I hf st go=>by
  subst eP eW eK
  obtain ⟨ys,hq,hk,hkx⟩:=go
  obtain ⟨hz,ha,⟨p,q,hb⟩,h1,h2⟩:=st
  obtain ⟨its,rv,ht,hzz⟩:=I.tuple hq
  have tap:=fun c (hc:c∈[z,a,b,i,j])=>JA I hq (hf c hc)
  have D:ZAp z a b i j t:=⟨D0.az,D0.bz,D0.iz,D0.jz,D0.ab,D0.ai,D0.aj,D0.bi,D0.bj,D0.ij,tap z (by simp),tap b (by simp),tap i (by simp),tap j (by simp)⟩
  have hy:ys[k]?=some ys[k]:=List.getElem?_eq_getElem hk
  obtain ⟨u,eu,ru⟩:=rv.get hy
  have hc0:x.cps[k]?=some x.cps[k]:=Array.getElem?_eq_getElem hkx
  have hT:s.TypeIs (.ref z) "zip":=⟨_,hz,rfl⟩
  unfold pyNext
  refine wpAny_bind (wpAny_attempt (wpAny_callSpecial?_slot (name:=Str.ofString "__next__") hT PySem.F.slot_zip_next (wpAny_call_entry PySem.F.slot_zip_next hT PySem.F.entry_zip_next
   (KQ D hz ha hb h1 h2 (show s.heap.IsTuple t its.toArray from ht) hc0 (by simpa using eu) fun g n a1 a2 a3 a4 a5 a6 a7=>wpAny_pure ⟨_,rfl,?_⟩) (PySem.F.args_zip_next_1 _))))
  refine wpAny_letOwnedTupleGo_zip a1 fun g' z' s'=>?_
  have hp:H s.heap.objs.size=none:=I.hok.fresh (Nat.le_refl _)
  have zlt:z < s.heap.objs.size:=Heap.lt_size hz
  have k':∀c o,c∉[z,b,i,j]→s.heap.get? c=some o→g'.get? c=some o:=fun c o hc e=>by
   simp only [List.mem_cons,List.not_mem_nil,or_false,not_or] at hc
   exact s'.extBut _ _ hc.1 (a7 c o hc.1 hc.2.1 hc.2.2.1 hc.2.2.2 e)
  have pr:IsPair g' s.heap.objs.size (.str ⟨#[x.cps[k]]⟩ s.toks) u:=s'.extBut _ _ (Nat.ne_of_gt zlt) a5
  have ks:∀c∈[z,b,i,j],c∈[z,a,b,i,j]:=fun c hc=>by
   simp only [List.mem_cons,List.not_mem_nil,or_false] at hc ⊢
   rcases hc with h | h | h | h <;> simp [h]
  have b':IsPair g' b (.str ⟨#[x.cps[k]]⟩ s.toks) u:=s'.extBut _ _ D.bz a2
  have i':g'.IsStrIter i BM x tk (k + 1):=a3.extBut s'.extBut D.iz
  have j':g'.IsTupleIter j t (k + 1):=by
   obtain ⟨o,e,r⟩:=a4
   exact ⟨o,s'.extBut _ _ D.jz e,r⟩
  have I1:Inv X pins σ (upd H s.heap.objs.size (.tup [.str ⟨#[x.cps[k]]⟩,ys[k]])) {s with heap:=g',toks:=n}:=I.turnedNew (ch:=[z,b,i,j]) (fun c hc=>hf c (ks c hc)) k' (fun c hc=>by
   simp only [List.mem_cons,List.not_mem_nil,or_false] at hc
   rcases hc with rfl | rfl | rfl | rfl
   ·exact ⟨_,z'⟩
   ·exact ⟨_,b'⟩
   ·exact ⟨_,i'.choose_spec.1⟩
   ·exact ⟨_,j'.choose_spec.1⟩) (Nat.le_refl _) (us:=[.str ⟨#[x.cps[k]]⟩ s.toks,u]) (.cons ⟨_,rfl⟩ (.cons ru .nil)) (by rw [sizeLine_eq];show 2≤16777216;decide) ⟨⟨_,pr,rfl,_,rfl⟩,_,pr,rfl⟩
  refine ⟨.ref s.heap.objs.size,_,I1,rfl,⟨_,x.cps[k],ys[k],hp,rfl,rfl,hc0,fun zs hzs=>?_⟩,⟨z',k' a _ (by simp [D0.az,D0.ab,D0.ai,D0.aj]) ha,⟨_,_,b'⟩,i',j'⟩,fun c hc=>?_⟩
  ·rw [I.tuple_inj hzs hq];exact hy
  ·have hcn:=(hf c hc).1
   have:c≠s.heap.objs.size:=fun e=>by
    obtain ⟨o,eo⟩:∃o,s.heap.get? c=some o:=by
     simp only [List.mem_cons,List.not_mem_nil,or_false] at hc
     rcases hc with rfl | rfl | rfl | rfl | rfl
     ·exact ⟨_,hz⟩
     ·exact ⟨_,ha⟩
     ·exact ⟨_,hb⟩
     ·exact ⟨_,h1.choose_spec.1⟩
     ·exact ⟨_,h2.choose_spec.1⟩
    exact absurd (Heap.lt_size eo) (by rw [e];exact Nat.lt_irrefl _)
   rw [Aj this];exact hcn
 done:=fun X eP eW eK hcalm k pins s σ H E I hf st stp=>by
  subst eP eW eK
  obtain ⟨hz,ha,⟨p,q,hb⟩,h1,h2⟩:=st
  have stp:x.cps.size≤k:=stp
  have hT:s.TypeIs (.ref z) "zip":=⟨_,hz,rfl⟩
  unfold pyNext
  refine wpAny_bind (wpAny_attempt (wpAny_callSpecial?_slot (name:=Str.ofString "__next__") hT PySem.F.slot_zip_next (wpAny_call_entry PySem.F.slot_zip_next hT PySem.F.entry_zip_next
   (Lx (I.ok.hd hcalm) D0.iz hz ha h1 (Array.getElem?_eq_none stp) fun g e kk he=>?_) (PySem.F.args_zip_next_1 _))))
  obtain ⟨o,ho,hc⟩:=he
  refine wpAny_bind (wpAny_isInstance (T:="StopIteration") (b:=true) ⟨o,ho,hc⟩ isSubtype_stop (wpAny_pure ⟨rfl,?_⟩))
  refine I.turnedMany (t':=s.toks) (ch:=[z,b,i,j]) (fun c hc=>hf c ?_) fun c o hc e=>?_
  ·simp only [List.mem_cons,List.not_mem_nil,or_false] at hc ⊢
   rcases hc with h | h | h | h <;> simp [h]
  ·simp only [List.mem_cons,List.not_mem_nil,or_false,not_or] at hc
   exact kk c o hc.1 hc.2.1 hc.2.2.1 hc.2.2.2 e
 self:=fun A k s Q E st hQ=>wpAny_pyIter_zip st.1 hQ
abbrev zs1 (h:Heap) (x:Str) (tk:Tok):Heap:=h.push {cls:=.type (strIterType x),data:=.fields #[.str x tk,.int 0 0]}
abbrev zs2 (h:Heap) (x:Str) (tk:Tok) (t:Addr):Heap:=(zs1 h x tk).push {cls:=.type "tuple_iterator",data:=.fields #[.ref t,.int 0 0]}
abbrev zs3 (h:Heap) (x:Str) (tk:Tok) (t:Addr):Heap:=(zs2 h x tk t).push {cls:=.type "tuple",data:=.seq #[.ref h.objs.size,.ref (zs1 h x tk).objs.size]}
abbrev zs4 (h:Heap) (x:Str) (tk:Tok) (t:Addr):Heap:=(zs3 h x tk t).push {cls:=.type "tuple",data:=.seq #[.none,.none]}
abbrev zs5 (h:Heap) (x:Str) (tk:Tok) (t:Addr):Heap:=(zs4 h x tk t).push {cls:=.type "zip",data:=.fields #[.none,.bool false,.bool false,.ref (zs2 h x tk t).objs.size,.ref (zs3 h x tk t).objs.size]}
theorem Kq (x:Str) (tk:Tok) (t:Addr) (ys:Array Value):Meets (Builtin.«zip.__new__» ⟨[.type "zip",.str x tk,.ref t],[]⟩) (fun _ R s=>s.heap.IsTuple t ys∧R (.ok (.ret (.ref (zs4 s.heap x tk t).objs.size))) {s with heap:=zs5 s.heap x tk t}):=
 .of_wp fun prog w A R s h=>by
  obtain ⟨hp,g,d,tk',os⟩:=s;obtain ⟨hl,h⟩:=h
  have hsub:=sub_zip
  have hL:Heap.IsTuple (Shared.heap ⟨hp.push {cls:=.type (strIterType x),data:=.fields #[.str x tk,.int 0 0]},g,d,tk',os⟩) t ys:=by
   obtain ⟨o,e,r⟩:=hl
   exact ⟨o,Heap.get?_push_of_some _ e,r⟩
  wp_walk using wpAny_pyIter_strU,wpAny_pyIter_tuple hL
  exact ⟨_,rfl,h⟩
theorem Il {prog:Program} {w:World} {A:Around} {E:Value→Shared→Prop} {s:Shared} {x:Str} {tk:Tok} {t:Addr} {ys:Array Value} {Q:Value→Shared→Prop} (hx:strIterType x=BM) (ht:s.heap.IsTuple t ys)
  (h:∀g,ZTn (s.heap.objs.size + 4) (s.heap.objs.size + 2) (s.heap.objs.size + 3) s.heap.objs.size (s.heap.objs.size + 1) t x tk 0 g→(∀c o,s.heap.get? c=some o→g.get? c=some o)→Q (.ref (s.heap.objs.size + 4)) {s with heap:=g}):
  wpAny (model prog w) A (call (.type "zip") [.str x tk,.ref t]) Q E s:=by
 refine callType_new PySem.F.called_zip (by decide) (PySem.F.typeCall_zip_2 _ _) (PySem.F.newCall_zip_2 _ _) (fun obj=>PySem.F.args_object_init_3 obj _ _) PySem.F.entry_zip_new (Kq x tk t ys) ⟨ht,?_⟩
 have z1:(zs1 s.heap x tk).objs.size=s.heap.objs.size + 1:=Heap.size_push ..
 have z2:(zs2 s.heap x tk t).objs.size=s.heap.objs.size + 2:=by rw [Heap.size_push,z1]
 have z3:(zs3 s.heap x tk t).objs.size=s.heap.objs.size + 3:=by rw [Heap.size_push,z2]
 have z4:(zs4 s.heap x tk t).objs.size=s.heap.objs.size + 4:=by rw [Heap.size_push,z3]
 have g5:(zs5 s.heap x tk t).get? (zs4 s.heap x tk t).objs.size=some _:=Heap.get?_push_size _ rfl
 have g4:(zs5 s.heap x tk t).get? (zs3 s.heap x tk t).objs.size=some _:=Heap.get?_push_of_some _ (Heap.get?_push_size _ rfl)
 have g3:(zs5 s.heap x tk t).get? (zs2 s.heap x tk t).objs.size=some _:=Heap.get?_push_of_some _ (Heap.get?_push_of_some _ (Heap.get?_push_size _ rfl))
 have g2:(zs5 s.heap x tk t).get? (zs1 s.heap x tk).objs.size=some _:=Heap.get?_push_of_some _ (Heap.get?_push_of_some _ (Heap.get?_push_of_some _ (Heap.get?_push_size _ rfl)))
 have g1:(zs5 s.heap x tk t).get? s.heap.objs.size=some _:=Heap.get?_push_of_some _ (Heap.get?_push_of_some _ (Heap.get?_push_of_some _ (Heap.get?_push_of_some _ (Heap.get?_push_size _ rfl))))
 show _∧_
 rw [z2,z3,z4] at g5
 rw [z1,z2] at g3
 rw [z3] at g4
 rw [z1] at g2
 rw [z4]
 rw [hx] at g1
 exact ⟨⟨_,g5,rfl⟩,h _ ⟨g5,g3,⟨_,_,g4⟩,⟨_,g1,rfl,rfl⟩,⟨_,g2,rfl,rfl⟩⟩ fun c o y=>Heap.get?_push_of_some _ (Heap.get?_push_of_some _ (Heap.get?_push_of_some _ (Heap.get?_push_of_some _ (Heap.get?_push_of_some _ y))))⟩
section
variable {X:Cx} {G:Gam} {a b:Expr} {pos p:Pos}
def zipD (q:Nat×PyData):PyData:=.tuple [.str ⟨#[q.1]⟩,q.2]
theorem LJ {elts:List Expr} {x1} {tpos:Pos} {x:Str} {ds:List PyData} (ha:EV X G a (.str x)) (hb:EV X G b (.tuple ds)) (hx:strIterType x=BM) (hl:x.cps.size=ds.length) (hg:Gl X "zip") (hm:X.mg "zip"=none)
  (hs:starEach [a,b] X.env=[(false,eval a X.env),(false,eval b X.env)]:=by rfl) (hs2:starEach [b] X.env=[(false,eval b X.env)]:=by rfl):
  IV X G (.Tuple elts x1 tpos) (.Call (.Name "zip" p) [a,b] [] pos) ((x.cps.toList.zip ds).map zipD):=by
 intro pins s σ H R I ⟨h,q⟩
 refine Call_ (Eb I hg hm boot_zip (PyProof.Rows.callWith_type1 (thn (Aa ha (Aa hb Ac hs2) (by rw [hs,hs2]) pos pins s σ H _ I ⟨h,fun vs H' s' dv=>(⟨s',dv⟩:Same H H'∧DVs X.K H' vs [.str x,.tuple ds])⟩) fun us s1 ⟨vs,H1,I1,r1,s1',dv⟩=>?_) (by rw [hs,hs2]) (by rw [hs2];rfl)))
 obtain ⟨v1,v2,rfl,d1,d2⟩:=dv.two
 cases d1.of_str
 obtain ⟨t,ys,rfl,hq,dys⟩:=d2.of_tup
 obtain ⟨u1,u2,rfl,⟨tk,rfl⟩,ru2⟩:=vals2 r1
 cases ru2
 obtain ⟨its,rv,ht,_⟩:=I1.tuple hq
 refine Il hx (show s1.heap.IsTuple t its.toArray from ht) fun g zt kk=>?_
 refine wpAny_pyIter_zip zt.1 ?_
 have I2:Inv X pins σ H1 {s1 with heap:=g}:=I1.kept (t':=s1.toks) kk
 have sz:∀n,s1.heap.objs.size≤s1.heap.objs.size + n:=fun n=>Nat.le_add_right _ _
 refine ⟨_,_,_,_,H1,rfl,I2,L4 (K:=X.K) (x:=x) (t:=t) (tk:=tk) (z:=s1.heap.objs.size + 4) (a:=s1.heap.objs.size + 2) (b:=s1.heap.objs.size + 3) (i:=s1.heap.objs.size) (j:=s1.heap.objs.size + 1) ⟨?_,?_,?_,?_,?_,?_,?_,?_,?_,?_⟩,zt,fun c hc=>?_,q _ H1 s1' ⟨fun k H2 s2 hk=>?_,fun k H2 v H3 s2 hk ⟨r,c,y,hr,ev,eH,ec,ey⟩=>?_,fun k H2 s2 hk=>?_⟩⟩
 all_goals first
  | exact Nat.ne_of_lt (Nat.add_lt_add_left (by decide) _)
  | exact Nat.ne_of_gt (Nat.add_lt_add_left (by decide) _)
  | exact Nat.ne_of_lt (Nat.lt_add_of_pos_right (by decide))
  | exact Nat.ne_of_gt (Nat.lt_add_of_pos_right (by decide))
  | skip
 ·simp only [List.mem_cons,List.not_mem_nil,or_false] at hc
  rcases hc with rfl | rfl | rfl | rfl | rfl
  ·exact I1.fpOk (sz 4) (I1.hok.fresh (sz 4))
  ·exact I1.fpOk (sz 2) (I1.hok.fresh (sz 2))
  ·exact I1.fpOk (sz 3) (I1.hok.fresh (sz 3))
  ·exact I1.fpOk (Nat.le_refl _) (I1.hok.fresh (Nat.le_refl _))
  ·exact I1.fpOk (sz 1) (I1.hok.fresh (sz 1))
 ·have hk':k < ds.length:=by
   rw [List.length_map,List.length_zip,Array.length_toList,hl] at hk
   omega
  exact ⟨ys,s2.seqT hq,by rw [dys.length];exact hk',by rw [hl];exact hk'⟩
 ·have hk':k < ds.length:=by
   rw [List.length_map,List.length_zip,Array.length_toList,hl] at hk
   omega
  subst ev eH
  have e1:=ey ys (s2.seqT hq)
  obtain ⟨d,e2,e3⟩:=dys.get' e1
  refine ⟨Same.new hr,zipD (c,d),?_,.tup (SqT.of Am) (.cons (.str _) (.cons ((e3.mono s2).mono (Same.new hr)) .nil))⟩
  rw [List.getElem?_map,show (x.cps.toList.zip ds)[k]?=some (c,d) from by
   rw [List.getElem?_zip_eq_some]
   exact ⟨by simpa using ec,e2⟩]
  rfl
 ·show x.cps.size≤k
  rw [List.length_map,List.length_zip,Array.length_toList,hl] at hk
  omega
end
end L2
namespace PySem.SeqAt
open AutoSeq1 (wpAny_loadPart')
open MeetsSeq MeetsSeq2 MeetsSeq3 SeqRoads2
theorem tuple_index1 (l:Addr) (items:Array Value) (n:Nat) (dd:Option Addr) (sl:Array (Option Value)) (x:Value) (e:Nat→Bool) (j:Nat) (hj:j < items.size) (hit:e j=true) (hno:∀m,m < j→e m=false):
  Meets (Builtin.«tuple.index» ⟨[.ref l,x],[]⟩)
   (fun A R s=>s.heap.get? l=some {cls:=.type "tuple",dict:=dd,data:=.seq items n,slots:=sl}∧(∀k (h:k < items.size),EqAt A.in1 s items[k] x (e k))∧R (.ok (.ret (.int j s.toks))) {s with toks:=s.toks + 1}):=
 .of_wp fun prog w A R s h=>by
  obtain ⟨hp,g,d,tk,os⟩:=s;obtain ⟨hl,he,h⟩:=h
  wp_walk using wpAny_loadPart' hl
  change wpAny (model prog w) A.in1 (forIn (m:=Sem) [:min items.size items.size] ((none,()):Option Fin×Unit) (fun (i:Nat) _=>match items[i]? with
   | some y=>do
     let r ←eqBool y x
     if r=true then do
      let v ←retInt (i:Int)
      pure (ForInStep.done (some v,()))
     else pure (ForInStep.yield (none,()))
   | _=>pure (ForInStep.yield (none,())))) _ _ _
  rw [Std.Legacy.Range.forIn_eq_forIn_range']
  have hr:List.range' [:min items.size items.size].start [:min items.size items.size].size [:min items.size items.size].step=List.range items.size:=by
   simp [Std.Legacy.Range.size,List.range_eq_range']
  rw [hr]
  refine wpAny_forIn_list _ (fun rest b s'=>b.1=none∧s'=⟨hp,g,d,tk,os⟩∧∃i,i≤j∧rest=(List.range items.size).drop i) _ ?_ ?_ _ _ ⟨rfl,rfl,0,Nat.zero_le _,by simp⟩
  ·rintro k rest b s' ⟨hb,rfl,i,hij,hz⟩
   have hlt:i < items.size:=by omega
   have hd:(List.range items.size).drop i=i::(List.range items.size).drop (i + 1):=by simp [List.drop_eq_getElem_cons,hlt]
   rw [hd] at hz
   injection hz with h1 h2
   subst h1
   have hi:items[k]?=some items[k]:=Array.getElem?_eq_getElem hlt
   rw [hi]
   refine wpAny_bind (he k hlt prog w _ _ ?_)
   by_cases hk:k=j
   ·subst hk
    rw [hit]
    wp_walk
    exact ⟨_,rfl,h⟩
   ·rw [hno k (by omega)]
    wp_walk
    exact ⟨rfl,rfl,k + 1,by omega,h2⟩
  ·rintro ⟨b1,b2⟩ s' ⟨hb,rfl,i,hij,hz⟩
   have hlt:i < items.size:=by omega
   have hd:(List.range items.size).drop i=i::(List.range items.size).drop (i + 1):=by simp [List.drop_eq_getElem_cons,hlt]
   rw [hd] at hz
   cases hz
end PySem.SeqAt
namespace L2
open PySem PySem.Spec PyProof.Rows
def GTup (K:PySem.W.Frag) (mg:Str→Option Value) (x:Str) (ss:List Str):Prop:=
 ∃(a:Addr) (o:Obj) (its:Array Value) (n:Nat),mg x=some (.ref a)∧K.lookup a=some o∧o.cls=.type "tuple"∧o.dict=none∧o.data=.seq its n∧its.size≤sizeLine∧Vals (ss.map V.str) its.toList
def Ep (K:PySem.W.Frag) (mg:Str→Option Value) (P:Params) (x:Str) (tab:List (Str×PyData)):Prop:=
 ∃(a:Addr) (es:Array DictEntry) (n:Nat),mg x=some (.ref a)∧K.lookup a=some ⟨.type "dict",none,.dict es n,#[]⟩∧PySem.W.KeysLit P es.toList∧∀q∈tab,∃u v,PySem.W.nsIn K a q.1=some (some u)∧RelV v u∧∀H,DV K H v q.2
theorem DVs.strs {K:PySem.W.Frag} {H:Hp}:∀(ss:List Str),DVs K H (ss.map V.str) (ss.map PyData.str)
 | []=>.nil
 | x::r=>.cons (.str x) (DVs.strs r)
section
variable {X:Cx} {G:Gam} {a b e:Expr} {pos p p2:Pos} {d:PyData} {x:Str}
theorem G5 {ss:List Str} (T:GTup X.K X.mg x ss) (hg:Gl X x) (hd:(x==("__debug__":Str))=false:=by decide):EV X G (.Name x pos) (.tuple (ss.map PyData.str)):=by
 obtain ⟨ad,o,its,n,hm,hk,hc,hd0,hs,hz,r⟩:=T
 exact (E4 (v:=.ref ad) hg hm rfl hd).imp fun σ H Q ⟨h,q⟩=>q _ H (Same.refl H) (.tup (.inr ⟨o,its,n,hk,hc,hs,hd0,hz,r⟩) (DVs.strs ss))
theorem Bq {tab:List (Str×PyData)} {s:Str} (T:Ep X.K X.mg X.w.params x tab) (hg:Gl X x) (he:EV X G e (.str s)) (hs:(s,d)∈tab) (hp:EE e:=by intro _ _;rfl) (hd:(x==("__debug__":Str))=false:=by decide):EV X G (.Subscript (.Name x p) e pos) d:=by
 obtain ⟨ad,es,n,hm,hk,hl,ht⟩:=T
 obtain ⟨u,v,h1,h2,h3⟩:=ht _ hs
 have ir:IxR X (fun y z H Q=>y=.ref ad∧z=.str s∧Q v H):=by
  intro value slice pins s1 σ H y z vy vz Q I ry rz ⟨e1,e2,q⟩ hsub
  subst e1 e2
  cases ry
  obtain ⟨t,rfl⟩:=rz
  have mo:=PySem.W.mapOf_K (prog:=X.prog) (w:=X.w) I.kIn hk hl
  exact tail_any mo.typeIs slot_dict_getitem.lookup (wpAny_getItem_of (strKind_is X.prog X.w s t) mo (PySem.W.find_K hk h1) ⟨v,H,I.tok _,h2,q⟩) hsub
 exact (Mh ir (E4 (v:=.ref ad) hg hm rfl hd) he hp).imp fun σ H Q ⟨h,q⟩=>⟨h,fun y H1 s1 d1=>⟨rfl,d1.of_str,q v H1 s1 (h3 H1)⟩⟩
theorem Lh {i j:Str} {k:Bool} (hk:(!(Builtin.Str.occurrences j i 0 j.length 1).isEmpty)=k):OD X (compareOp .In) (.str i) (.str j) (.bool k):=
 op_in_str.imp fun y z H Q ⟨h1,h2,q⟩=>⟨i,j,h1.of_str,h2.of_str,q _ H (Same.refl H) (by rw [hk];exact .bl k)⟩
theorem Ky {ss:List Str} {s:Str} {j:Nat} {apos:Pos} (T:GTup X.K X.mg x ss) (hg:Gl X x) (he:EV X G e (.str s)) (hj:ss[j]?=some s) (hno:∀m,m < j→ss[m]?≠some s) (hd:(x==("__debug__":Str))=false:=by decide)
  (hb:attributeBase (.Name x p2) "index" X.env (eval (.Name x p2) X.env)=eval (.Name x p2) X.env:=by rfl)
  (hfew:((backTo pos (starEach [e] X.env)).all (fun x=>!x.1) && (backToKw pos (keywordEach [] X.env)).all (fun x=>x.1.isSome)
   && decide ([e].length + ([]:List Keyword).length + (if ([]:List Keyword).isEmpty then 0 else 1) < 30))=true:=by rfl)
  (hline:(apos.endLine==pos.line)=true:=by rfl) (hs:starEach [e] X.env=(false,eval e X.env)::starEach [] X.env:=by rfl) (hpl:(backTo pos (starEach [] X.env)).any (·.1)=false:=by rfl):
  EV X G (.Call (.Attribute (.Name x p2) "index" apos) [e] [] pos) (.int j):=by
 obtain ⟨ad,o,its,n,hm,hk,hc,hdn,hsq,hz,r⟩:=T
 have mr:MtR X "tuple.index" (fun y ys H Q=>y=.ref ad∧ys=[.str s]∧Q (.int j) H):=by
  intro pins s1 σ H y ys v us Q I ry rys ⟨e1,e2,q⟩
  subst e1 e2
  cases ry
  obtain ⟨u,rfl,ru⟩:=vals1 rys
  have hjl:j < ss.length:=(List.getElem?_eq_some_iff.mp hj).1
  have hsz:its.size=ss.length:=by
   have:=r.length
   rw [List.length_map,Array.length_toList] at this
   exact this.symm
  have ho:=I.kIn ad o hk
  obtain ⟨oc,od,odt,osl⟩:=o
  simp only at hc hdn hsq
  subst hc hdn hsq
  refine call_meets PySem.F.slot_tuple_index ⟨_,ho,rfl⟩ PySem.F.entry_tuple_index (PySem.F.args_tuple_index_2 _ _) (PySem.SeqAt.tuple_index1 ad its n none osl u (fun k=>decide (ss[k]?=some s)) j (by rw [hsz];exact hjl) (decide_eq_true hj) (fun m hm=>decide_eq_false (hno m hm)))
   ⟨ho,fun k hk2=>?_,⟨.int j,H,I.tok _,⟨_,rfl⟩,q⟩⟩
  have hk3:k < ss.length:=by rw [←hsz];exact hk2
  obtain ⟨u2,eu,ru2⟩:=r.get (i:=k) (x:=V.str ss[k]) (by simp [hk3])
  have e3:its[k]=u2:=by
   have:its.toList[k]?=some its[k]:=by simp [hk2]
   rw [this] at eu
   exact Option.some.inj eu
  rw [e3]
  have:=II (A:=X.A.in1) (s:=s1) ru2 ru rfl rfl
  have e4:eqV (.str ss[k]) (.str s)=decide (ss[k]?=some s):=by
   show (ss[k]==s)=_
   rw [Bool.eq_iff_iff]
   simp [hk3]
  rw [←e4]
  exact this
 refine (Jy PySem.F.plainAttrs_tuple PySem.F.slot_tuple_index PySem.F.type_tuple_index mr (E4 (v:=.ref ad) hg hm rfl hd) (Aa he Ac hs) hb hfew hline hs hpl).imp fun σ H Q ⟨h,q⟩=>⟨.inr (.inl ⟨rfl,o,hk,hc,hdn⟩),h,fun vs H1 s1 d1=>?_⟩
 obtain ⟨v,rfl,dv⟩:=d1.one
 exact ⟨rfl,by rw [dv.of_str],q _ H1 s1 (.int j)⟩
def QD (x:Str):It:=⟨fun k _=>k < x.cps.size,fun k H v H'=>H'=H∧∃c,x.cps[k]?=some c∧v=.str ⟨#[c]⟩,fun k _=>x.cps.size≤k⟩
theorem L6 {P:Program} {w:World} {K:PySem.W.Frag} {tg:Expr} (it:Addr) (x:Str) (tk:Tok):Turn P w K tg (QD x) [it] it (fun k h=>h.IsStrIter it BM x tk k) where
 mem:=by simp
 obj:=fun k h st c hc=>by
  obtain ⟨o,e,_,d⟩:=st
  have:c=it:=by simpa using hc
  subst this
  exact ⟨o,e,fun v z=>by rw [d] at z;cases z⟩
 keep:=fun k h h' st kk=>by
  obtain ⟨o,e,r⟩:=st
  exact ⟨o,kk it (by simp) _ e,r⟩
 item:=fun X eP eW eK hcalm k pins s σ H E I hf st go=>by
  subst eP eW eK
  have go:k < x.cps.size:=go
  have hc0:x.cps[k]?=some x.cps[k]:=Array.getElem?_eq_getElem go
  refine wpAny_pyNext_ascii_item st hc0 fun h' st' sb=>⟨_,rfl,?_⟩
  obtain ⟨o,ho,hcl,hd⟩:=st'
  obtain ⟨f0,f1,f2,f3,f4,f5⟩:=hf it (by simp)
  refine KS ho hcl hd (by decide +kernel) ⟨.str ⟨#[x.cps[k]]⟩,H,I.turned (t':=s.toks + 1) (it:=it) (fun b o hb e=>sb.extBut b o hb e) f0 f1 f3 f4 f5,⟨_,rfl⟩,⟨rfl,_,hc0,rfl⟩,⟨o,ho,hcl,hd⟩,fun b hb=>(hf b hb).1⟩
 done:=fun X eP eW eK hcalm k pins s σ H E I hf st stp=>by
  subst eP eW eK
  have stp:x.cps.size≤k:=stp
  obtain ⟨f0,f1,f2,f3,f4,f5⟩:=hf it (by simp)
  exact wpAny_pyNext_ascii_end (I.ok.hd hcalm) st (Array.getElem?_eq_none stp) fun h' ex=>⟨rfl,I.turned (t':=s.toks) (it:=it) (fun b o hb e=>ex b o hb e) f0 f1 f3 f4 f5⟩
 self:=fun A k s Q E st hQ=>wpAny_pyIter_striter_ascii st hQ
def K9 (c:Nat):PyData:=.str ⟨#[c]⟩
theorem Od {tg:Expr} {x:Str} (ha:EV X G a (.str x)) (hx:strIterType x=BM):IV X G tg a (x.cps.toList.map K9):=by
 intro pins s σ H R I ⟨h,q⟩
 refine thn (ha pins s σ H (fun v H'=>Same H H'∧DV X.K H' v (.str x)) I ⟨h,fun v H' s' dv=>⟨s',dv⟩⟩) fun v s1 ⟨y,H1,I1,r1,s1',dv⟩=>?_
 cases dv.of_str
 obtain ⟨tk,rfl⟩:=r1
 refine wpAny_pyIter_strU ?_
 rw [hx]
 refine ⟨s1.heap.objs.size,[s1.heap.objs.size],_,_,H1,rfl,I1.kept (t':=s1.toks) fun b o e=>Heap.get?_push_of_some _ e,L6 s1.heap.objs.size x tk,⟨_,Heap.get?_push_size _ rfl,rfl,rfl⟩,fun b hb=>?_,q _ H1 s1' ⟨fun k H2 s2 hk=>?_,fun k H2 v H3 s2 hk ⟨e,c,ec,ev⟩=>?_,fun k H2 s2 hk=>?_⟩⟩
 ·have e:b=s1.heap.objs.size:=by simpa using hb
  subst e
  exact I1.fpOk (Nat.le_refl _) (I1.hok.fresh (Nat.le_refl _))
 ·rw [List.length_map,Array.length_toList] at hk
  exact hk
 ·subst e ev
  refine ⟨Same.refl _,K9 c,?_,.str _⟩
  rw [List.getElem?_map,show x.cps.toList[k]?=some c from by simpa using ec]
  rfl
 ·rw [List.length_map,Array.length_toList] at hk
  exact hk
end
def tFR (K:PySem.W.Frag) (G:Gam) (ws:List PyData):TS:=fun D σ H=>SD K H σ G∧∀p us H',H p=none→Same H H'→H' p=some (.lst us)→DVs K H' us ws→D.rt (.ref p) H'
abbrev FRs (X:Cx) (G:Gam) (sts:List Stmt) (ws:List PyData):Prop:=PSs X sts (tFR X.K G ws)
def spFL (K:PySem.W.Frag) (F:List PyData→List PyData→Prop):Sp:=fun vs H Q _=>∃ds ws,DVs K H vs ds∧F ds ws∧∀p us H',H p=none→Same H H'→H' p=some (.lst us)→DVs K H' us ws→Q (.ref p) H'
def FFn (P:Program) (w:World) (K:PySem.W.Frag) (mg:Str→Option Value) (base:Heap) (k:Nat) (x:Str) (F:List PyData→List PyData→Prop):Prop:=
 ∃f fd ps,FnOk P w K mg base CX0 k f fd ps (spFL K F)∧mg x=some (.ref f)∧PySem.W.keepIn K (.ref f)=true∧Binds K fd ps []
theorem FFn.data {P:Program} {w:World} {K:PySem.W.Frag} {mg:Str→Option Value} {base:Heap} {k:Nat} {x:Str} {F:List PyData→List PyData→Prop} (h:FFn P w K mg base k x F):DFn P w K mg base k x (fun ds d=>∃ws,F ds ws∧d=.list ws):=by
 obtain ⟨f,fd,ps,ok,r⟩:=h
 exact ⟨f,fd,ps,ok.imp fun vs H Q E ⟨ds,d,h1,⟨ws,h2,e⟩,q⟩=>⟨ds,ws,h1,h2,fun p us H' hp s' hl dv=>q _ H' s' (by rw [e];exact .lst (SqL.of hl) dv)⟩,r⟩
section
variable {X:Cx} {G:Gam} {c e:Expr} {es:List Expr} {pos pos' pos2:Pos} {ws:List PyData} {sts A B:List Stmt}
theorem Lw (h:AV X G es ws) (hz:ws.length≤sizeLine):FRs X G (.Return (some (.List es pos2)) pos::sts) ws:=
 (A4 (Ed (GO h)) (AD (sts:=sts))).imp fun D σ H ⟨h,q⟩=>⟨h,fun vs H1 s1 d1=>⟨by rw [d1.length];exact hz,fun p hp=>q p vs _ (s1.free hp) (s1.trans (Same.new hp)) Am (d1.mono (Same.new hp))⟩⟩
theorem Js {st:Stmt} {G1:Gam} (h1:SV X G st (.next G1)) (h2:FRs X G1 sts ws):FRs X G (st::sts) ws:=
 (A4 h1 h2).imp fun D σ H ⟨h,q⟩=>⟨h,fun σ' H' s' h'=>⟨h',fun p us H2 hp s2 hl dv=>q p us H2 (s'.free hp) (s'.trans s2) hl dv⟩⟩
theorem Pe (hc:TV X G c true) (h1:FRs X G A ws):FRs X G (.If c A B pos::sts) ws:=
 (A4 (DE hc h1 (AD (sts:=B))) (AD (sts:=sts))).imp fun D σ H ⟨h,q⟩=>⟨h,fun H1 s1=>iteT ⟨h.mono s1,fun p us H2 hp s2 hl dv=>q p us H2 (s1.free hp) (s1.trans s2) hl dv⟩⟩
end
section
variable {P:Program} {w:World} {K:PySem.W.Frag} {mg:Str→Option Value} {base:Heap}
theorem Fun.dataF {x qual:Str} {st:Stmt} {f:Addr} {fd:FuncData} {N ps:List Str} {k:Nat} {F:List PyData→List PyData→Prop} (F0:Fun K x qual st f fd) (hm:mg x=some (.ref f)) (hb:Binds K fd ps []) (S:FnScope N ps (Ae st)) (len:∀ds d,F ds d→ds.length=ps.length)
  (hbody:∀(cdv:Value) (A:Around) (outer:List Env) (s:Shared) (H:Hp) (E:XK) (ds ws:List PyData),Room k (A.deeper (envOfC qual (Ae st) s.heap.objs.size f cdv))→F ds ws→
   FRs (cxOf CX0 P w K mg base N qual (Ae st) f cdv A outer s H E).nox (AO N ds) (AG st) ws):FFn P w K mg base (k + 1) x F:=
 ⟨f,fd,ps,F0.ok S (fun vs H Q E ⟨ds,d,h1,h2,_⟩=>h1.length.trans (len ds d h2)) (fun cdv A outer s H vs Q E hr ⟨ds,ws,h1,h2,q⟩=>⟨_,hbody cdv A outer s H E ds ws hr h2,SD.start h1,q⟩),hm,F0.kp,hb⟩
end
section
variable {X:Cx} {G G2:Gam} {e:Expr} {es:List Expr} {pos pos' pos2:Pos} {ws ds:List PyData} {sts:List Stmt} {i:Nat} {x y:Str}
def tDF (K:PySem.W.Frag) (G:Gam) (ws:List PyData):TE:=fun σ H Q=>SD K H σ G∧∀p us H',H p=none→Same H H'→H' p=some (.lst us)→DVs K H' us ws→Q (.ref p) H'
abbrev EVF (X:Cx) (G:Gam) (e:Expr) (ws:List PyData):Prop:=PE X e (tDF X.K G ws)
end
section
variable {X:Cx} {G:Gam} {a:Expr} {pos:Pos} {da:PyData}
theorem Gz {j pos'} {k:Bool} (ha:EV X G a da) (hk:nonD da=k):TV X G (.Compare a [.Is] [.Constant .none j pos'] pos) k:=
 (Pa (Ox ha)).imp fun σ H Q ⟨h,q⟩=>⟨h,fun v H' s' dv=>⟨k,by rw [dv.isNon,hk],q H' s'⟩⟩
end
def Jp:List Str→List Value→Bool
 | [],[]=>true
 | s::r,v::q=>v.isStr s && Jp r q
 | _,_=>false
def valB:Value→PyData→Bool
 | .str x _,.str y=>x==y
 | .int i _,.int j=>i==j
 | _,_=>false
def tabB:List (Str×PyData)→List DictEntry→Bool
 | [],[]=>true
 | q::r,e::es=>e.key.isStr q.1 && valB e.val q.2 && tabB r es
 | _,_=>false
theorem DM {v:Value} {s:Str} (h:v.isStr s=true):∃t,v=.str s t:=by
 cases v with
 | str x t=>exact ⟨t,by rw [eq_of_beq (show (x==s)=true from h)]⟩
 | _=>cases h
theorem Fk:∀{ss:List Str} {us:List Value},Jp ss us=true→Vals (ss.map V.str) us
 | [],[],_=>.nil
 | s::r,v::q,h=>by
   have h:=Bool.and_eq_true_iff.mp (show (v.isStr s && Jp r q)=true from h)
   exact .cons (DM h.1) (Fk h.2)
 | [],_::_,h=>by cases h
 | _::_,[],h=>by cases h
theorem gtup_mk {K:PySem.W.Frag} {mg:Str→Option Value} {h:Heap} (X:K.In h) (G:h.Ns mainGlobals mg) {x:Str} {ss:List Str} {a:Addr} {its:Array Value} {n:Nat} {sl:Array (Option Value)}
  (z:PySem.W.nsIn K mainGlobals x=some (some (.ref a))) (l:K.lookup a=some ⟨.type "tuple",none,.seq its n,sl⟩) (hs:decide (its.size≤1000)=true) (hv:Jp ss its.toList=true):GTup K mg x ss:=
 ⟨a,_,its,n,PySem.W.mg_of X G z,l,rfl,rfl,rfl,by rw [sizeLine_eq];have:=of_decide_eq_true hs;omega,Fk hv⟩
theorem LV {u:Value} {d:PyData} (h:valB u d=true):∃v,RelV v u∧∀(K:PySem.W.Frag) H,DV K H v d:=by
 cases u with
 | str x t=>cases d with
   | str y=>exact ⟨.str y,⟨t,by rw [eq_of_beq (show (x==y)=true from h)]⟩,fun _ _=>.str y⟩
   | _=>cases h
 | int x t=>cases d with
   | int y=>exact ⟨.int y,⟨t,by rw [eq_of_beq (show (x==y)=true from h)]⟩,fun _ _=>.int y⟩
   | _=>cases h
 | _=>cases h
theorem FK:∀{tab:List (Str×PyData)} {es:List DictEntry},tabB tab es=true→(tab.map (·.1)).Nodup→∀q∈tab,∃e,es.find? (·.key.isStr q.1)=some e∧valB e.val q.2=true
 | [],[],_,_,q,hq=>by cases hq
 | [],_::_,h,_,_,_=>by cases h
 | _::_,[],h,_,_,_=>by cases h
 | p::r,e::es,h,hn,q,hq=>by
   have h:=Bool.and_eq_true_iff.mp (show (e.key.isStr p.1 && valB e.val p.2 && tabB r es)=true from h)
   have h1:=Bool.and_eq_true_iff.mp h.1
   rw [List.map_cons,List.nodup_cons] at hn
   rcases List.mem_cons.mp hq with rfl | hq
   ·exact ⟨e,by rw [List.find?_cons,h1.1],h1.2⟩
   ·obtain ⟨e',f1,f2⟩:=FK h.2 hn.2 q hq
    refine ⟨e',?_,f2⟩
    have:e.key.isStr q.1=false:=by
     obtain ⟨t,e1⟩:=DM h1.1
     rw [e1]
     refine beq_eq_false_iff_ne.mpr fun c=>hn.1 ?_
     rw [c]
     exact List.mem_map.mpr ⟨q,hq,rfl⟩
    rw [List.find?_cons,this]
    exact f1
theorem gdict_mk {K:PySem.W.Frag} {mg:Str→Option Value} {h:Heap} {P:Params} (X:K.In h) (G:h.Ns mainGlobals mg) {x:Str} {tab:List (Str×PyData)} {a:Addr} {es:Array DictEntry} {n:Nat}
  (z:PySem.W.nsIn K mainGlobals x=some (some (.ref a))) (l:K.lookup a=some ⟨.type "dict",none,.dict es n,#[]⟩) (hk:PySem.W.KeysLit P es.toList) (ht:tabB tab es.toList=true) (hn:(tab.map (·.1)).Nodup):Ep K mg P x tab:=
 ⟨a,es,n,PySem.W.mg_of X G z,l,hk,fun q hq=>by
   obtain ⟨e,h1,h2⟩:=FK ht hn q hq
   obtain ⟨v,r,d⟩:=LV h2
   exact ⟨e.val,v,by unfold PySem.W.nsIn;rw [l];simp only;rw [h1],r,fun H=>d K H⟩⟩
def TabV (K:PySem.W.Frag) (H:Hp):List (Key×V)→List (Str×PyData)→Prop
 | [],[]=>True
 | kv::r,q::t=>kv.1=.inr q.1∧DV K H kv.2 q.2∧TabV K H r t
 | _,_=>False
mutual
def noK:PyData→Bool
 | .none=>true
 | .bool _=>true
 | .int _=>true
 | .str _=>true
 | .tuple xs=>noKs xs
 | .list xs=>noKs xs
 | .dict _=>false
def noKs:List PyData→Bool
 | []=>true
 | x::r=>noK x && noKs r
end
theorem E3 {H:Hp} {p a:Addr} {kvs:List (Key×V)} {o:HO} (hp:H p=some (.dK kvs)) (e:H a=some o) (n:∀k,o≠.dK k):a≠p:=fun c=>by subst c;rw [hp] at e;cases e;exact n _ rfl
mutual
theorem DV.noDict {K:PySem.W.Frag} {H H':Hp} {p:Addr} {kvs:List (Key×V)} (hp:H p=some (.dK kvs)) (hH:∀a,a≠p→H' a=H a):∀{v:V} {d:PyData},DV K H v d→noK d=true→DV K H' v d
 | _,_,.non,_=>.non
 | _,_,.bl b,_=>.bl b
 | _,_,.int i,_=>.int i
 | _,_,.str x,_=>.str x
 | _,_,.tup (a:=a) h t,f=>by
   refine .tup ?_ (DVs.noDict hp hH t (by unfold noK at f;exact f))
   rcases h with (h | ⟨o,h⟩) | h
   ·exact .inl (.inl (by rw [hH a (E3 hp h fun _ c=>by cases c)];exact h))
   ·exact .inl (.inr ⟨o,by rw [hH a (E3 hp h fun _ c=>by cases c)];exact h⟩)
   ·exact .inr h
 | _,_,.lst (a:=a) h t,f=>by
   refine .lst ?_ (DVs.noDict hp hH t (by unfold noK at f;exact f))
   rcases h with (h | ⟨o,h⟩) | h
   ·exact .inl (.inl (by rw [hH a (E3 hp h fun _ c=>by cases c)];exact h))
   ·exact .inl (.inr ⟨o,by rw [hH a (E3 hp h fun _ c=>by cases c)];exact h⟩)
   ·exact .inr h
 | _,_,.dct h t,f=>by unfold noK at f;cases f
 | _,_,.exc h,f=>by unfold noK at f;cases f
 | _,_,.exr h h',f=>by unfold noK at f;cases f
 | _,_,.obj h n t,f=>by unfold noK at f;cases f
 | _,_,.dtt h,f=>by unfold noK at f;cases f
theorem DVs.noDict {K:PySem.W.Frag} {H H':Hp} {p:Addr} {kvs:List (Key×V)} (hp:H p=some (.dK kvs)) (hH:∀a,a≠p→H' a=H a):∀{v:List V} {d:List PyData},DVs K H v d→noKs d=true→DVs K H' v d
 | _,_,.nil,_=>.nil
 | _,_,.cons h t,f=>by
   unfold noKs at f
   rw [Bool.and_eq_true] at f
   exact .cons (DV.noDict hp hH h f.1) (DVs.noDict hp hH t f.2)
end
def QJ (t:List (Str×PyData)) (s:Str):Option PyData:=(t.find? fun q=>q.1==s).map (·.2)
section
variable {X:Cx} {G:Gam} {e f:Expr} {pos p p2 apos:Pos} {d d0:PyData} {x:Str} {keys:List (Option Expr)} {values:List Expr} {tab:List (Str×PyData)}
end
section
variable {X:Cx} {G:Gam} {o e:Expr} {pos p p2:Pos} {d:PyData} {x:Str}
theorem DVs.of_strs {K:PySem.W.Frag} {H:Hp}:∀{ss:List Str} {vs:List V},DVs K H vs (ss.map PyData.str)→vs=ss.map V.str
 | [],_,.nil=>rfl
 | a::r,_,.cons h t=>by rw [h.of_str,DVs.of_strs t];rfl
theorem JV {ss:List Str} {s:Str} {j:Nat} {apos:Pos} (ho:EV X G o (.list (ss.map PyData.str))) (he:EV X G e (.str s)) (hj:ss[j]?=some s) (hno:∀m,m < j→ss[m]?≠some s)
  (hb:attributeBase o "index" X.env (eval o X.env)=eval o X.env:=by rfl)
  (hfew:((backTo pos (starEach [e] X.env)).all (fun x=>!x.1) && (backToKw pos (keywordEach [] X.env)).all (fun x=>x.1.isSome)
   && decide ([e].length + ([]:List Keyword).length + (if ([]:List Keyword).isEmpty then 0 else 1) < 30))=true:=by rfl)
  (hline:(apos.endLine==pos.line)=true:=by rfl) (hs:starEach [e] X.env=(false,eval e X.env)::starEach [] X.env:=by rfl) (hpl:(backTo pos (starEach [] X.env)).any (·.1)=false:=by rfl):
  EV X G (.Call (.Attribute o "index" apos) [e] [] pos) (.int j):=by
 have hjl:j < ss.length:=(List.getElem?_eq_some_iff.mp hj).1
 have mr:MtR X "list.index" (fun y ys H Q=>∃l,y=.ref l∧SqL X.K H l (ss.map V.str)∧ys=[.str s]∧Q (.int j) H):=by
  intro pins s1 σ H y ys v us Q I ry rys ⟨l,e1,hl,e2,q⟩
  subst e1 e2
  cases ry
  obtain ⟨u,rfl,ru⟩:=vals1 rys
  obtain ⟨its,r,⟨ob,n,h1,h2,h3,h4⟩,hz⟩:=I.list hl
  obtain ⟨oc,od,odt,osl⟩:=ob
  simp only at h2 h3 h4
  subst h2 h3 h4
  have hlen:its.length=ss.length:=by rw [←r.length,List.length_map]
  rw [List.length_map,sizeLine_eq] at hz
  have get:∀m (hm:m < its.toArray.size),∃t,its.toArray[m]=Value.str (ss[m]'(by simpa [hlen] using hm)) t:=by
   intro m hm
   have hm2:m < ss.length:=by simpa [hlen] using hm
   obtain ⟨u2,eu,t,ru2⟩:=r.get (i:=m) (x:=V.str ss[m]) (by simp [hm2])
   refine ⟨t,?_⟩
   rw [←ru2]
   have hm3:m < its.length:=by rw [hlen];exact hm2
   rw [List.getElem?_eq_getElem hm3] at eu
   simpa using Option.some.inj eu
  have hjs:j < its.toArray.size:=by simpa [hlen] using hjl
  refine call_meets PySem.F.slot_list_index ⟨_,h1,rfl⟩ PySem.F.entry_list_index (PySem.F.args_list_index_2 _ _) (PySem.SeqAt.list_indexAt l its.toArray n none osl u (fun y=>y.isStr s) j hjs (by omega) ?_ ?_)
   ⟨h1,fun y hy=>?_,⟨.int j,H,I.tok _,⟨_,rfl⟩,q⟩⟩
  ·obtain ⟨t,et⟩:=get j hjs
   simp only [et]
   show (_==s)=true
   have:=(List.getElem?_eq_some_iff.mp hj).2
   simpa using this
  ·intro m hm hlt
   obtain ⟨t,et⟩:=get m hm
   simp only [et]
   show (_==s)=false
   have hm2:m < ss.length:=by simpa [hlen] using hm
   refine beq_eq_false_iff_ne.mpr fun c=>hno m hlt ?_
   rw [List.getElem?_eq_getElem hm2,c]
  ·obtain ⟨m,hm,em⟩:=Array.getElem_of_mem hy
   obtain ⟨t,et⟩:=get m hm
   rw [←em,et]
   have rr:RelV (.str (ss[m]'(by simpa [hlen] using hm))) (Value.str (ss[m]'(by simpa [hlen] using hm)) t):=⟨t,rfl⟩
   exact II (A:=X.A.in1) (s:=s1) rr ru rfl rfl
 refine (Jy PySem.F.plainAttrs_list PySem.F.slot_list_index PySem.F.type_list_index mr ho (Aa he Ac hs) hb hfew hline hs hpl).imp fun σ H Q ⟨h,q⟩=>⟨h,fun v H1 s1 d1=>?_⟩
 obtain ⟨l,us,rfl,hl,d2⟩:=d1.of_lst
 refine ⟨.inl ⟨rfl,us,hl⟩,h.mono s1,fun vs H2 s2 d3=>?_⟩
 obtain ⟨v,rfl,dv⟩:=d3.one
 exact ⟨l,rfl,by rw [←d2.of_strs];exact s2.seq hl,by rw [dv.of_str],q _ H2 (s1.trans s2) (.int j)⟩
end
section
variable {X:Cx} {G:Gam} {H0:Hp} {p:Addr} {i j:Nat} {Pre Mid Post:Gam→List PyData→Prop} {a b e c:Expr} {es:List Expr} {pos pos' pos2:Pos} {x:Str} {ws xs ys:List PyData} {d:PyData}
theorem Jb (h:AV X G es ws) (hz:ws.length≤sizeLine):EVF X G (.List es pos) ws:=
 (GO h).imp fun σ H Q ⟨h,q⟩=>⟨h,fun vs H1 s1 d1=>⟨by rw [d1.length];exact hz,fun p hp=>q p vs _ (s1.free hp) (s1.trans (Same.new hp)) Am (d1.mono (Same.new hp))⟩⟩
end
section
def hasK (es:List (PyData×PyData)) (k:Key):Bool:=es.any fun q=>PyData.eqv q.1 (keyD k)
def putD (es:List (PyData×PyData)) (k:Key) (d:PyData):List (PyData×PyData):=if hasK es k=true then es.map (fun q=>if PyData.eqv q.1 (keyD k)=true then (q.1,d) else q) else es++[(keyD k,d)]
section
variable {X:Cx} {G:Gam} {H0:Hp} {p:Addr} {i j:Nat} {a b e c:Expr} {pos pos' pos2:Pos} {x:Str} {d:PyData} {es:List (PyData×PyData)}
end
mutual
theorem DVk.noDict {K:PySem.W.Frag} {H H':Hp} {p:Addr} {kvs:List (Key×V)} (hp:H p=some (.dK kvs)) (hH:∀a,a≠p→H' a=H a):∀{v:List (Key×V)} {d:List (PyData×PyData)},DVk K H v d→(d.all fun q=>noK q.2)=true→DVk K H' v d
 | _,_,.nil,_=>.nil
 | _,_,.cons h t,f=>by
   rw [List.all_cons,Bool.and_eq_true] at f
   exact .cons (DV.noDict hp hH h f.1) (DVk.noDict hp hH t f.2)
end
abbrev QO (G:Gam) (i:Nat) (es:List (PyData×PyData)):Gam:=G.set i (some (.dict es))
def ODt (K:PySem.W.Frag) (H0:Hp) (p:Addr) (i:Nat) (G:Gam) (es:List (PyData×PyData)) (σ:St) (H:Hp):Prop:=
 ∃Hb kvs,H=upd Hb p (.dK kvs)∧Hb p=none∧Same H0 Hb∧SD K Hb σ G∧σ[i]?=some (some (.ref p))∧DVk K Hb kvs es
section
variable {X:Cx} {H0:Hp} {p:Addr} {i j:Nat} {Pre Mid Post PreA PreB:Gam→List (PyData×PyData)→Prop} {e c:Expr} {pos pos' pos2:Pos} {x:Str}
variable {G:Gam} {d:PyData}
end
end
section
variable {X:Cx} {G:Gam} {H0:Hp} {p:Addr} {i j:Nat} {Pre Mid Post:Gam→List PyData→Prop} {a b e c tg:Expr} {es:List Expr} {pos pos' pos2:Pos} {x:Str} {ws xs ys:List PyData} {d:PyData} {R:PyData→Prop}
def J7:List Nat→List PyData→Gam→Gam
 | i::is,d::ds,G=>J7 is ds (G.set i (some d))
 | _,_,G=>G
def NC (is:List Nat) (d:PyData) (G:Gam):Gam:=match d with
 | .tuple ds=>J7 is ds G
 | _=>G
def Ei:List Nat→TGs
 | []=>gNil
 | i::is=>GZ (BH i) (Ei is)
theorem Hr {K:PySem.W.Frag} {H:Hp}:∀(is:List Nat) (ds:List PyData) (vs:List V) (σ:St) (G:Gam) (Q:St→Hp→Prop),is.length=ds.length→SD K H σ G→DVs K H vs ds→(∀σ2,SD K H σ2 (J7 is ds G)→Q σ2 H)→Ei is vs σ H Q
 | [],[],_,σ,G,Q,_,h,.nil,q=>⟨rfl,q σ h⟩
 | i::is,d::ds,_,σ,G,Q,hl,h,.cons (x:=v) (xs:=vs) dv t,q=>⟨v,vs,rfl,Hr is ds vs _ _ Q (Nat.succ.inj hl) (h.set dv) t q⟩
theorem Oo {K:PySem.W.Frag} {k:Nat} (is:List Nat) (ds:List PyData) (hl:is.length=ds.length):BindD K k (gTup K is.length (Ei is)) (NC is) (.tuple ds):=⟨fun v σ H G Q h dv q=>by
 obtain ⟨l,us,rfl,hs,d1⟩:=dv.of_tup
 exact ⟨l,us,rfl,hs,by rw [d1.length,hl],Hr is ds us σ G Q hl h d1 q⟩⟩
theorem OH {k:Nat} {g:TG} {B:PyData→Gam→Gam} {G1:Gam} (he:EV X G e d) (hg:PG X tg g) (hb:BindD X.K k g B d) (hG:B d G=G1) (hs:swapsWithSole [tg] e pos.line X.env=pure false:=by rfl) (hw:swappedStores [tg] e X.env=pure none:=by rfl)
  (h1:(assignEach [tg] X.env).map (·.2)=[assign tg X.env]:=by rfl):SV X G (.Assign [tg] e pos) (.next G1):=hG ▸
 (Ea he hg hs hw h1).imp fun D σ H ⟨h,q⟩=>⟨h,fun v H1 s1 d1=>hb.to v σ H1 G _ (h.mono s1) d1 fun σ2 h2=>q σ2 H1 s1 h2⟩
theorem Os {i j:Int} (hc:X.calm=true):CD X (.builtin "min") [.int i,.int j] (.int (if j < i then j else i)):=(JW hc).imp fun xs H Q ⟨h,q⟩=>by
 obtain ⟨v,w,rfl,dv,dw⟩:=h.two
 exact ⟨i,j,by rw [dv.of_int,dw.of_int],q _ H (Same.refl H) (.int _)⟩
end
def QH {α:Type} (N:Nat) (R:α→Prop):PySem.W.KasT α→Prop
 | .ret a=>R a
 | .ask i j k=>i < N∧j < N∧∀b,QH N R (k b)
def PmN (N:Nat) (p:Array Nat):Prop:=p.Perm (List.toArray (List.range N))
section
variable {N:Nat} (hN:0 < N)
include hN
end
section
variable {prog:Program} {w:World} {A:Around} {E:Value→Shared→Prop} {s:Shared}
end
section
variable {X:Cx} {G:Gam} {o:Expr} {pos p apos cpos:Pos} {es:List (PyData×PyData)}
end
section
variable {X:Cx} {H0:Hp} {p:Addr} {i j:Nat} {Pre Mid Post PreA PreB:Gam→List (PyData×PyData)→Prop} {e c:Expr} {es:List Expr} {pos pos' pos2 p1:Pos} {x:Str} {G:Gam} {d:PyData} {R:PyData→Prop} {Rs:List PyData→Prop} {ds:List PyData}
end
section
variable {X:Cx} {G:Gam} {a b e:Expr} {pos p p2:Pos} {d:PyData} {x:Str}
end
section
variable {X:Cx} {G:Gam} {a:Expr} {pos p:Pos}
end
section
variable {P:Program} {w:World} {K:PySem.W.Frag} {mg:Str→Option Value} {base:Heap}
theorem Fun.dataN {x qual:Str} {st:Stmt} {f:Addr} {fd:FuncData} {N ps:List Str} {k:Nat} {F:List PyData→Prop} (F0:Fun K x qual st f fd) (hm:mg x=some (.ref f)) (hb:Binds K fd ps []) (S:FnScope N ps (Ae st)) (len:∀ds,F ds→ds.length=ps.length)
  (hbody:∀(cdv:Value) (A:Around) (outer:List Env) (s:Shared) (H:Hp) (E:XK) (ds:List PyData),Room k (A.deeper (envOfC qual (Ae st) s.heap.objs.size f cdv))→F ds→
   ∃G',SVs (cxOf CX0 P w K mg base N qual (Ae st) f cdv A outer s H E).nox (AO N ds) (AG st) (.next G')):DFn P w K mg base (k + 1) x (fun ds d=>F ds∧d=.none):=by
 refine ⟨f,fd,ps,F0.ok S (fun vs H Q E ⟨ds,d,h1,h2,_⟩=>h1.length.trans (len ds h2.1)) (fun cdv A outer s H vs Q E hr ⟨ds,d,h1,⟨h2,e⟩,q⟩=>?_),hm,F0.kp,hb⟩
 obtain ⟨G',h⟩:=hbody cdv A outer s H E ds hr h2
 subst e
 exact ⟨_,h,SD.start h1,fun σ' H' s' h'=>q .non H' s' .non⟩
end
section
variable {X:Cx} {G:Gam} {e:Expr} {pos pos' pos2:Pos} {x f:Str} {d:PyData}
theorem Mm (h:EV X G e d) (hs:swapsWith e none pos.line X.env=pure false:=by rfl):SV X G (.Expr e pos) (.next G):=
 (DP h hs).imp fun D σ H ⟨h,q⟩=>⟨h,fun v H' s' _=>q σ H' s' (h.mono s')⟩
def Flds (K:PySem.W.Frag) (H:Hp) (fs:List (Str×V)) (fd:List (Str×PyData)):Prop:=∀q∈fd,∃v,fs.lookup q.1=some v∧DV K H v q.2
structure OI (K:PySem.W.Frag) (a C dx:Addr) (H0:Hp) (n:Nat) (fd:List (Str×PyData)) (σ:St) (G:Gam) (fs:List (Str×V)) (H:Hp):Prop where
 slot:σ[0]?=some (some (.ref a))
 obj:H a=some (.ins C dx fs)
 sd:SD K H σ G
 keep:∀b,b≠a→∀o,H0 b=some o→H b=some o
 flds:Flds K H fs fd
 few:fs.length≤n
end
theorem mulW (l:Addr) (items:Array Value) (n:Nat) (dd:Option Addr) (sl:Array (Option Value)) (x:Int) (u:Tok) (hc0:¬(!Builtin.List.listFitsIndex x)=true) (hc1:¬items.size * x.toNat > (2 ^ 63 - 1) / 8) (hc2:¬Builtin.List.listTooLong (items.size * x.toNat)=true):
  Meets (Builtin.«list.__mul__» ⟨[.ref l,.int x u],[]⟩) (fun _ R s=>s.heap.get? l=some {cls:=.type "list",dict:=dd,data:=.seq items n,slots:=sl}∧R (.ok (.ret (Value.ref s.heap.objs.size))) {s with heap:=s.heap.push {cls:=Value.type "list",data:=Data.seq (List.foldl (fun x1 x2=>x1++x2) #[] (List.replicate (if items.isEmpty=true then 0 else x.toNat) items))},toks:=s.toks}):=
 .of_wp fun prog w A R s h=>by
  obtain ⟨hp,g,d,tk,os⟩:=s;obtain ⟨hl,h⟩:=h
  have hsz:=PySem.AutoListH.joined_fits hc2
  wp_walk using wpAny_loadPart' hl;refine wpAny_ite_false (decide_eq_false (Nat.not_lt.mpr hsz)) ?_;wp_walk;exact ⟨_,rfl,h⟩
theorem PQ (a:Int) (t:Tok) (l:Addr) (items:Array Value) (n:Nat) (dd:Option Addr) (sl:Array (Option Value)):
  Meets (Builtin.«int.__rmul__» ⟨[.int a t,.ref l],[]⟩) (fun _ R s=>s.heap.get? l=some {cls:=.type "list",dict:=dd,data:=.seq items n,slots:=sl}∧R (.ok (.ret Value.notImplemented)) s):=
 .of_wp fun prog w A R s h=>by obtain ⟨hp,g,d,tk,os⟩:=s;obtain ⟨hl,h⟩:=h;wp_walk using wpAny_loadPart' hl;exact ⟨_,rfl,h⟩
theorem DVs.rep {K:PySem.W.Frag} {H:Hp} {vs:List V} {ds:List PyData} (h:DVs K H vs ds):∀k:Nat,DVs K H (List.replicate k vs).flatten (List.replicate k ds).flatten
 | 0=>.nil
 | k + 1=>by
   rw [List.replicate_succ,List.replicate_succ,List.flatten_cons,List.flatten_cons]
   exact h.append (DVs.rep h k)
section
variable {X:Cx}
end
theorem Fw {c j pos} {es:List Expr} {env:Env}:starEach (.Constant c j pos::es) env=(false,eval (.Constant c j pos) env)::starEach es env:=rfl
section
variable {X:Cx} {G:Gam} {i:Nat} {x:Str} {es:List Expr} {pos pos' pos2:Pos} {sts:List Stmt} {o:Out} {ds:List PyData}
end
section
variable {X:Cx} {G G2:Gam} {H0:Hp} {p:Addr} {i j:Nat} {Pre Mid Post:Gam→List PyData→Prop} {a b e c iter:Expr} {es:List Expr} {pos pos' pos2 pos3:Pos} {x:Str} {ws xs ys ds:List PyData} {d:PyData} {sts A B:List Stmt}
theorem JC {a b c:Expr} {da db dc:PyData} {op op':CmpOp} {k k':Bool} (ho:OD X (compareOp op) da db (.bool k)) (ho':OD X (compareOp op') db dc (.bool k')) (ha:EV X G a da) (hb:EV X G b db) (hc:EV X G c dc)
  (hm:lastMarks [op,op'] [b,c]=false:=by with_unfolding_all rfl):TV X G (.Compare a [op,op'] [b,c] pos) (k && k'):=by
 refine (LW ho ho' ha hb hc hm).imp fun σ H Q ⟨h,q⟩=>⟨h,fun x H1 s1 d1=>⟨h.mono s1,fun y H2 s2 d2=>⟨d1.mono s2,d2,fun v H3 s3 d3=>⟨k,d3.of_bl,?_⟩⟩⟩⟩
 cases k with
 | true=>
   simp only [if_true]
   exact ⟨((h.mono s1).mono s2).mono s3,fun z H4 s4 d4=>⟨(d2.mono s3).mono s4,d4,fun v H5 s5 d5=>⟨k',d5.of_bl,q H5 ((((s1.trans s2).trans s3).trans s4).trans s5)⟩⟩⟩
 | false=>
   simp only [Bool.false_eq_true,if_false]
   exact ⟨false,rfl,q H3 ((s1.trans s2).trans s3)⟩
theorem DVs.setAt {K:PySem.W.Frag} {H:Hp} {v:V} {d:PyData} (h:DV K H v d):∀{vs:List V} {ds:List PyData} (n:Nat),DVs K H vs ds→DVs K H (vs.set n v) (ds.set n d)
 | _,_,_,.nil=>.nil
 | _,_,0,.cons _ t=>.cons h t
 | _,_,n + 1,.cons q t=>.cons q (DVs.setAt h n t)
end
section
variable {X:Cx} {G:Gam} {elt target iter:Expr} {ifs:List Expr} {scope:Scope} {pos:Pos} {N:List Str} {ix:List Nat} {ds:List PyData}
end
section
variable {X:Cx} {H0:Hp} {p:Addr} {i:Nat} {Pre Post:Gam→List PyData→Prop} {e:Expr} {pos pos' pos2:Pos} {x:Str}
end
section
variable {X:Cx} {G:Gam} {a:Expr} {pos p:Pos}
end
section
variable {K:PySem.W.Frag} {H:Hp} {t:Addr} {ys:List V} {ds:List PyData}
end
abbrev Et (H:Hp) (p q:Addr):Hp:=dele (dele H p) q
section
variable {K:PySem.W.Frag} {H:Hp} {p q:Addr} {ws us:List V}
end
structure OS2 (K:PySem.W.Frag) (H0:Hp) (p:Addr) (i:Nat) (q:Addr) (j:Nat) (G:Gam) (ds es:List PyData) (σ:St) (H:Hp):Prop where
 ne:p≠q
 ex:∃vs us,H p=some (.lst vs)∧H q=some (.lst us)∧DVs K (Et H p q) vs ds∧DVs K (Et H p q) us es
 old:Same H0 (Et H p q)
 sdb:SD K (Et H p q) σ G
 hi:σ[i]?=some (some (.ref p))
 hj:σ[j]?=some (some (.ref q))
abbrev QQ (G:Gam) (i:Nat) (ds:List PyData) (j:Nat) (es:List PyData):Gam:=(G.set i (some (.list ds))).set j (some (.list es))
section
variable {K:PySem.W.Frag} {H0 H H':Hp} {p q:Addr} {i j:Nat} {G:Gam} {ds es:List PyData} {σ:St}
end
abbrev P2:=Gam→List PyData→List PyData→Prop
section
variable {X:Cx} {H0:Hp} {p q:Addr} {i j m:Nat} {Pre Mid Post PreA PreB:P2} {a e b c:Expr} {pos pos' pos2 pos3:Pos} {x y:Str} {G:Gam} {d:PyData} {R:PyData→Prop}
structure BindB (K:PySem.W.Frag) (is:List Nat) (g:TG) (B:PyData→Gam→Gam) (d:PyData):Prop where
 to:∀(v:V) (σ:St) (Hb H:Hp) (G:Gam) (Q:St→Hp→Prop),Same Hb H→SD K Hb σ G→DV K Hb v d→(∀σ2,SD K Hb σ2 (B d G)→(∀m,m∉is→σ2[m]?=σ[m]?)→Q σ2 H)→g v σ H Q
end
section
variable {X:Cx} {G:Gam} {H0:Hp} {p:Addr} {i:Nat} {Pre Mid:Gam→List PyData→Prop} {a b e f k1 k2 v1 v2:Expr} {pos pos' pos2 apos cpos:Pos} {x:Str} {ws ws0 ws1 ws2 xs:List PyData} {sts:List Stmt}
def PP (K:PySem.W.Frag) (xs:List PyData) (k:Int):R2:=fun x y H Q=>DV K H x (.list xs)∧DV K H y (.int k)∧∀p us H',H p=none→Same H H'→H' p=some (.lst us)→DVs K H' us (List.replicate k.toNat xs).flatten→Q (.ref p) H'
theorem Nh {k:Int} (h1:-(2 ^ 63)≤k) (h2:k < 2 ^ 63) (hz:xs.length * k.toNat≤sizeLine):OpR X (binaryOp .Mult) (PP X.K xs k):=by
 intro pins s σ H x y v u Q I rx ry ⟨d1,d2,q⟩
 obtain ⟨l,us,rfl,hl,du⟩:=d1.of_lst
 cases d2.of_int
 cases rx
 obtain ⟨t,rfl⟩:=ry
 obtain ⟨its,r,pl,_⟩:=I.list hl
 obtain ⟨⟨cls,dd,data,sl⟩,e,hc,n,hd⟩:=pl.isList
 simp only at hc hd
 subst hc hd
 have hus:us.length=xs.length:=du.length
 have hil:its.length=xs.length:=by rw [←hus];exact r.length.symm
 have hlen:its.toArray.size * k.toNat≤sizeLine:=by rw [List.size_toArray,hil];exact hz
 have hcap:¬its.toArray.size * k.toNat > (2 ^ 63 - 1) / 8:=by
  have:(sizeLine:Nat)≤(2 ^ 63 - 1) / 8:=by decide
  omega
 have hfit:¬(!Builtin.List.listFitsIndex k)=true:=by
  rw [fitsIndex_both h1 h2]
  exact Bool.false_ne_true
 have hlong:¬Builtin.List.listTooLong (its.toArray.size * k.toNat)=true:=by
  rw [Kv hlen]
  exact Bool.false_ne_true
 have hnew:List.foldl (fun x1 x2=>x1++x2) #[] (List.replicate (if its.toArray.isEmpty=true then 0 else k.toNat) its.toArray)=(List.replicate k.toNat its).flatten.toArray:=by
  have f0:∀m:Nat,List.foldl (fun x1 x2=>x1++x2) #[] (List.replicate m its.toArray)=(List.replicate m its).flatten.toArray:=fun m=>by
   have:=foldl_rep its m []
   rw [List.nil_append] at this
   exact this
  rw [f0]
  cases its with
  | nil=>simp
  | cons a r'=>rw [if_neg (by simp)]
 refine wpAny_binaryOp_repeat_ref (T:="list") (U:="int") (by decide) ⟨_,e,rfl⟩ (fun s'=>typeIs_int s' k t) noFill_list_mul F.fills_int_mul F.slot_int_rmul repeat_list F.slot_int_index.lookup
  (call_meets F.slot_int_rmul (typeIs_int s k t) F.entry_int_rmul (F.args_int_rmul_2 _ _) (PQ k t l its.toArray n dd sl)
   ⟨e,rfl,⟨_,e,rfl⟩,call_meets F.slot_list_mul ⟨_,e,rfl⟩ F.entry_list_mul (F.args_list_mul_2 _ _) (mulW l its.toArray n dd sl k t hfit hcap hlong) ⟨e,?_⟩⟩)
 rw [hnew]
 have hf:=I.hok.fresh (Nat.le_refl _)
 exact ⟨.ref _,_,I.lnew (t':=s.toks) (r.rep k.toNat) (by rw [len_rep,Nat.mul_comm,hus];exact hz),rfl,q _ _ _ hf (Same.new hf) Am ((du.rep k.toNat).mono (Same.new hf))⟩
theorem GK {k:Int} (ha:EV X G a (.list xs)) (hb:EV X G b (.int k)) (h1:-(2 ^ 63)≤k) (h2:k < 2 ^ 63) (hz:xs.length * k.toNat≤sizeLine):EVF X G (.BinOp a .Mult b pos) (List.replicate k.toNat xs).flatten:=
 (NH (Nh h1 h2 hz) ha hb).imp fun σ H Q ⟨h,k⟩=>FL h fun x y H' s' d1 d2=>⟨d1,d2,fun p us H2 hp s2 hl dv=>k p us H2 (s'.free hp) (s'.trans s2) hl dv⟩
end
section
variable {X:Cx} {H0:Hp} {p:Addr} {i j:Nat} {Pre Post:Gam→List PyData→Prop} {pos:Pos}
end
section
open PySem
def Rise (xs:Array Nat):Prop:=xs.toList.Pairwise (· < ·)
def QA (b:Bool) (t:SetTable):Prop:=t.led=b∧Rise t.place
end
section
open PySem
structure SetG (prog:Program) (w:World) (h:Heap) (a:Addr) (S:Int→Bool) (n:Nat) (o:Obj) (es:Array (Int×Value)) (ep:Nat) (t:SetTable):Prop where
 at_:h.get? a=some o
 ex:o.ExactSet
 dat:o.data=.set es ep t
 els:ElemsOf (intKind prog w) es.toList
 mem:∀k,S k=true↔∃e∈es.toList,(intKind prog w).is k e.2=true
 few:es.size < scanBound
 fit:t.fits es.size=true
 len:es.size=n
 tbl:QA (!w.params.followText "set-order") t
section
variable {prog:Program} {w:World} {A:Around} {E:Value→Shared→Prop} {s:Shared} {a:Addr} {S:Int→Bool} {n:Nat}
end
end
section
variable {prog:Program} {w:World} {A:Around} {E:Value→Shared→Prop}
abbrev metL (ns:List Int) (i:Nat):List Int:=firstMet (fun i=>ns.getD i 0) i
end
section
variable {prog:Program} {w:World} {A:Around} {E:Value→Shared→Prop} {s:Shared}
end
def QN (h:Heap) (I a:Addr) (fst:Value) (i n ep:Nat):Prop:=∃o,h.get? I=some o∧o.cls=.type "set_iterator"∧o.data=.fields #[fst,.int i 0,.ref a,.int n 0,.int ep 0]
section
variable {prog:Program} {w:World} {A:Around} {E:Value→Shared→Prop} {s:Shared} {I a:Addr} {i n ep:Nat} {o:Obj} {es:Array (Int×Value)} {t:SetTable} {S:Int→Bool} {fst:Value}
end
section
variable {prog:Program} {w:World} {A:Around} {E:Value→Shared→Prop} {s:Shared} {I a:Addr} {i n ep:Nat} {o:Obj} {es:Array (Int×Value)} {t:SetTable} {S:Int→Bool}
end
section
variable {prog:Program} {w:World} {A:Around} {E:Value→Shared→Prop} {s:Shared} {a:Addr} {i n ep:Nat} {o:Obj} {es:Array (Int×Value)} {t:SetTable} {S:Int→Bool}
end
def insI (x:Int):List Int→List Int
 | []=>[x]
 | a::r=>if x < a then x::a::r else if x=a then a::r else a::insI x r
def srtI (l:List Int):List Int:=l.foldr insI []
theorem EH:∀{l m:List Int},l.Nodup→(∀x∈l,x∈m)→m.length≤l.length→l.Perm m
 | [],m,_,_,h=>by
   have:m=[]:=List.eq_nil_of_length_eq_zero (by simpa using h)
   rw [this]
 | a::l,m,hn,hs,hl=>by
   obtain ⟨h1,h2⟩:=List.nodup_cons.mp hn
   have ha:=hs a (List.mem_cons_self ..)
   have pe:=List.perm_cons_erase ha
   refine (List.Perm.cons a (EH h2 (fun x hx=>?_) ?_)).trans pe.symm
   ·have:=pe.mem_iff.mp (hs x (List.mem_cons_of_mem _ hx))
    rcases List.mem_cons.mp this with e | z
    ·subst e;exact absurd hx h1
    ·exact z
   ·have:=pe.length_eq
    simp only [List.length_cons] at this hl
    omega
theorem DY (ns:List Int):∀i,(metL ns i).Nodup
 | 0=>List.nodup_nil
 | i + 1=>by
   rw [show metL ns (i + 1)=step_dedup (metL ns i) (ns.getD i 0) from firstMet_succ _ i]
   unfold step_dedup
   split
   ·exact DY ns i
   ·rename_i h
    refine List.nodup_append.mpr ⟨DY ns i,by simp,fun a ha b hb=>?_⟩
    rw [List.mem_singleton.mp hb]
    intro e
    subst e
    exact h (List.any_eq_true.mpr ⟨_,ha,by simp⟩)
theorem BJ {prog:Program} {w:World} {h:Heap} {a:Addr} {ns:List Int} {o:Obj} {es:Array (Int×Value)} {ep:Nat} {t:SetTable} (g:SetG prog w h a (fun x=>(metL ns ns.length).any (·==x)) (metL ns ns.length).length o es ep t) {L:List (Int×Value)} (pm:L.Perm es.toList):
  ∃ks,IntsAre (L.map (·.2)) ks∧ks.Perm (metL ns ns.length):=by
 have els:∀e∈L,∃k tk,e.2=Value.int k tk:=fun e he=>by
  obtain ⟨⟨k,hk,_⟩,_⟩:=g.els e (pm.mem_iff.mp he)
  obtain ⟨tk,r⟩:=Value.isInt_shape (k:=k) (v:=e.2) hk
  exact ⟨k,tk,r⟩
 have mk:∀(M:List (Int×Value)),(∀e∈M,∃k tk,e.2=Value.int k tk)→∃ks,IntsAre (M.map (·.2)) ks∧∀k,(∃e∈M,(intKind prog w).is k e.2=true)→k∈ks:=by
  intro M
  induction M with
  | nil=>exact fun _=>⟨[],.nil,fun k ⟨e,he,_⟩=>by cases he⟩
  | cons e M ih=>
    intro hM
    obtain ⟨ks,h1,h2⟩:=ih fun e he=>hM e (List.mem_cons_of_mem _ he)
    obtain ⟨k,tk,r⟩:=hM e (List.mem_cons_self ..)
    refine ⟨k::ks,by rw [List.map_cons,r];exact .cons k tk h1,fun k' ⟨e',he',q⟩=>?_⟩
    rcases List.mem_cons.mp he' with rfl | he'
    ·rw [r] at q
     have:=(intKind prog w).inj (.int k tk) k' k q (intKind_is _ _ _ _)
     rw [this]
     exact List.mem_cons_self ..
    ·exact List.mem_cons_of_mem _ (h2 k' ⟨e',he',q⟩)
 obtain ⟨ks,h1,h2⟩:=mk L els
 refine ⟨ks,h1,(EH (DY ns _) (fun x hx=>h2 x ?_) ?_).symm⟩
 ·obtain ⟨e,he,q⟩:=(g.mem x).mp (List.any_eq_true.mpr ⟨x,hx,by simp⟩)
  exact ⟨e,pm.mem_iff.mpr he,q⟩
 ·rw [←IntsAre.length h1,List.length_map,pm.length_eq,Array.length_toList,g.len]
  exact Nat.le_refl _
section
variable {X:Cx} {G:Gam} {e:Expr} {pos p pos2 p2:Pos} {l:List Int}
end
theorem Dr {X:Cx} {G:Gam} {e:Expr} {ws:List PyData} (h:EVF X G e ws):EV X G e (.list ws):=h.imp fun σ H Q ⟨h,q⟩=>⟨h,fun p us H' _ s' hl dv=>q _ _ s' (.lst (SqL.of hl) dv)⟩
theorem Bh {X:Cx} {G:Gam} {a:Expr} {ds:List PyData} {pos pos2:Pos} (ha:EV X G a (.list ds)) (hg:Gl X "list") (hm:X.mg "list"=none) (he:starEach [a] X.env=(false,eval a X.env)::starEach [] X.env:=by rfl) (hpl:(backTo pos (starEach [] X.env)).any (·.1)=false:=by rfl):EVF X G (.Call (.Name "list" pos2) [a] [] pos) ds:=
 (FY call_list_of hg hm (by decide +kernel) (Aa ha Ac he) (by decide) (by decide) he hpl).imp fun σ H Q ⟨h,q⟩=>⟨h,fun vs H1 s1 d1=>by
  obtain ⟨v,rfl,dv⟩:=d1.one
  obtain ⟨l,us,rfl,hl,d1⟩:=dv.of_lst
  exact ⟨l,us,rfl,.inl hl,fun p hp=>q p us _ (s1.free hp) (s1.trans (Same.new hp)) Am (d1.mono (Same.new hp))⟩⟩
structure OSh (K:PySem.W.Frag) (H0:Hp) (p t:Addr) (i:Nat) (G:Gam) (ds es:List PyData) (σ:St) (H:Hp):Prop where
 ne:p≠t
 ex:∃vs u,H p=some (.lst vs)∧H t=some (.lst [.ref p,u])∧DVs K (Et H p t) vs ds∧DV K (Et H p t) u (.list es)
 old:Same H0 (Et H p t)
 sdb:SD K (Et H p t) σ G
 hi:σ[i]?=some (some (.ref t))
abbrev QM (G:Gam) (i:Nat) (ds es:List PyData):Gam:=G.set i (some (.list [.list ds,.list es]))
section
variable {K:PySem.W.Frag} {H0 H H':Hp} {p t:Addr} {i:Nat} {G:Gam} {ds es:List PyData} {σ:St}
end
section
variable {X:Cx} {H0:Hp} {p t:Addr} {i j m:Nat} {Pre Mid Post:P2} {a e b c:Expr} {pos pos' pos2 pos3:Pos} {x y:Str} {G:Gam} {d:PyData}
end
section
variable {prog:Program} {w:World} {A:Around} {E:Value→Shared→Prop} {s:Shared} {a:Addr} {its:Array Value} {n:Nat} {sl:Array (Option Value)}
end
section
variable {prog:Program} {w:World} {A:Around} {K:Type} [DecidableEq K] {knd:KeyKind prog w K} {I D:Addr} {fp wr:List Addr} {n:Nat} {P:Nat→Value→Prop} {St:Nat→Shared→Prop} {R:Result→Shared→Prop}
end
section
variable {prog:Program} {w:World} {A:Around} {E:Value→Shared→Prop} {s:Shared} {K:Type} [DecidableEq K] {knd:KeyKind prog w K} {l:Addr} {its:Array Value}
end
section
variable {X:Cx} {G:Gam} {e:Expr} {pos p:Pos} {es:List (PyData×PyData)}
end
def pairD (q:Int×Int):PyData:=.tuple [.int q.1,.int q.2]
def dI (m:List (Int×Int)):List (PyData×PyData):=m.map fun q=>(.int q.1,.int q.2)
def getI (m:List (Int×Int)) (a:Int):Int:=(m.lookup a).getD 0
section
variable {X:Cx} {pins:List (Addr×Obj)} {σ:St} {H:Hp} {s:Shared} {a:Addr} {xs:List V}
end
section
variable {X:Cx} {G:Gam} {e:Expr} {pos p:Pos} {m:List (Int×Int)} {d:PyData}
end
mutual
def kT:PyData→Bool
 | .int _=>true
 | .str x=>PyData.canLay0 (.str x)
 | .tuple xs=>kTs xs
 | _=>false
def kTs:List PyData→Bool
 | []=>true
 | x::r=>kT x && kTs r
end
mutual
def Je (w:World):PyData→Int
 | .int i=>hashInt i
 | .str x=>hashStr w x
 | .tuple xs=>reduceHash (Builtin.Tuple.tupleHashOf (Bi w xs))
 | _=>0
def Bi (w:World):List PyData→List Int
 | []=>[]
 | x::r=>Je w x::Bi w r
end
mutual
def Jg:PyData→Nat
 | .tuple xs=>BZ xs + 1
 | _=>1
def BZ:List PyData→Nat
 | []=>0
 | x::r=>Jg x + BZ r
end
theorem De (w:World):∀(xs ys:List PyData),Bi w (xs++ys)=Bi w xs++Bi w ys
 | [],_=>by simp [Bi]
 | x::xs,ys=>by simp [Bi,De w xs ys]
theorem Dd:∀(xs ys:List PyData),BZ (xs++ys)=BZ xs + BZ ys
 | [],_=>by simp [BZ]
 | x::xs,ys=>by simp [BZ,Dd xs ys,Nat.add_assoc]
mutual
theorem GC:∀{d:PyData},kT d=true→d.canLay0=true
 | .int _,_=>rfl
 | .str _,h=>by unfold kT at h;exact h
 | .tuple xs,h=>by unfold PyData.canLay0;exact IR (by unfold kT at h;exact h)
 | .none,h=>by simp [kT] at h
 | .bool _,h=>by simp [kT] at h
 | .list _,h=>by simp [kT] at h
 | .dict _,h=>by simp [kT] at h
theorem IR:∀{ds:List PyData},kTs ds=true→PyData.canLayAll0 ds=true
 | [],_=>rfl
 | x::r,h=>by
   unfold kTs at h
   rw [Bool.and_eq_true] at h
   unfold PyData.canLayAll0
   rw [GC h.1,IR h.2]
   rfl
end
mutual
theorem KJ:∀(a b:PyData),kT a=true→kT b=true→(PyData.eqv a b=true↔a=b)
 | .int i,.int j,_,_=>by simp [PyData.eqv]
 | .str i,.str j,_,_=>by simp [PyData.eqv]
 | .int i,.str j,_,_=>by simp [PyData.eqv]
 | .str i,.int j,_,_=>by simp [PyData.eqv]
 | .int i,.tuple j,_,_=>by simp [PyData.eqv]
 | .str i,.tuple j,_,_=>by simp [PyData.eqv]
 | .tuple i,.int j,_,_=>by simp [PyData.eqv]
 | .tuple i,.str j,_,_=>by simp [PyData.eqv]
 | .tuple xs,.tuple ys,ha,hb=>by
   have:=Jv xs ys (by unfold kT at ha;exact ha) (by unfold kT at hb;exact hb)
   simp only [PyData.eqv,PyData.tuple.injEq]
   exact this
 | .none,_,h,_=>by simp [kT] at h
 | .bool _,_,h,_=>by simp [kT] at h
 | .list _,_,h,_=>by simp [kT] at h
 | .dict _,_,h,_=>by simp [kT] at h
 | _,.none,_,h=>by simp [kT] at h
 | _,.bool _,_,h=>by simp [kT] at h
 | _,.list _,_,h=>by simp [kT] at h
 | _,.dict _,_,h=>by simp [kT] at h
theorem Jv:∀(a b:List PyData),kTs a=true→kTs b=true→(PyData.eqvAll a b=true↔a=b)
 | [],[],_,_=>by simp [PyData.eqvAll]
 | [],_::_,_,_=>by simp [PyData.eqvAll]
 | _::_,[],_,_=>by simp [PyData.eqvAll]
 | x::xs,y::ys,ha,hb=>by
   unfold kTs at ha hb
   rw [Bool.and_eq_true] at ha hb
   have h1:=KJ x y ha.1 hb.1
   have h2:=Jv xs ys ha.2 hb.2
   simp only [PyData.eqvAll,Bool.and_eq_true,List.cons.injEq]
   rw [h1,h2]
end
theorem HE {xs:List PyData}:∀x∈xs,x.depth≤PyData.depthAll xs:=by
 induction xs with
 | nil=>intro x hx;cases hx
 | cons y r ih=>
   intro x hx
   unfold PyData.depthAll
   rcases List.mem_cons.mp hx with rfl | hx
   ·exact Nat.le_max_left _ _
   ·exact Nat.le_trans (ih x hx) (Nat.le_max_right _ _)
section
variable {prog:Program} {w:World}
def GD (prog:Program) (w:World) (d:PyData):Prop:=∀(A:Around) (E:Value→Shared→Prop) (s:Shared) (v:Value) (as:List Addr) (Q:Int→Shared→Prop),A.units + d.depth < cLine→Reads s.heap v d as→Q (Je w d) {s with toks:=s.toks + Jg d}→wpAny (model prog w) A (pyHash v) Q E s
theorem KO {xs:List PyData} (hP:∀x∈xs,GD prog w x):GD prog w (.tuple xs):=by
 intro A E s v as Q hu hr h
 cases hr with
 | @tuple a o items n _ _ ho hc hd hi=>
 have hT:s.TypeIs (.ref a) "tuple":=⟨o,ho,hc⟩
 have hd1:PyData.depth (.tuple xs)=PyData.depthAll xs + 1:=by first | rfl | simp [PyData.depth,Nat.add_comm]
 have hu0:A.units < cLine:=by omega
 unfold pyHash
 first | unfold pyHashByItsType | skip
 first | refine wpAny_bind (wpAny_cRoomFor_or (.inr hu0) ?_) | skip
 refine wpAny_bind (wpAny_specialOf hT F.slot_tuple_hash.lookup ?_)
 show wpAny _ _ (if (some (Value.builtin "tuple.__hash__")==some Value.none)=true then _ else _) Q E s
 rw [if_neg (by rw [beq_builtin_none];exact Bool.false_ne_true)]
 refine wpAny_bind (wpAny_specialOf hT F.slot_tuple_hash.lookup ?_)
 show wpAny _ _ (callSpecialIfBoundUnlessNone? (.ref a) "__hash__" _ >>=_) Q E s
 refine wpAny_bind (wpAny_callSpecialIfBoundUnlessNone?_slot hT F.slot_tuple_hash (wpAny_call_entry F.slot_tuple_hash hT F.entry_tuple_hash ?_ (F.args_tuple_hash_1 _)))
 show wpAny _ _ (Builtin.Tuple.tupleItemsOf (.ref a) >>=_) _ _ s
 refine wpAny_bind (wpAny_tupleItemsOf ho hd ?_)
 refine wpAny_bind ?_
 rw [←Array.forIn_toList]
 refine wpAny_forIn_list _
  (fun rest (b:Array Int) s'=>∃done left bs,xs=done++left∧ReadsAll s.heap rest left bs∧b.toList=Bi w done∧s'={s with toks:=s.toks + BZ done})
  _ ?_ ?_ _ _ ⟨[],xs,_,rfl,hi,rfl,rfl⟩
 ·rintro x rest b s' ⟨done,left,bs,rfl,hl,hb,rfl⟩
  cases hl with
  | @cons _ _ k ks' as1 bs1 h1 hl'=>
    have hdk:k.depth≤PyData.depthAll (done++k::ks'):=HE k (by simp)
    refine wpAny_bind (hP k (by simp) _ _ _ _ as1 _ ?_ h1 ?_)
    ·first
      | (show A.units + 1 + k.depth < cLine;omega)
      | (simp only [Around.units_in1];omega)
      | omega
    first
     | exact wpAny_pure ⟨done++[k],ks',bs1,by simp,hl',by simp [hb,De,Bi],by simp [Dd,BZ,Nat.add_assoc]⟩
     | exact wpAny_bind (wpAny_pure (wpAny_pure ⟨done++[k],ks',bs1,by simp,hl',by simp [hb,De,Bi],by simp [Dd,BZ,Nat.add_assoc]⟩))
 ·rintro b s' ⟨done,left,bs,rfl,hl,hb,rfl⟩
  cases hl
  rw [List.append_nil] at h
  show wpAny _ _ (retInt (Builtin.Tuple.tupleHashOf b.toList)) _ _ _
  rw [hb]
  refine wpAny_ret_mkInt ?_
  show wpAny _ _ (if (decide (-(2:Int) ^ 63≤Builtin.Tuple.tupleHashOf (Bi w done)) && decide (Builtin.Tuple.tupleHashOf (Bi w done) < 2 ^ 63))=true then _ else _) Q E _
  unfold Je reduceHash Jg at h
  by_cases hr:(decide (-(2:Int) ^ 63≤Builtin.Tuple.tupleHashOf (Bi w done)) && decide (Builtin.Tuple.tupleHashOf (Bi w done) < 2 ^ 63))=true
  ·rw [if_pos hr]
   rw [if_pos hr] at h
   exact wpAny_pure (by simpa [Nat.add_assoc] using h)
  ·rw [if_neg hr]
   rw [if_neg hr] at h
   exact wpAny_bind (wpAny_rule (wpAny_pure (by simpa [Nat.add_assoc] using h)))
mutual
theorem Jx:∀(d:PyData),kT d=true→GD prog w d
 | .int i,_=>fun A E s v as Q _ hr h=>by
   cases hr
   exact wpAny_pyHash_int h
 | .str x,_=>fun A E s v as Q _ hr h=>by
   cases hr
   exact wpAny_pyHash_str h
 | .tuple xs,h=>KO (HA xs (by unfold kT at h;exact h))
 | .none,h=>by simp [kT] at h
 | .bool _,h=>by simp [kT] at h
 | .list _,h=>by simp [kT] at h
 | .dict _,h=>by simp [kT] at h
theorem HA:∀(xs:List PyData),kTs xs=true→∀x∈xs,GD prog w x
 | [],_,x,hx=>by cases hx
 | y::r,h,x,hx=>by
   have h':kT y=true∧kTs r=true:=by unfold kTs at h;rwa [Bool.and_eq_true] at h
   have h1:=Jx y h'.1
   have h2:=HA r h'.2
   rcases List.mem_cons.mp hx with e | hx
   ·rw [e];exact h1
   ·exact h2 x hx
end
def E7 (prog:Program) (w:World) (d:PyData):Prop:=∀(n:Nat) (A:Around) (E:Value→Shared→Prop) (s:Shared) (v:Value) (as:List Addr) (Q:Bool→Shared→Prop),d.depth≤n→Reads s.heap v d as→Q true s→wpAny (model prog w) A (eqIsQuiet n v) Q E s
theorem Kc {xs:List PyData} (hP:∀x∈xs,E7 prog w x):E7 prog w (.tuple xs):=by
 intro n A E s v as Q hn hr h
 cases hr with
 | @tuple a o items n0 _ _ ho hc hd hi=>
 have hT:s.TypeIs (.ref a) "tuple":=⟨o,ho,hc⟩
 have hd1:PyData.depth (.tuple xs)=PyData.depthAll xs + 1:=by first | rfl | simp [PyData.depth,Nat.add_comm]
 cases n with
 | zero=>omega
 | succ n=>
 unfold eqIsQuiet
 refine wpAny_bind (wpAny_specialOf hT F.slot_tuple_eq.lookup ?_)
 show wpAny _ _ (isInstance (.ref a) (.type "tuple") >>=_) _ _ s
 refine wpAny_bind (wpAny_isInstance hT isSubtype_tuple_tuple ?_)
 simp only [Bool.not_true,Bool.false_eq_true,if_false]
 refine wpAny_bind (wpAny_seqItems ho hd ?_)
 refine wpAny_bind ?_
 show wpAny _ _ (forIn items _ _) _ _ s
 rw [←Array.forIn_toList]
 refine wpAny_forIn_list _ (fun rest r s'=>r.1=none∧s'=s∧∃left bs,ReadsAll s.heap rest left bs∧∀x∈left,x∈xs) _ ?_ ?_ _ _ ⟨rfl,rfl,xs,_,hi,fun x hx=>hx⟩
 ·rintro v rest r s' ⟨hr,rfl,left,bs,hl,hm⟩
  cases hl with
  | @cons _ _ k ks' as1 bs1 h1 hl'=>
    have hk:k∈xs:=hm k List.mem_cons_self
    have hdk:k.depth≤PyData.depthAll xs:=HE k hk
    refine wpAny_bind (hP k hk n _ _ _ _ as1 _ (by omega) h1 ?_)
    simp only [Bool.not_true,Bool.false_eq_true,if_false]
    exact wpAny_pure ⟨rfl,rfl,ks',bs1,hl',fun x hx=>hm x (List.mem_cons_of_mem _ hx)⟩
 ·rintro ⟨r1,r2⟩ s' ⟨hr,rfl,_⟩
  simp only at hr
  subst hr
  exact wpAny_pure h
mutual
theorem Hg:∀(d:PyData),kT d=true→E7 prog w d
 | .int i,_=>fun n A E s v as Q _ hr h=>by
   cases hr
   rw [eqIsQuiet_byValue _ rfl]
   exact wpAny_pure h
 | .str x,_=>fun n A E s v as Q _ hr h=>by
   cases hr
   rw [eqIsQuiet_byValue _ rfl]
   exact wpAny_pure h
 | .tuple xs,h=>Kc (FB xs (by unfold kT at h;exact h))
 | .none,h=>by simp [kT] at h
 | .bool _,h=>by simp [kT] at h
 | .list _,h=>by simp [kT] at h
 | .dict _,h=>by simp [kT] at h
theorem FB:∀(xs:List PyData),kTs xs=true→∀x∈xs,E7 prog w x
 | [],_,x,hx=>by cases hx
 | y::r,h,x,hx=>by
   have h':kT y=true∧kTs r=true:=by unfold kTs at h;rwa [Bool.and_eq_true] at h
   have h1:=Hg y h'.1
   have h2:=FB r h'.2
   rcases List.mem_cons.mp hx with e | hx
   ·rw [e];exact h1
   ·exact h2 x hx
end
mutual
theorem Gf {h h':Heap} {d:Addr} {o:Obj} {es ep} (ho:h.get? d=some o) (hd:o.data=.dict es ep) (hs:Heap.SameBut d h h'):∀(k:PyData) (v:Value) (as:List Addr),kT k=true→Reads h v k as→Reads h' v k as
 | .int i,v,as,_,r=>by cases r;exact .int i _
 | .str i,v,as,_,r=>by cases r;exact .str i _
 | .tuple xs,v,as,hk,r=>by
   cases r with
   | @tuple a ob items n _ _ h1 h2 h3 h4=>
     have hne:a≠d:=fun e=>by
      subst e
      rw [ho] at h1
      cases h1
      rw [hd] at h3
      cases h3
     exact .tuple ((hs.2 a hne).trans h1) h2 h3 (DG ho hd hs xs _ _ (by unfold kT at hk;exact hk) h4)
 | .none,_,_,h,_=>by simp [kT] at h
 | .bool _,_,_,h,_=>by simp [kT] at h
 | .list _,_,_,h,_=>by simp [kT] at h
 | .dict _,_,_,h,_=>by simp [kT] at h
theorem DG {h h':Heap} {d:Addr} {o:Obj} {es ep} (ho:h.get? d=some o) (hd:o.data=.dict es ep) (hs:Heap.SameBut d h h'):∀(k:List PyData) (v:List Value) (as:List Addr),kTs k=true→ReadsAll h v k as→ReadsAll h' v k as
 | [],v,as,_,r=>by cases r;exact .nil
 | x::xs,v,as,hk,r=>by
   have hk':kT x=true∧kTs xs=true:=by unfold kTs at hk;rwa [Bool.and_eq_true] at hk
   cases r with
   | cons h1 h2=>exact .cons (Gf ho hd hs x _ _ hk'.1 h1) (DG ho hd hs xs _ _ hk'.2 h2)
end
noncomputable instance decD:DecidableEq PyData:=fun a b=>Classical.propDecidable (a=b)
def keyT (d:PyData):Prop:=kT d=true∧d.depth≤8
noncomputable def Me (prog:Program) (w:World):HeapKind prog w PyData where
 is:=fun h d a=>keyT d∧∃as,Reads h (.ref a) d as
 hash:=Je w
 draws:=Jg
 room:=fun A=>A.units + 16 < cLine
 inj:=fun {h a x y} ⟨hx,as,rx⟩ ⟨_,bs,ry⟩=>PySem.SeqAt.Reads.unique x y (.ref a) as bs (GC hx.1) rx ry
 keeps:=fun {h h' k a d o es ep} ⟨hk,as,r⟩ ho hd hs=>⟨hk,as,Gf ho hd hs k _ as hk.1 r⟩
 pyHash:=fun {A E s k a Q} hu ⟨hk,as,r⟩ h=>Jx k hk.1 A E s _ as Q (by have:=hk.2;have hu:A.units + 16 < cLine:=hu;omega) r h
 eqBool:=fun {A E s x y a b Q} hu ⟨hx,as,rx⟩ ⟨hy,bs,ry⟩ h=>PySem.SeqAt.eqBoolOverData prog w A E s _ _ x y as bs Q rx ry (GC hx.1) (GC hy.1) (by have:=hx.2;have hu:A.units + 16 < cLine:=hu;omega) (by
  have e:PyData.eqv x y=decide (x=y):=by
   rw [Bool.eq_iff_iff,KJ x y hx.1 hy.1,decide_eq_true_iff]
  rw [e]
  exact h)
 quiet:=fun {A E s k a Q} ⟨hk,as,r⟩ h=>Hg k hk.1 8 A E s _ as Q hk.2 r h
end
def lef (L:List Addr) (H:Hp):Hp:=fun b=>if b∈L then none else H b
theorem AJ {L:List Addr} {H:Hp} {b:Addr} (h:b∈L):lef L H b=none:=by unfold lef;rw [if_pos h]
theorem Ay {L:List Addr} {H:Hp} {b:Addr} (h:b∉L):lef L H b=H b:=by unfold lef;rw [if_neg h]
theorem lef_same {L:List Addr} {H:Hp}:Same (lef L H) H:=fun b o e=>by
 by_cases h:b∈L
 ·rw [AJ h] at e;cases e
 ·rw [Ay h] at e;exact e
theorem Same.lef {L:List Addr} {H H':Hp} (s:Same H H'):Same (L2.lef L H) (L2.lef L H'):=fun b o e=>by
 by_cases h:b∈L
 ·rw [AJ h] at e;cases e
 ·rw [Ay h] at e ⊢;exact s b o e
theorem Mn {L M:List Addr} {H:Hp} (h:∀b∈L,b∈M):Same (lef M H) (lef L H):=fun b o e=>by
 by_cases hb:b∈M
 ·rw [AJ hb] at e;cases e
 ·rw [Ay hb] at e
  rw [Ay fun z=>hb (h b z)]
  exact e
mutual
theorem DV.lef {K:PySem.W.Frag} {H:Hp} {L:List Addr} (hp:∀b∈L,∀xs,¬Rd H b (.tup xs)):∀{v:V} {d:PyData},DV K H v d→noL d=true→DV K (L2.lef L H) v d
 | _,_,.non,_=>.non
 | _,_,.bl b,_=>.bl b
 | _,_,.int i,_=>.int i
 | _,_,.str x,_=>.str x
 | _,_,.tup (a:=a) h t,f=>by
   refine .tup ?_ (DVs.lef hp t (by unfold noL at f;exact f))
   rcases h with h | h
   ·have hn:a∉L:=fun z=>hp a z _ h
    refine .inl ?_
    rcases h with h | ⟨o,h⟩
    ·exact .inl (by rw [Ay hn];exact h)
    ·exact .inr ⟨o,by rw [Ay hn];exact h⟩
   ·exact .inr h
 | _,_,.lst h t,f=>by unfold noL at f;cases f
 | _,_,.dct h t,f=>by unfold noL at f;cases f
 | _,_,.exc h,f=>by unfold noL at f;cases f
 | _,_,.exr h h',f=>by unfold noL at f;cases f
 | _,_,.obj h n t,f=>by unfold noL at f;cases f
 | _,_,.dtt h,f=>by unfold noL at f;cases f
theorem DVs.lef {K:PySem.W.Frag} {H:Hp} {L:List Addr} (hp:∀b∈L,∀xs,¬Rd H b (.tup xs)):∀{vs:List V} {ds:List PyData},DVs K H vs ds→noLs ds=true→DVs K (L2.lef L H) vs ds
 | _,_,.nil,_=>.nil
 | _,_,.cons h t,f=>by
   unfold noLs at f
   rw [Bool.and_eq_true] at f
   exact .cons (DV.lef hp h f.1) (DVs.lef hp t f.2)
end
mutual
theorem Op:∀{d:PyData},kT d=true→noL d=true
 | .int _,_=>rfl
 | .str _,_=>rfl
 | .tuple xs,h=>by unfold noL;exact Jd (by unfold kT at h;exact h)
 | .none,h=>by simp [kT] at h
 | .bool _,h=>by simp [kT] at h
 | .list _,h=>by simp [kT] at h
 | .dict _,h=>by simp [kT] at h
theorem Jd:∀{ds:List PyData},kTs ds=true→noLs ds=true
 | [],_=>rfl
 | x::r,h=>by
   unfold kTs at h
   rw [Bool.and_eq_true] at h
   unfold noLs
   rw [Op h.1,Jd h.2]
   rfl
end
def NM (P:Program) (w:World) (da:Addr) (xs:List (PyData×Addr×Value)) (h:Heap):Prop:=
 (da==sysModules)=false∧xs.length≤sizeLine∧∃o es ep,h.get? da=some o∧o.ExactDict∧o.data=.dict es ep∧es.toList=xs.map (entryOfKey (Me P w))∧(xs.map (·.1)).Nodup
section
variable {X:Cx} {pins:List (Addr×Obj)} {σ:St} {H:Hp} {s:Shared} {da b:Addr} {d:PyData} {xs:List (PyData×Addr×Value)} {A:Around} {E:Value→Shared→Prop}
end
structure Reg where
 C:Addr
 a:Addr
 dx:Addr
 la:Addr
 da:Addr
abbrev Reg.L (R:Reg):List Addr:=[R.a,R.la,R.da]
def OU (K:PySem.W.Frag) (H:Hp) (T:List PyData) (xs:List (PyData×Addr×Value)):Prop:=
 xs.map (·.1)=T∧(∀x∈xs,DV K H (.ref x.2.1) x.1)∧∀(j:Nat) x,xs[j]?=some x→∃t,x.2.2=.int (j:Int) t
structure TabS (P:Program) (w:World) (K:PySem.W.Frag) (R:Reg) (T:List PyData) (Hb H:Hp) (fs:List (Str×V)) (vs:List V) (xs:List (PyData×Addr×Value)):Prop where
 obj:H R.a=some (.ins R.C R.dx fs)
 f1:fs.lookup ("atoms":Str)=some (.ref R.la)
 f2:fs.lookup ("numbers":Str)=some (.ref R.da)
 fn:∀m:Str,m≠"atoms"→m≠"numbers"→fs.lookup m=none
 lst:H R.la=some (.lst vs)
 num:H R.da=some (.ext (NM P w R.da xs))
 atoms:DVs K Hb vs T
 ents:OU K Hb T xs
 keys:∀d∈T,keyT d
 few:T.length < 1000
def Tb (P:Program) (w:World) (K:PySem.W.Frag) (R:Reg) (T:List PyData) (H:Hp):Prop:=∃fs vs xs,TabS P w K R T (lef R.L H) H fs vs xs
def RS (P:Program) (w:World) (K:PySem.W.Frag) (R:Reg) (G:Gam) (T:List PyData) (σ:St) (H:Hp):Prop:=σ[0]?=some (some (.ref R.a))∧Tb P w K R T H∧SD K (lef R.L H) σ G
section
variable {P:Program} {w:World} {K:PySem.W.Frag} {R:Reg} {G:Gam} {T:List PyData} {σ:St} {H H':Hp}
end
def tTR (P:Program) (w:World) (K:PySem.W.Frag) (R:Reg) (G:Gam) (T:List PyData) (d:PyData) (T':List PyData):TS:=fun D σ H=>RS P w K R G T σ H∧∀v H',Tb P w K R T' H'→Same (lef R.L H) (lef R.L H')→DV K (lef R.L H') v d→D.rt v H'
section
variable {X:Cx} {R:Reg} {G G1 G2:Gam} {T T1 T2:List PyData} {e c:Expr} {d:PyData} {k:Bool} {pos pos' pos2:Pos} {x f:Str}
end
structure ClsT (K:PySem.W.Frag) (C:Addr):Prop where
 cl:Cls K C
 n1:NoAttr K C "atoms"
 n2:NoAttr K C "numbers"
section
variable {X:Cx} {R:Reg} {G G1 G2:Gam} {T T1 T2:List PyData} {e c a:Expr} {es:List Expr} {d:PyData} {ds:List PyData} {k:Bool} {pos pos' pos2 pos3:Pos} {x f m:Str}
end
theorem Cq {L:List Addr} {H:Hp} {p:Addr} {o:HO} (h:p∈L):lef L (upd H p o)=lef L H:=by
 funext b
 by_cases hb:b∈L
 ·rw [AJ hb,AJ hb]
 ·rw [Ay hb,Ay hb,Aj fun z=>hb (by rw [z];exact h)]
section
variable {X:Cx} {R:Reg} {G G1 G2:Gam} {T T1 T2:List PyData} {e c a:Expr} {es:List Expr} {d:PyData} {ds:List PyData} {pos pos' pos2 pos3 pos4 pos5 p1 p2 p3 p4 p5 p6 p7:Pos} {x y f m:Str} {j:Nat}
def Mid (P:Program) (w:World) (K:PySem.W.Frag) (R:Reg) (G:Gam) (T:List PyData) (d:PyData) (σ:St) (H0 H:Hp):Prop:=
 σ[0]?=some (some (.ref R.a))∧SD K (lef R.L H0) σ G∧∃fs vs xs b t,TabS P w K R T (lef R.L H0) H0 fs vs xs∧DV K (lef R.L H0) (.ref b) d∧H=upd H0 R.da (.ext (NM P w R.da (xs++[(d,b,.int T.length t)])))
end
def spT (P:Program) (w:World) (K:PySem.W.Frag) (C:Addr) (F:List PyData→List PyData→PyData→List PyData→Prop):Sp:=fun vs H Q _=>∃(R:Reg) (T ds:List PyData) (d:PyData) (T':List PyData) (vr:List V),R.C=C∧vs=.ref R.a::vr∧Tb P w K R T H∧DVs K (lef R.L H) vr ds∧F T ds d T'∧
 ∀v H',Tb P w K R T' H'→Same (lef R.L H) (lef R.L H')→DV K (lef R.L H') v d→Q v H'
theorem SD.cons0 {K:PySem.W.Frag} {H:Hp} {σ:St} {G:Gam} (h:SD K H σ G) (o:Option V):SD K H (o::σ) (none::G):=⟨by simp [h.1],fun i d e=>by
 cases i with
 | zero=>simp at e
 | succ i=>
   simp at e
   obtain ⟨v,h1,h2⟩:=h.2 i d e
   exact ⟨v,by simpa using h1,h2⟩⟩
theorem Br (n:Str) (N:List Str) (v:V) (vs:List V):start (n::N) (v::vs)=some v::start N vs:=by
 unfold start
 simp
section
variable {P:Program} {w:World} {K:PySem.W.Frag} {mg:Str→Option Value} {base:Heap}
end
section
variable {X:Cx} {R:Reg} {G G1 G2:Gam} {T T1 T2:List PyData} {e c a:Expr} {es:List Expr} {d:PyData} {ds:List PyData} {k:Nat} {pos pos' pos2 apos:Pos} {x y m:Str}
end
section
variable {P:Program} {w:World} {K:PySem.W.Frag} {mg:Str→Option Value} {base:Heap}
end
abbrev Tm:=Int×List (Int×Int)
open PySem PySem.Spec PyProof.Rows in
abbrev kys (m:List (Int×Int)):List Int:=m.map (·.1)
def made (w:Int) (m:List (Int×Int)):Tm:=(w % 4096,((srtI (kys m)).filter fun a=>!decide (getI m a % 4096=0)).map fun a=>(a,getI m a % 4096))
def okA (a:Int):Prop:=0≤a∧a < 63
structure Wf (t:Tm):Prop where
 n:0≤t.1∧t.1 < 4096
 rise:(kys t.2).Pairwise (· < ·)
 at_:∀a∈kys t.2,okA a
 many:∀q∈t.2,0 < q.2∧q.2 < 4096
section
variable {t u v:Tm} {k n:Int}
end
section
variable {X:Cx}
end
section
variable {X:Cx} {G:Gam} {H0:Hp} {p:Addr} {i j:Nat} {e f o a:Expr} {pos pos' pos2 apos:Pos} {m:List (Int×Int)} {d:PyData} {x:Str}
end
section
variable {X:Cx} {H0:Hp} {p:Addr} {i j:Nat} {Pre Post:Gam→List (PyData×PyData)→Prop} {pos:Pos}
end
section
variable {X:Cx} {H0:Hp} {p:Addr} {i j:Nat} {Pre Post:Gam→List PyData→Prop} {pos:Pos}
end
section
variable {X:Cx} {R:Reg} {G G1 G2:Gam} {T T1 T2:List PyData} {e c a b:Expr} {es:List Expr} {d:PyData} {ds xs ys:List PyData} {k i:Nat} {pos pos' pos2 pos3 apos:Pos} {x f m:Str}
structure OT (P:Program) (w:World) (K:PySem.W.Frag) (R:Reg) (H0:Hp) (p:Addr) (T ws:List PyData) (σ:St) (H:Hp):Prop where
 len:σ.length=2
 s0:σ[0]?=some (some (.ref R.a))
 s1:σ[1]?=some (some (.ref p))
 off:p∉R.L
 lst:∃us,H p=some (.lst us)∧DVs K (lef (p::R.L) H) us ws
 tab:∃fs vs xs,TabS P w K R T (lef (p::R.L) H) H fs vs xs
 same:Same (lef R.L H0) (lef (p::R.L) H)
end
section
variable {P:Program} {w:World} {K:PySem.W.Frag} {mg:Str→Option Value} {base:Heap}
def MFn (P:Program) (w:World) (K:PySem.W.Frag) (mg:Str→Option Value) (base:Heap) (k:Nat) (C:Addr) (m:Str) (F:List PyData→PyData→Prop):Prop:=
 ∃f fd ps,FnOk P w K mg base CX0 k f fd ps (spD K F)∧Meth K C m f∧Binds K fd ps []
theorem Fun.dataM {x qual m:Str} {st:Stmt} {f:Addr} {fd:FuncData} {N ps:List Str} {k:Nat} {C:Addr} {F:List PyData→PyData→Prop} (F0:Fun K x qual st f fd) (hm:Meth K C m f) (hb:Binds K fd ps []) (S:FnScope N ps (Ae st)) (len:∀ds d,F ds d→ds.length=ps.length)
  (hbody:∀(cdv:Value) (A:Around) (outer:List Env) (s:Shared) (H:Hp) (E:XK) (ds:List PyData) (d:PyData),Room k (A.deeper (envOfC qual (Ae st) s.heap.objs.size f cdv))→F ds d→
   SVs (cxOf CX0 P w K mg base N qual (Ae st) f cdv A outer s H E).nox (AO N ds) (AG st) (.ret d)):MFn P w K mg base (k + 1) C m F:=
 ⟨f,fd,ps,F0.ok S (fun vs H Q E ⟨ds,d,h1,h2,_⟩=>h1.length.trans (len ds d h2)) (fun cdv A outer s H vs Q E hr ⟨ds,d,h1,h2,q⟩=>⟨_,hbody cdv A outer s H E ds d hr h2,SD.start h1,q⟩),hm,hb⟩
end
section
variable {X:Cx} {G:Gam} {C:Addr} {k k2 i j:Nat} {e:Expr} {es:List Expr} {ds T:List PyData} {d:PyData} {fls:List (PyData×PyData)} {pos pos2 apos p1 p2 p3 p4 p5 p6 p7 p8 p9:Pos} {x m xt xa xf:Str}
theorem Bm {F:List PyData→PyData→Prop} {pl:Sem Bool} (cl:Cls X.K C) (D:MFn X.prog X.w X.K X.mg X.base k C m F) (hr:Room k X.A) (hv:EV X G (.Name x pos2) (objD C fls)) (ha:AV X G (e::es) ds) (hF:F (objD C fls::ds) d) (h1:m∉AZ:=by decide)
  (hst:starEach (e::es) X.env=(false,eval e X.env)::starEach es X.env:=by rfl) (hpl:(backTo pos (starEach es X.env)).any (·.1)=false:=by rfl)
  (ht:eval (.Call (.Attribute (.Name x pos2) m apos) (e::es) [] pos) X.env=(do
   let ov ←eval (.Name x pos2) X.env
   standAt apos.atName
   let (f,first) ←holding [ov] (getMethod ov m pl)
   callWith pos f first (backTo pos (starEach (e::es) X.env)) (backToKw pos (keywordEach [] X.env))):=by rfl):
  EV X G (.Call (.Attribute (.Name x pos2) m apos) (e::es) [] pos) d:=by
 obtain ⟨f,fd,ps,ok,hm,hb⟩:=D
 refine (G9 (E:=E0) (dvs:=[]) (ds:=[]) hv cl hm ok hr hb .nil Dw ha hst hpl ht).imp fun σ H Q ⟨h,q⟩=>⟨h,fun v H1 s1 d1=>?_⟩
 obtain ⟨a,dx,fs,rfl,ho,hf,hn⟩:=d1.of_objN
 refine ⟨a,dx,fs,rfl,ho,hn m h1,h.mono s1,fun vs H2 s2 dvs=>?_⟩
 show spD X.K F (V.ref a::(vs++[])) H2 Q E0
 rw [List.append_nil]
 exact ⟨_,d,.cons (d1.mono s2) dvs,hF,fun v H3 s3 d3=>q v H3 ((s1.trans s2).trans s3) d3⟩
theorem AM {F:List PyData→PyData→Prop} {pl:Sem Bool} (cl:Cls X.K C) (D:MFn X.prog X.w X.K X.mg X.base k C m F) (hr:Room k X.A) (hv:EV X G (.Name x pos2) (objD C fls)) (hF:F [objD C fls] d) (h1:m∉AZ:=by decide)
  (ht:eval (.Call (.Attribute (.Name x pos2) m apos) [] [] pos) X.env=(do
   let ov ←eval (.Name x pos2) X.env
   standAt apos.atName
   let (f,first) ←holding [ov] (getMethod ov m pl)
   callWith pos f first (backTo pos (starEach [] X.env)) (backToKw pos (keywordEach [] X.env))):=by rfl):
  EV X G (.Call (.Attribute (.Name x pos2) m apos) [] [] pos) d:=by
 obtain ⟨f,fd,ps,ok,hm,hb⟩:=D
 refine (GY (E:=E0) (dvs:=[]) (ds:=[]) hv cl hm ok hr hb .nil Dw ht).imp fun σ H Q ⟨h,q⟩=>⟨h,fun v H1 s1 d1=>?_⟩
 obtain ⟨a,dx,fs,rfl,ho,hf,hn⟩:=d1.of_objN
 refine ⟨a,dx,fs,rfl,ho,hn m h1,?_⟩
 show spD X.K F (V.ref a::([]++[])) H1 Q E0
 exact ⟨_,d,.cons d1 .nil,hF,fun v H3 s3 d3=>q v H3 (s1.trans s3) d3⟩
theorem A7 {f:Str} (cl:Cls X.K C) (hn:NoAttr X.K C f) (hv:EV X G (.Name x pos2) (objD C fls)) (hf:(.str f,d)∈fls) (hb:attributeBase (.Name x pos2) f X.env (eval (.Name x pos2) X.env)=eval (.Name x pos2) X.env:=by rfl):EV X G (.Attribute (.Name x pos2) f pos) d:=
 (Ix hv hb).imp fun σ H Q ⟨h,q⟩=>⟨h,fun v H1 s1 d1=>by
  obtain ⟨a,dx,fs,rfl,ho,hfl,_⟩:=d1.of_objN
  obtain ⟨u,e,du⟩:=hfl.get hf
  exact ⟨a,C,dx,fs,u,rfl,ho,cl,hn,e,q u H1 s1 du⟩⟩
end
section
variable {X:Cx} {G:Gam} {x:Str} {pos:Pos} {d:PyData}
end
section
variable {prog:Program} {w:World} {A:Around} {E:Value→Shared→Prop} {s:Shared}
end
section
variable {X:Cx} {G:Gam} {pos:Pos} {e c a b tg:Expr} {d:PyData}
def bindL (is:List Nat) (d:PyData) (G:Gam):Gam:=match d with
 | .list ds=>J7 is ds G
 | _=>G
end
structure ZOk (L:List Addr) (I:Hp→Prop):Prop where
 step:∀{H H':Hp},I H→Same H H'→I H'
 notup:∀{H:Hp},I H→∀b∈L,∀xs,¬Rd H b (.tup xs)
 free:∀{H:Hp} {p:Addr},I H→H p=none→p∉L
def RZ (K:PySem.W.Frag) (L:List Addr) (I:Hp→Prop) (rs:List (Nat×Addr)) (G:Gam) (σ:St) (H:Hp):Prop:=(∀q∈rs,σ[q.1]?=some (some (.ref q.2)))∧I H∧SD K (lef L H) σ G
def zE (K:PySem.W.Frag) (L:List Addr) (I:Hp→Prop) (rs:List (Nat×Addr)) (G:Gam) (d:PyData) (I':Hp→Prop):TE:=fun σ H Q=>RZ K L I rs G σ H∧∀v H',I' H'→Same (lef L H) (lef L H')→DV K (lef L H') v d→Q v H'
abbrev ZE (X:Cx) (L:List Addr) (I:Hp→Prop) (rs:List (Nat×Addr)) (G:Gam) (e:Expr) (d:PyData) (I':Hp→Prop):Prop:=PE X e (zE X.K L I rs G d I')
def zT (K:PySem.W.Frag) (L:List Addr) (I:Hp→Prop) (rs:List (Nat×Addr)) (G:Gam) (k:Bool):TT:=fun σ H Q=>RZ K L I rs G σ H∧∀H',RZ K L I rs G σ H'→Same (lef L H) (lef L H')→Q k H'
abbrev ZT (X:Cx) (L:List Addr) (I:Hp→Prop) (rs:List (Nat×Addr)) (G:Gam) (e:Expr) (k:Bool):Prop:=PT X e (zT X.K L I rs G k)
def zA (K:PySem.W.Frag) (L:List Addr) (I:Hp→Prop) (rs:List (Nat×Addr)) (G:Gam) (ds:List PyData) (I':Hp→Prop):TA:=fun σ H Q=>RZ K L I rs G σ H∧∀vs H',I' H'→Same (lef L H) (lef L H')→DVs K (lef L H') vs ds→Q vs H'
abbrev ZA (X:Cx) (L:List Addr) (I:Hp→Prop) (rs:List (Nat×Addr)) (G:Gam) (es:List Expr) (ds:List PyData) (I':Hp→Prop):Prop:=PA X es (zA X.K L I rs G ds I')
def zN (K:PySem.W.Frag) (L:List Addr) (I:Hp→Prop) (rs:List (Nat×Addr)) (G G':Gam) (I':Hp→Prop):TS:=fun D σ H=>RZ K L I rs G σ H∧∀σ' H',RZ K L I' rs G' σ' H'→Same (lef L H) (lef L H')→D.nx σ' H'
def zR (K:PySem.W.Frag) (L:List Addr) (I:Hp→Prop) (rs:List (Nat×Addr)) (G:Gam) (d:PyData) (I':Hp→Prop):TS:=fun D σ H=>RZ K L I rs G σ H∧∀v H',I' H'→Same (lef L H) (lef L H')→DV K (lef L H') v d→D.rt v H'
section
variable {X:Cx} {L:List Addr} {I I1 I2:Hp→Prop} {rs:List (Nat×Addr)} {G G1 G2:Gam} {e c a b:Expr} {es:List Expr} {d:PyData} {ds:List PyData} {k:Bool} {pos pos' pos2 apos:Pos} {x f m:Str} {i:Nat}
theorem RZ.sd {K:PySem.W.Frag} {σ:St} {H:Hp} (r:RZ K L I rs G σ H):SD K H σ G:=r.2.2.mono lef_same
theorem RZ.step {K:PySem.W.Frag} {σ:St} {H H':Hp} (ok:ZOk L I) (r:RZ K L I rs G σ H) (s:Same H H'):RZ K L I rs G σ H':=⟨r.1,ok.step r.2.1 s,r.2.2.mono s.lef⟩
theorem RZ.next {K:PySem.W.Frag} {σ:St} {H H':Hp} (r:RZ K L I rs G σ H) (i:I1 H') (s:Same (lef L H) (lef L H')):RZ K L I1 rs G σ H':=⟨r.1,i,r.2.2.mono s⟩
theorem BW (ok:ZOk L I) (h:EV X G e d) (hn:noL d=true):ZE X L I rs G e d I:=h.imp fun σ H Q ⟨r,q⟩=>⟨r.sd,fun v H' s' dv=>q v H' (ok.step r.2.1 s') s'.lef (DV.lef (ok.notup (ok.step r.2.1 s')) dv hn)⟩
theorem AW (ok:ZOk L I) (h:TV X G c k):ZT X L I rs G c k:=h.imp fun σ H Q ⟨r,q⟩=>⟨r.sd,fun H' s'=>q H' (r.step ok s') s'.lef⟩
theorem IB:ZA X L I rs G [] [] I:=pa_nil.imp fun σ H Q ⟨r,q⟩=>q [] H r.2.1 (Same.refl _) .nil
theorem E9 (h:ZE X L I rs G e d I1) (hr:ZA X L I1 rs G es ds I2) (hs:starEach (e::es) X.env=(false,eval e X.env)::starEach es X.env:=by rfl):ZA X L I rs G (e::es) (d::ds) I2:=
 (Cn h hr hs).imp fun σ H Q ⟨r,q⟩=>⟨r,fun v H1 t1 s1 d1=>⟨r.next t1 s1,fun vs H2 t2 s2 d2=>q (v::vs) H2 t2 (s1.trans s2) (.cons (d1.mono s2) d2)⟩⟩
theorem LM {A sts:List Stmt} (h:ZT X L I rs G c k) (h1:k=true→PSs X A (zR X.K L I rs G d I1)) (h2:k=false→PSs X sts (zR X.K L I rs G d I1)):PSs X (.If c A [] pos::sts) (zR X.K L I rs G d I1):=by
 cases k with
 | true=>exact (A4 (DE h (h1 rfl) (AD (sts:=[]))) (AD (sts:=sts))).imp fun D σ H ⟨r,q⟩=>⟨r,fun H' r' s'=>iteT ⟨r',fun v H2 t2 s2 dv=>q v H2 t2 (s'.trans s2) dv⟩⟩
 | false=>exact (A4 (DE h (AD (sts:=A)) pss_nil) (h2 rfl)).imp fun D σ H ⟨r,q⟩=>⟨r,fun H' r' s'=>iteF ⟨r',fun v H2 t2 s2 dv=>q v H2 t2 (s'.trans s2) dv⟩⟩
theorem B8 {A B:List Stmt} (h:ZT X L I rs G c k) (h1:k=true→PSs X A (zN X.K L I rs G G1 I1)) (h2:k=false→PSs X B (zN X.K L I rs G G1 I1)):PS X (.If c A B pos) (zN X.K L I rs G G1 I1):=by
 cases k with
 | true=>exact (DE h (h1 rfl) (AD (sts:=B))).imp fun D σ H ⟨r,q⟩=>⟨r,fun H' r' s'=>iteT ⟨r',fun σ2 H2 r2 s2=>q σ2 H2 r2 (s'.trans s2)⟩⟩
 | false=>exact (DE h (AD (sts:=A)) (h2 rfl)).imp fun D σ H ⟨r,q⟩=>⟨r,fun H' r' s'=>iteF ⟨r',fun σ2 H2 r2 s2=>q σ2 H2 r2 (s'.trans s2)⟩⟩
theorem Cv {st:Stmt} {sts:List Stmt} (h1:PS X st (zN X.K L I rs G G1 I1)) (h2:PSs X sts (zR X.K L I1 rs G1 d I2)):PSs X (st::sts) (zR X.K L I rs G d I2):=
 (A4 h1 h2).imp fun D σ H ⟨r,q⟩=>⟨r,fun σ' H' r' s'=>⟨r',fun v H2 t2 s2 dv=>q v H2 t2 (s'.trans s2) dv⟩⟩
theorem Aq {st:Stmt} {sts:List Stmt} (h1:PS X st (zN X.K L I rs G G1 I1)) (h2:PSs X sts (zN X.K L I1 rs G1 G2 I2)):PSs X (st::sts) (zN X.K L I rs G G2 I2):=
 (A4 h1 h2).imp fun D σ H ⟨r,q⟩=>⟨r,fun σ' H' r' s'=>⟨r',fun σ2 H2 r2 s2=>q σ2 H2 r2 (s'.trans s2)⟩⟩
theorem AA:PSs X [] (zN X.K L I rs G G I):=pss_nil.imp fun D σ H ⟨r,q⟩=>q σ H r (Same.refl _)
theorem Fg {sts:List Stmt} (h:ZE X L I rs G e d I1):PSs X (.Return (some e) pos::sts) (zR X.K L I rs G d I1):=
 (A4 (Ed h) (AD (sts:=sts))).imp fun D σ H ⟨r,q⟩=>⟨r,q⟩
theorem Cp (hN:X.N.Nodup) (hi:X.N[i]?=some x) (hi0:i∉rs.map (·.1)) (hx:Loc X.env.scope x) (h:ZE X L I rs G e d I1) (hs:swapsWith e (some (.Name x pos')) pos.line X.env=pure false:=by rfl)
  (hf:X.fn x=true∨X.env.scope.names.lookup x=some .local:=by first | exact .inl rfl | exact .inr rfl | assumption):PS X (.Assign [.Name x pos'] e pos) (zN X.K L I rs G (G.set i (some d)) I1):=
 (Eh hN hi hx h hs hf).imp fun D σ H ⟨r,q⟩=>⟨r,fun v H1 t1 s1 d1=>q _ H1 ⟨fun z hz=>by rw [List.getElem?_set_ne fun y=>hi0 (List.mem_map.mpr ⟨z,hz,y.symm⟩)];exact r.1 z hz,t1,(r.2.2.mono s1).set d1⟩ s1⟩
end
def Kz (K:PySem.W.Frag) (p:Addr) (S:List PyData) (H:Hp):Prop:=∃us,H p=some (.lst us)∧DVs K (lef [p] H) us S∧noLs S=true
theorem kz_ok {K:PySem.W.Frag} {p:Addr} {S:List PyData}:ZOk [p] (Kz K p S) where
 step:=fun ⟨us,h1,h2,h3⟩ s=>⟨us,s _ _ h1,h2.mono s.lef,h3⟩
 notup:=fun ⟨us,h1,_⟩ b hb xs r=>by
  have:=List.mem_singleton.mp hb
  subst this
  rcases r with r | ⟨q,r⟩ <;> (rw [h1] at r;cases r)
 free:=fun ⟨us,h1,_⟩ hp hm=>by
  have:=List.mem_singleton.mp hm
  subst this
  rw [h1] at hp
  cases hp
def spK (K:PySem.W.Frag) (F:List PyData→List PyData→PyData→List PyData→Prop):Sp:=fun vs H Q _=>∃(p:Addr) (S ds:List PyData) (d:PyData) (S':List PyData) (vr:List V),vs=.ref p::vr∧Kz K p S H∧DVs K (lef [p] H) vr ds∧F S ds d S'∧
 ∀v H',Kz K p S' H'→Same (lef [p] H) (lef [p] H')→DV K (lef [p] H') v d→Q v H'
def KFn (P:Program) (w:World) (K:PySem.W.Frag) (mg:Str→Option Value) (base:Heap) (k:Nat) (x:Str) (F:List PyData→List PyData→PyData→List PyData→Prop):Prop:=
 ∃f fd ps,FnOk P w K mg base CX0 k f fd ps (spK K F)∧mg x=some (.ref f)∧PySem.W.keepIn K (.ref f)=true∧Binds K fd ps []
section
variable {X:Cx} {G G1 G2:Gam} {e c a b:Expr} {es:List Expr} {d:PyData} {ds S:List PyData} {k i:Nat} {pos pos' pos2 apos p1:Pos} {x y f m:Str} {p:Addr} {rs:List (Nat×Addr)}
end
section
variable {X:Cx} {G:Gam} {o e:Expr} {pos:Pos} {d:PyData} {xs:List PyData}
end
section
variable {X:Cx} {L:List Addr} {I I1 I2:Hp→Prop} {rs:List (Nat×Addr)} {G G1 G2:Gam} {e c a b:Expr} {es:List Expr} {d:PyData} {ds:List PyData} {k:Bool} {pos pos' pos2 apos:Pos} {x f m:Str} {i:Nat}
end
def TKz (P:Program) (w:World) (K:PySem.W.Frag) (R:Reg) (ka:Addr) (T S:List PyData) (H:Hp):Prop:=Tb P w K R T H∧ka∉R.L∧∃us,H ka=some (.lst us)∧DVs K (lef (ka::R.L) H) us S∧noLs S=true
abbrev tkL (R:Reg) (ka:Addr):List Addr:=ka::R.L
section
variable {X:Cx} {R:Reg} {ka:Addr} {rs:List (Nat×Addr)} {G G1 G2:Gam} {T T1 T2 S S':List PyData} {e c a b:Expr} {es:List Expr} {d:PyData} {ds:List PyData} {k i:Nat} {pos pos' pos2 apos p1:Pos} {x f m:Str}
end
section
variable {X:Cx} {R:Reg} {ka:Addr} {rs:List (Nat×Addr)} {G G1 G2:Gam} {T T1 T2 S S':List PyData} {e c a b:Expr} {es:List Expr} {d:PyData} {ds:List PyData} {k i j:Nat} {pos pos' pos2 pos3 apos p1:Pos} {x y f m:Str}
end
structure LS (P:Program) (w:World) (K:PySem.W.Frag) (R:Reg) (ka q:Addr) (H0:Hp) (T told:List PyData) (G:Gam) (σ:St) (H:Hp):Prop where
 r1:σ[1]?=some (some (.ref R.a))
 r2:σ[2]?=some (some (.ref ka))
 r3:σ[3]?=some (some (.ref q))
 tk:TKz P w K R ka T T H
 off:q∉tkL R ka
 lst:∃us,H q=some (.lst us)∧DVs K (lef (q::tkL R ka) H) us told
 nl:noLs told=true
 sd:SD K (lef (q::tkL R ka) H) σ G
 sm:Same H0 (lef (q::tkL R ka) H)
section
variable {P:Program} {w:World} {K:PySem.W.Frag} {R:Reg} {ka q:Addr} {H0:Hp} {T told:List PyData} {G:Gam} {σ:St} {H H':Hp}
theorem Gg {i:Nat} {v:V} (h:σ[i]?=some (some v)):σ.set i (some v)=σ:=by
 refine List.ext_getElem? fun j=>?_
 by_cases hj:i=j
 ·subst hj
  rw [List.getElem?_set_self (List.getElem?_eq_some_iff.mp h).1,h]
 ·rw [List.getElem?_set_ne hj]
end
section
variable {X:Cx} {C:Addr} {H0:Hp} {T told T1 told1 T2 told2:List PyData} {G G1 G2:Gam} {e c:Expr} {es:List Expr} {d:PyData} {k i j:Nat} {pos pos' pos2 pos3 pos4 apos p1 p2 p3 p4 p5:Pos} {x y z f:Str}
end
section
variable {X:Cx} {G:Gam} {a:Expr} {pos:Pos}
theorem GF {α:Type} (D:α→PyData) (xs:List α) (x:α):atI ((xs++[x]).map D) (-1)=some (D x):=by
 unfold atI
 have e:ixN ((xs++[x]).map D).length (-1)=some xs.length:=by
  unfold ixN
  rw [if_neg (by decide)]
  rw [if_pos (by simp;omega)]
  simp
  omega
 rw [e]
 simp
end
section
variable {X:Cx} {C:Addr} {G:Gam} {k k2 i j:Nat} {sts body:List Stmt} {tg c:Expr} {pos p1 p2 p3 p4 p5 p6 p7 p8 p9 q1 q2 q3 q4 q5 q6:Pos} {x xt xk xo:Str}
end
def Mo (a b:Int):Prop:=∃c:Int,a=b + 4096 * c
inductive Atm where
 | box (k:Int)
 | tru (k:Int)
 | cel (t:Tm) (n:Int)
 | two (o:Nat) (t u:Tm)
structure Sta where
 bx:List Int
 tr:List Bool
 rd:List ((Int×Int)×Int)
section
section
variable {X:Cx} {G:Gam} {o f a b:Expr} {pos apos tp:Pos} {kt} {m:List ((Int×Int)×Int)}
end
theorem Dx {H:Hp} {p a:Addr} {kvs:List (List Key×V)} {o:HO} (hp:H p=some (.dT kvs)) (e:H a=some o) (n:∀k,o≠.dT k):a≠p:=fun c=>by subst c;rw [hp] at e;cases e;exact n _ rfl
mutual
theorem DV.noDT {K:PySem.W.Frag} {H H':Hp} {p:Addr} {kvs:List (List Key×V)} (hp:H p=some (.dT kvs)) (hH:∀a,a≠p→H' a=H a):∀{v:V} {d:PyData},DV K H v d→noK d=true→DV K H' v d
 | _,_,.non,_=>.non
 | _,_,.bl b,_=>.bl b
 | _,_,.int i,_=>.int i
 | _,_,.str x,_=>.str x
 | _,_,.tup (a:=a) h t,f=>by
   refine .tup ?_ (DVs.noDT hp hH t (by unfold noK at f;exact f))
   rcases h with (h | ⟨o,h⟩) | h
   ·exact .inl (.inl (by rw [hH a (Dx hp h fun _ c=>by cases c)];exact h))
   ·exact .inl (.inr ⟨o,by rw [hH a (Dx hp h fun _ c=>by cases c)];exact h⟩)
   ·exact .inr h
 | _,_,.lst (a:=a) h t,f=>by
   refine .lst ?_ (DVs.noDT hp hH t (by unfold noK at f;exact f))
   rcases h with (h | ⟨o,h⟩) | h
   ·exact .inl (.inl (by rw [hH a (Dx hp h fun _ c=>by cases c)];exact h))
   ·exact .inl (.inr ⟨o,by rw [hH a (Dx hp h fun _ c=>by cases c)];exact h⟩)
   ·exact .inr h
 | _,_,.dct h t,f=>by unfold noK at f;cases f
 | _,_,.exc h,f=>by unfold noK at f;cases f
 | _,_,.exr h h',f=>by unfold noK at f;cases f
 | _,_,.obj h n t,f=>by unfold noK at f;cases f
 | _,_,.dtt h,f=>by unfold noK at f;cases f
theorem DVs.noDT {K:PySem.W.Frag} {H H':Hp} {p:Addr} {kvs:List (List Key×V)} (hp:H p=some (.dT kvs)) (hH:∀a,a≠p→H' a=H a):∀{v:List V} {d:List PyData},DVs K H v d→noKs d=true→DVs K H' v d
 | _,_,.nil,_=>.nil
 | _,_,.cons h t,f=>by
   unfold noKs at f
   rw [Bool.and_eq_true] at f
   exact .cons (DV.noDT hp hH h f.1) (DVs.noDT hp hH t f.2)
end
abbrev PM:=List ((Int×Int)×Int)
abbrev QP (G:Gam) (i:Nat) (m:PM):Gam:=G.set i (some (.dict (ppE m)))
def OP (K:PySem.W.Frag) (H0:Hp) (p:Addr) (i:Nat) (G:Gam) (m:PM) (σ:St) (H:Hp):Prop:=
 ∃Hb,H=upd Hb p (.dT (ppK m))∧Hb p=none∧Same H0 Hb∧SD K Hb σ G∧σ[i]?=some (some (.ref p))
section
variable {X:Cx} {H0:Hp} {p:Addr} {i j:Nat} {Pre Mid Post:Gam→PM→Prop} {e c a b f:Expr} {pos pos' pos2 tp:Pos} {kt} {x:Str} {G:Gam} {d:PyData}
end
end
section
variable {prog:Program} {w:World} {A:Around}
variable {E:Value→Shared→Prop} {s:Shared}
end
section
variable {X:Cx} {G:Gam} {a b:Expr} {pos p kp:Pos} {ns:List Int} {d:Int}
end
section
variable {X:Cx} {G:Gam} {a b:Expr} {pos p:Pos}
end
section
variable {X:Cx} {G:Gam} {a e:Expr} {pos p2:Pos}
end
section
variable {X:Cx} {L:List Addr} {I I1 I2:Hp→Prop} {rs:List (Nat×Addr)} {G G1 G2:Gam} {e c a b:Expr} {es:List Expr} {d:PyData} {ds ws:List PyData} {k:Bool} {pos pos' pos2 apos:Pos} {x f m:Str} {i j:Nat}
theorem GU {A:List Stmt} (ok:ZOk L I) (h:ZT X L I rs G c false):PS X (.If c A [] pos) (zN X.K L I rs G G I):=B8 h (fun z=>by cases z) (fun _=>AA)
end
section
variable {X:Cx} {R:Reg} {rs:List (Nat×Addr)} {G G1 G2:Gam} {T T1 T2:List PyData} {e c a b:Expr} {es:List Expr} {d:PyData} {ds:List PyData} {k i j:Nat} {pos pos' pos2 apos p1:Pos} {x f m:Str}
end
section
variable {X:Cx} {C:Addr} {G:Gam} {k i:Nat} {sts:List Stmt} {d:PyData} {p1 p2 p3 p4:Pos} {x xt:Str}
end
section
variable {X:Cx} {R:Reg} {rs:List (Nat×Addr)} {G:Gam} {T T1:List PyData} {es:List Expr} {d:PyData} {ds:List PyData} {k i:Nat} {pos pos2 p1:Pos} {x f:Str}
end
def hM:Nat:=2 ^ 64
def hP1:Nat:=11400714785074694791
def hP2:Nat:=14029467366897019727
def hQ2:Nat:=839798700976720815
def hC:Nat:=2 ^^^ (2870177450012600261 ^^^ 3527539)
def hRot (x:Nat):Nat:=(x * 2 ^ 31) % hM + x / 2 ^ 33
def hF (acc h:Nat):Nat:=(hRot ((acc + h * hP2) % hM) * hP1) % hM
def hG (a b:Nat):Nat:=(hF (hF 2870177450012600261 a) b + hC) % hM
def hB (a:Nat):Nat:=hF 2870177450012600261 a * hQ2 % hM
section
variable {prog:Program} {w:World} {A:Around} {E:Value→Shared→Prop} {s:Shared} {K:Type} [DecidableEq K] {knd:KeyKind prog w K}
end
structure PPAt (h:Heap) (a:Addr) (m:List ((Int×Int)×Int)) (xs:List (List Key×Addr×Value)):Prop where
 len:xs.length=m.length
 at_:∀(i:Nat) q,m[i]?=some q→∃b t,xs[i]?=some ([.inl q.1.1,.inl q.1.2],b,.int q.2 t)
 dct:∀(P:Program) (w:World),h.DictOfH (tupleKind (Bk P w)) a xs
section
variable {prog:Program} {w:World} {A:Around} {E:Value→Shared→Prop} {s:Shared}
end
theorem three {K:PySem.W.Frag} {H:Hp} {vs:List V} {d1 d2 d3:PyData} (h:DVs K H vs [d1,d2,d3]):∃x y z,vs=[x,y,z]∧DV K H x d1∧DV K H y d2∧DV K H z d3:=by
 cases h with
 | cons h t=>
   obtain ⟨y,z,rfl,h2,h3⟩:=t.two
   exact ⟨_,y,z,rfl,h,h2,h3⟩
structure OR where
 C:Addr
 a:Addr
 dx:Addr
 ls:List (Str×Addr)
abbrev OR.L (R:OR):List Addr:=R.a::R.dx::R.ls.map (·.2)
abbrev LF:=List (Str×List PyData)
abbrev DF:=List (Str×PyData)
def upL (f:Str) (ds:List PyData) (lf:LF):LF:=lf.map fun q=>if q.1=f then (q.1,ds) else q
def upD (f:Str) (d:PyData) (df:DF):DF:=df.map fun q=>if q.1=f then (q.1,d) else q
theorem K8 (f:Str) (ds:List PyData) (lf:LF):(upL f ds lf).map (·.1)=lf.map (·.1):=by
 unfold upL
 rw [List.map_map]
 exact List.map_congr_left fun q _=>by show (if q.1=f then (q.1,ds) else q).1=q.1;split <;> rfl
theorem Hw (f:Str) (d:PyData) (df:DF):(upD f d df).map (·.1)=df.map (·.1):=by
 unfold upD
 rw [List.map_map]
 exact List.map_congr_left fun q _=>by show (if q.1=f then (q.1,d) else q).1=q.1;split <;> rfl
theorem MO {f:Str} {ds:List PyData} {lf:LF} {q:Str×List PyData} (h:q∈upL f ds lf):(q.1=f∧q.2=ds∧f∈lf.map (·.1))∨(q.1≠f∧q∈lf):=by
 unfold upL at h
 obtain ⟨r,hr,e⟩:=List.mem_map.mp h
 split at e
 ·rename_i z
  refine .inl ⟨by rw [←e];exact z,by rw [←e],?_⟩
  rw [←z]
  exact List.mem_map_of_mem hr
 ·rename_i z
  subst e
  exact .inr ⟨z,hr⟩
theorem Jn {f:Str} {d:PyData} {df:DF} {q:Str×PyData} (h:q∈upD f d df):(q.1=f∧q.2=d∧f∈df.map (·.1))∨(q.1≠f∧q∈df):=by
 unfold upD at h
 obtain ⟨r,hr,e⟩:=List.mem_map.mp h
 split at e
 ·rename_i z
  refine .inl ⟨by rw [←e];exact z,by rw [←e],?_⟩
  rw [←z]
  exact List.mem_map_of_mem hr
 ·rename_i z
  subst e
  exact .inr ⟨z,hr⟩
theorem EX {f:Str} {v x:V}:∀{fs:List (Str×V)},fs.lookup f=some x→(putF f v fs).length=fs.length
 | [],h=>by cases h
 | (g,y)::r,h=>by
   show (if g=f then (g,v)::r else (g,y)::putF f v r).length=_
   by_cases e:g=f
   ·rw [if_pos e];rfl
   ·rw [if_neg e,List.length_cons,List.length_cons]
    rw [List.lookup_cons,show (f==g)=false from beq_eq_false_iff_ne.mpr (Ne.symm e)] at h
    rw [EX h]
structure OzS (K:PySem.W.Frag) (R:OR) (lf:LF) (df:DF) (Hb H:Hp) (fs:List (Str×V)):Prop where
 obj:H R.a=some (.ins R.C R.dx fs)
 own1:H R.dx=some (.own R.a)
 few:fs.length≤40
 nam:∀m:Str,m∉AZ→fs.lookup m=none
 nda:R.L.Nodup
 apart:∀q∈df,q.1∉lf.map (·.1)
 own:∀q∈R.ls,∃us,H q.2=some (.lst us)
 lst:∀q∈lf,∃p us,(q.1,p)∈R.ls∧fs.lookup q.1=some (.ref p)∧H p=some (.lst us)∧DVs K Hb us q.2∧noLs q.2=true
 dat:∀q∈df,∃v,fs.lookup q.1=some v∧DV K Hb v q.2
def Oz (K:PySem.W.Frag) (R:OR) (lf:LF) (df:DF) (H:Hp):Prop:=∃fs,OzS K R lf df (lef R.L H) H fs
theorem OzS.mono {K:PySem.W.Frag} {R:OR} {lf:LF} {df:DF} {Hb Hb' H H':Hp} {fs:List (Str×V)} (t:OzS K R lf df Hb H fs) (s:Same Hb Hb') (s2:Same H H'):OzS K R lf df Hb' H' fs:=
 ⟨s2 _ _ t.obj,s2 _ _ t.own1,t.few,t.nam,t.nda,t.apart,fun q hq=>let ⟨us,h⟩:=t.own q hq;⟨us,s2 _ _ h⟩,fun q hq=>let ⟨p,us,h1,h2,h3,h4,h5⟩:=t.lst q hq;⟨p,us,h1,h2,s2 _ _ h3,h4.mono s,h5⟩,fun q hq=>let ⟨v,h1,h2⟩:=t.dat q hq;⟨v,h1,h2.mono s⟩⟩
theorem oz_ok {K:PySem.W.Frag} {R:OR} {lf:LF} {df:DF}:ZOk R.L (Oz K R lf df) where
 step:=fun ⟨fs,t⟩ s=>⟨fs,t.mono s.lef s⟩
 notup:=@fun H ⟨fs,t⟩ b hb xs r=>by
  have key:∀o:HO,H b=some o→(∀ys,o≠.tup ys)→(∀q u,o≠.frz q u)→False:=fun o e h1 h2=>by
   rcases r with r | ⟨q,r⟩
   ·rw [e] at r;exact h1 _ (Option.some.inj r)
   ·rw [e] at r;exact h2 _ _ (Option.some.inj r)
  rcases List.mem_cons.mp hb with e | e
  ·exact key _ (by rw [e];exact t.obj) (fun _ z=>by cases z) (fun _ _ z=>by cases z)
  rcases List.mem_cons.mp e with e | e
  ·exact key _ (by rw [e];exact t.own1) (fun _ z=>by cases z) (fun _ _ z=>by cases z)
  ·obtain ⟨q,hq,e⟩:=List.mem_map.mp e
   obtain ⟨us,h⟩:=t.own q hq
   exact key _ (by rw [←e];exact h) (fun _ z=>by cases z) (fun _ _ z=>by cases z)
 free:=fun ⟨fs,t⟩ hp hm=>by
  rcases List.mem_cons.mp hm with e | e
  ·have:=t.obj;rw [←e,hp] at this;cases this
  rcases List.mem_cons.mp e with e | e
  ·have:=t.own1;rw [←e,hp] at this;cases this
  ·obtain ⟨q,hq,rfl⟩:=List.mem_map.mp e
   obtain ⟨us,h⟩:=t.own q hq
   rw [hp] at h;cases h
def fldD (lf:LF) (df:DF):List (PyData×PyData):=(lf.map fun q=>((.str q.1,.list q.2):PyData×PyData))++df.map fun q=>(.str q.1,q.2)
theorem Jt {K:PySem.W.Frag} {H:Hp} {fs:List (Str×V)}:∀{l:List (Str×PyData)},(∀q∈l,∃v,fs.lookup q.1=some v∧DV K H v q.2)→DVf K H fs (l.map fun q=>((.str q.1,q.2):PyData×PyData))
 | [],_=>.nil
 | q::r,h=>by
   obtain ⟨v,h1,h2⟩:=h q List.mem_cons_self
   exact .cons h1 h2 (Jt fun z hz=>h z (List.mem_cons_of_mem _ hz))
theorem Nc (lf:LF) (df:DF):fldD lf df=((lf.map fun q=>((q.1,.list q.2):Str×PyData))++df).map fun q=>((.str q.1,q.2):PyData×PyData):=by
 unfold fldD
 rw [List.map_append,List.map_map]
 rfl
theorem OzS.dv {K:PySem.W.Frag} {R:OR} {lf:LF} {df:DF} {L:List Addr} {H:Hp} {fs:List (Str×V)} (t:OzS K R lf df (lef L H) H fs):DV K H (.ref R.a) (objD R.C (fldD lf df)):=by
 refine .obj t.obj t.nam ?_
 rw [Nc]
 refine Jt fun q hq=>?_
 rcases List.mem_append.mp hq with hq | hq
 ·obtain ⟨z,hz,rfl⟩:=List.mem_map.mp hq
  obtain ⟨p,us,_,h2,h3,h4,_⟩:=t.lst z hz
  exact ⟨.ref p,h2,.lst (SqL.of h3) (h4.mono lef_same)⟩
 ·obtain ⟨v,h1,h2⟩:=t.dat q hq
  exact ⟨v,h1,h2.mono lef_same⟩
abbrev viewO (C:Addr) (lf:LF) (df:DF) (i:Nat) (G:Gam):Gam:=G.set i (some (objD C (fldD lf df)))
section
variable {X:Cx} {R:OR} {lf:LF} {df:DF} {rs:List (Nat×Addr)} {G G1 G2:Gam} {e c a b:Expr} {es:List Expr} {d:PyData} {ds ws:List PyData} {k i j:Nat} {pos pos' pos2 pos3 pos4 apos p1:Pos} {x f m:Str}
theorem RZ.viewO {K:PySem.W.Frag} {σ:St} {H:Hp} (r:RZ K R.L (Oz K R lf df) rs G σ H) (hi:(i,R.a)∈rs):SD K H σ (viewO R.C lf df i G):=by
 obtain ⟨fs,t⟩:=id r.2.1
 have h1:=r.sd.set (i:=i) t.dv
 rw [Gg (r.1 _ hi)] at h1
 exact h1
theorem CZ (hi:(i,R.a)∈rs) (h:EV X (viewO R.C lf df i G) e d) (hn:noL d=true):ZE X R.L (Oz X.K R lf df) rs G e d (Oz X.K R lf df):=h.imp fun σ H Q ⟨r,q⟩=>⟨r.viewO hi,fun v H' s' dv=>q v H' (oz_ok.step r.2.1 s') s'.lef (DV.lef (oz_ok.notup (oz_ok.step r.2.1 s')) dv hn)⟩
theorem Jh (hi:(i,R.a)∈rs) (h:AV X (viewO R.C lf df i G) es ds) (hn:noLs ds=true):ZA X R.L (Oz X.K R lf df) rs G es ds (Oz X.K R lf df):=h.imp fun σ H Q ⟨r,q⟩=>⟨r.viewO hi,fun v H' s' dv=>q v H' (oz_ok.step r.2.1 s') s'.lef (DVs.lef (oz_ok.notup (oz_ok.step r.2.1 s')) dv hn)⟩
theorem J8 (cl:Cls X.K R.C) (na:NoAttr X.K R.C f) (hi:(i,R.a)∈rs) (hv:PE X (.Name x pos2) (tVar i)) (h:EV X (viewO R.C lf df i G) e d) (hn:noL d=true) (hf:f∈df.map (·.1)) (hA:f∈AZ)
  (hs:swapsWith e (some (.Attribute (.Name x pos2) f pos')) pos.line X.env=pure false:=by rfl):PS X (.Assign [.Attribute (.Name x pos2) f pos'] e pos) (zN X.K R.L (Oz X.K R lf df) rs G G (Oz X.K R lf (upD f d df))):=by
 refine (Ik hv h hs).imp fun D σ H ⟨r,q⟩=>⟨r.viewO hi,fun y H1 s1 d1=>?_⟩
 have i1:=oz_ok.step r.2.1 s1
 obtain ⟨fs,t⟩:=id i1
 refine ⟨.ref R.a,r.1 _ hi,R.a,R.C,R.dx,fs,rfl,t.obj,cl,na,by have:=t.few;omega,?_⟩
 have eL:lef R.L (upd H1 R.a (.ins R.C R.dx (putF f y fs)))=lef R.L H1:=Cq List.mem_cons_self
 obtain ⟨q0,hq0,e0⟩:=List.mem_map.mp hf
 obtain ⟨v0,l0,_⟩:=t.dat q0 hq0
 rw [e0] at l0
 have hlf:f∉lf.map (·.1):=by rw [←e0];exact t.apart q0 hq0
 have nal:∀p∈R.ls.map (·.2),p≠R.a:=fun p hp z=>(List.nodup_cons.mp t.nda).1 (z ▸ List.mem_cons_of_mem _ hp)
 have nad:R.dx≠R.a:=fun z=>(List.nodup_cons.mp t.nda).1 (z ▸ List.mem_cons_self)
 refine q σ _ ⟨r.1,⟨putF f y fs,?_⟩,?_⟩ ?_
 ·rw [eL]
  refine ⟨Am,by rw [Aj nad];first | exact t1.own1 | exact t.own1,by rw [EX l0];exact t.few,fun m hm=>?_,t.nda,fun z hz=>?_,fun z hz=>?_,fun z hz=>?_,fun z hz=>?_⟩
  ·rw [Az,if_neg (fun w:m=f=>hm (w ▸ hA))]
   exact t.nam m hm
  ·have:z.1∈(upD f d df).map (·.1):=List.mem_map_of_mem hz
   rw [Hw] at this
   obtain ⟨z',hz',ez⟩:=List.mem_map.mp this
   rw [←ez]
   exact t.apart z' hz'
  ·obtain ⟨us,hu⟩:=t.own z hz
   exact ⟨us,by rw [Aj (nal _ (List.mem_map_of_mem hz))];exact hu⟩
  ·obtain ⟨p,us,h1,h2,h3,h4,h5⟩:=t.lst z hz
   refine ⟨p,us,h1,?_,?_,h4,h5⟩
   ·rw [Az,if_neg (fun w:z.1=f=>hlf (w ▸ List.mem_map_of_mem hz))]
    exact h2
   ·rw [Aj (nal _ (List.mem_map_of_mem (f:=(·.2)) h1))]
    exact h3
  ·rcases Jn hz with ⟨e1,e2,_⟩ | ⟨e1,e2⟩
   ·rw [e1,e2]
    exact ⟨y,by rw [Az,if_pos rfl],DV.lef (oz_ok.notup i1) d1 hn⟩
   ·obtain ⟨v,h1,h2⟩:=t.dat z e2
    exact ⟨v,by rw [Az,if_neg e1];exact h1,h2⟩
 ·rw [eL];exact r.2.2.mono s1.lef
 ·rw [eL];exact s1.lef
theorem OO {z n:Int} (cl:Cls X.K R.C) (na:NoAttr X.K R.C f) (hi:(i,R.a)∈rs) (hv:PE X (.Name x pos2) (tVar i)) (h:EV X (viewO R.C lf df i G) e (.int n)) (hf:(f,.int z)∈df) (hA:f∈AZ):PS X (.AugAssign (.Attribute (.Name x pos2) f pos') .Add e pos) (zN X.K R.L (Oz X.K R lf df) rs G G (Oz X.K R lf (upD f (.int (z + n)) df))):=by
 refine (Kk hv h LE).imp fun D σ H ⟨r,q⟩=>?_
 obtain ⟨fs,t⟩:=id r.2.1
 obtain ⟨v0,l0,dv0⟩:=t.dat _ hf
 have dv0:=dv0.of_int
 subst dv0
 refine ⟨.ref R.a,r.1 _ hi,R.a,R.C,R.dx,fs,.int z,rfl,t.obj,cl,na,l0,r.viewO hi,fun y H1 s1 d1=>?_⟩
 have d1:=d1.of_int
 subst d1
 have i1:=oz_ok.step r.2.1 s1
 refine ⟨z,n,rfl,rfl,R.dx,fs,s1 _ _ t.obj,by have:=t.few;omega,?_⟩
 have t1:=t.mono s1.lef s1
 have eL:lef R.L (upd H1 R.a (.ins R.C R.dx (putF f (.int (z + n)) fs)))=lef R.L H1:=Cq List.mem_cons_self
 have hlf:f∉lf.map (·.1):=t.apart _ hf
 have nal:∀p∈R.ls.map (·.2),p≠R.a:=fun p hp z=>(List.nodup_cons.mp t.nda).1 (z ▸ List.mem_cons_of_mem _ hp)
 have nad:R.dx≠R.a:=fun z=>(List.nodup_cons.mp t.nda).1 (z ▸ List.mem_cons_self)
 refine q σ _ ⟨r.1,⟨putF f (.int (z + n)) fs,?_⟩,?_⟩ ?_
 ·rw [eL]
  refine ⟨Am,by rw [Aj nad];first | exact t1.own1 | exact t.own1,by rw [EX l0];exact t.few,fun m hm=>?_,t.nda,fun z hz=>?_,fun z hz=>?_,fun z hz=>?_,fun z hz=>?_⟩
  ·rw [Az,if_neg (fun w:m=f=>hm (w ▸ hA))]
   exact t.nam m hm
  ·have:z.1∈(upD f _ df).map (·.1):=List.mem_map_of_mem hz
   rw [Hw] at this
   obtain ⟨z',hz',ez⟩:=List.mem_map.mp this
   rw [←ez]
   exact t.apart z' hz'
  ·obtain ⟨us,hu⟩:=t1.own z hz
   exact ⟨us,by rw [Aj (nal _ (List.mem_map_of_mem hz))];exact hu⟩
  ·obtain ⟨p,us,h1,h2,h3,h4,h5⟩:=t1.lst z hz
   refine ⟨p,us,h1,?_,?_,h4,h5⟩
   ·rw [Az,if_neg (fun w:z.1=f=>hlf (w ▸ List.mem_map_of_mem hz))]
    exact h2
   ·rw [Aj (nal _ (List.mem_map_of_mem (f:=(·.2)) h1))]
    exact h3
  ·rcases Jn hz with ⟨e1,e2,_⟩ | ⟨e1,e2⟩
   ·rw [e1,e2]
    exact ⟨_,by rw [Az,if_pos rfl],.int _⟩
   ·obtain ⟨v,h1,h2⟩:=t1.dat z e2
    exact ⟨v,by rw [Az,if_neg e1];exact h1,h2⟩
 ·rw [eL];exact r.2.2.mono s1.lef
 ·rw [eL];exact s1.lef
theorem OzS.put {K:PySem.W.Frag} {H:Hp} {fs:List (Str×V)} {p:Addr} {us:List V} (t:OzS K R lf df (lef R.L H) H fs) (hp:(f,p)∈R.ls) (hf:fs.lookup f=some (.ref p)) (dv:DVs K (lef R.L H) us ds) (hn:noLs ds=true):Oz K R (upL f ds lf) df (upd H p (.lst us)):=by
 have hpL:p∈R.L:=List.mem_cons_of_mem _ (List.mem_cons_of_mem _ (List.mem_map_of_mem (f:=(·.2)) hp))
 have eL:lef R.L (upd H p (.lst us))=lef R.L H:=Cq hpL
 have npa:R.a≠p:=fun z=>(List.nodup_cons.mp t.nda).1 (by rw [z];exact List.mem_cons_of_mem _ (List.mem_map_of_mem (f:=(·.2)) hp))
 have npd:R.dx≠p:=fun z=>(List.nodup_cons.mp (List.nodup_cons.mp t.nda).2).1 (by rw [z];exact List.mem_map_of_mem (f:=(·.2)) hp)
 refine ⟨fs,?_⟩
 rw [eL]
 refine ⟨by rw [Aj npa];exact t.obj,by rw [Aj npd];exact t.own1,t.few,t.nam,t.nda,fun z hz=>by rw [K8];exact t.apart z hz,fun z hz=>?_,fun z hz=>?_,t.dat⟩
 ·by_cases e:z.2=p
  ·rw [e];exact ⟨us,Am⟩
  ·rw [Aj e];exact t.own z hz
 ·rcases MO hz with ⟨e1,e2,_⟩ | ⟨e1,e2⟩
  ·rw [e1,e2]
   exact ⟨p,us,hp,hf,Am,dv,hn⟩
  ·obtain ⟨p',us',h1,h2,h3,h4,h5⟩:=t.lst z e2
   have hne:p'≠p:=fun w=>by
    subst w
    have:∀{l:List (Str×Addr)},(l.map (·.2)).Nodup→(f,p')∈l→(z.1,p')∈l→z.1=f:=by
     intro l
     induction l with
     | nil=>intro _ h;cases h
     | cons y r ih=>
       intro hn h1 h2
       rw [List.map_cons,List.nodup_cons] at hn
       rcases List.mem_cons.mp h1 with e | h1 <;> rcases List.mem_cons.mp h2 with e' | h2
       ·rw [←e'] at e;cases e;rfl
       ·exact absurd (by rw [←e];exact List.mem_map_of_mem (f:=(·.2)) h2) hn.1
       ·exact absurd (by rw [←e'];exact List.mem_map_of_mem (f:=(·.2)) h1) hn.1
       ·exact ih hn.2 h1 h2
    exact e1 (this (List.nodup_cons.mp (List.nodup_cons.mp t.nda).2).2 hp h1)
   exact ⟨p',us',h1,h2,by rw [Aj hne];exact h3,h4,h5⟩
theorem Cj {z:Int} (cl:Cls X.K R.C) (na:NoAttr X.K R.C f) (hi:(i,R.a)∈rs) (hv:PE X (.Name x pos2) (tVar i)) (h:EV X (viewO R.C lf df i G) e d) (hn:noL d=true) (hb:EV X (viewO R.C lf df i G) b (.int z)) (hf:(f,ds)∈lf) (z0:0≤z) (z1:z < ds.length)
  (hba:attributeBase (.Name x pos2) f X.env (eval (.Name x pos2) X.env)=eval (.Name x pos2) X.env:=by rfl)
  (ha:∀v,assign (.Subscript (.Attribute (.Name x pos2) f pos4) b pos3) X.env v=(do
   let ov ←holding [v] (eval (.Attribute (.Name x pos2) f pos4) X.env)
   let iv ←holding [v,ov] (eval b X.env)
   standAt pos3
   holding [v,ov,iv] (setItem ov iv v)
   release [v,ov,iv] []):=by intro _;rfl)
  (hs:swapsWithSole [.Subscript (.Attribute (.Name x pos2) f pos4) b pos3] e pos.line X.env=pure false:=by rfl) (hw:swappedStores [.Subscript (.Attribute (.Name x pos2) f pos4) b pos3] e X.env=pure none:=by rfl)
  (h1:(assignEach [.Subscript (.Attribute (.Name x pos2) f pos4) b pos3] X.env).map (·.2)=[assign (.Subscript (.Attribute (.Name x pos2) f pos4) b pos3) X.env]:=by rfl):PS X (.Assign [.Subscript (.Attribute (.Name x pos2) f pos4) b pos3] e pos) (zN X.K R.L (Oz X.K R lf df) rs G G (Oz X.K R (upL f (ds.set z.toNat d) lf) df)):=by
 refine (Ea h (K3 (Ix hv hba) hb set_list ha) hs hw h1).imp fun D σ H ⟨r,q⟩=>⟨r.viewO hi,fun v H1 s1 d1=>?_⟩
 have r1:=r.step oz_ok s1
 obtain ⟨fs,t⟩:=id r1.2.1
 obtain ⟨p,us,hp,hl,hu,du,nd⟩:=t.lst _ hf
 refine ⟨.ref R.a,r.1 _ hi,R.a,R.C,R.dx,fs,.ref p,rfl,t.obj,cl,na,hl,r1.viewO hi,fun w H2 s2 d2=>?_⟩
 have d2:=d2.of_int
 subst d2
 have r2:=r1.step oz_ok s2
 have t2:=t.mono s2.lef s2
 have dv2:=DV.lef (oz_ok.notup r2.2.1) (d1.mono s2) hn
 have eL:lef R.L (upd H2 p (.lst (us.set z.toNat v)))=lef R.L H2:=Cq (List.mem_cons_of_mem _ (List.mem_cons_of_mem _ (List.mem_map_of_mem (f:=(·.2)) hp)))
 have hlen:us.length=ds.length:=du.length
 refine ⟨p,us,z,z.toNat,rfl,rfl,s2 _ _ hu,?_,?_⟩
 ·unfold ixN
  rw [if_pos z0,if_pos (by rw [hlen];exact z1)]
 ·refine q σ _ ⟨r.1,t2.put hp hl ((du.mono s2.lef).setAt dv2 _) ?_,?_⟩ ?_
  ·have:∀(l:List PyData) (n:Nat),noLs l=true→noLs (l.set n d)=true:=by
    intro l
    induction l with
    | nil=>intro n h;exact h
    | cons y r ih=>
      intro n h
      unfold noLs at h
      rw [Bool.and_eq_true] at h
      cases n with
      | zero=>rw [List.set_cons_zero];unfold noLs;rw [hn,h.2];rfl
      | succ n=>rw [List.set_cons_succ];unfold noLs;rw [h.1,ih n h.2];rfl
   exact this ds _ nd
  ·rw [eL];exact r2.2.2
  ·rw [eL];exact s1.lef.trans s2.lef
theorem Gb (cl:Cls X.K R.C) (na:NoAttr X.K R.C f) (hi:(i,R.a)∈rs) (hv:PE X (.Name x pos2) (tVar i)) (h:EV X (viewO R.C lf df i G) e d) (hn:noL d=true) (hf:(f,ds)∈lf) (hz:ds.length < sizeLine)
  (hba:attributeBase (.Name x pos2) f X.env (eval (.Name x pos2) X.env)=eval (.Name x pos2) X.env:=by rfl)
  (hb2:attributeBase (.Attribute (.Name x pos2) f pos3) "append" X.env (eval (.Attribute (.Name x pos2) f pos3) X.env)=eval (.Attribute (.Name x pos2) f pos3) X.env:=by rfl)
  (hs0:starEach [e] X.env=(false,eval e X.env)::starEach [] X.env:=by rfl)
  (hfew:((backTo pos' (starEach [e] X.env)).all (fun x=>!x.1) && (backToKw pos' (keywordEach [] X.env)).all (fun x=>x.1.isSome)
   && decide ([e].length + ([]:List Keyword).length + (if ([]:List Keyword).isEmpty then 0 else 1) < 30))=true:=by rfl)
  (hline:(pos4.endLine==pos'.line)=true:=by rfl) (hpl:(backTo pos' (starEach [] X.env)).any (·.1)=false:=by rfl)
  (hsw:swapsWith (.Call (.Attribute (.Attribute (.Name x pos2) f pos3) "append" pos4) [e] [] pos') none pos.line X.env=pure false:=by rfl):
  PS X (.Expr (.Call (.Attribute (.Attribute (.Name x pos2) f pos3) "append" pos4) [e] [] pos') pos) (zN X.K R.L (Oz X.K R lf df) rs G G (Oz X.K R (upL f (ds++[d]) lf) df)):=by
 refine (DP (Jy PySem.F.plainAttrs_list PySem.F.slot_list_append PySem.F.type_list_append FD (Ix hv hba) (Aa h Ac hs0) hb2 hfew hline hs0 hpl) hsw).imp fun D σ H ⟨r,q⟩=>?_
 obtain ⟨fs,t⟩:=id r.2.1
 obtain ⟨p,us,hp,hl,hu,du,nd⟩:=t.lst _ hf
 refine ⟨.ref R.a,r.1 _ hi,R.a,R.C,R.dx,fs,.ref p,rfl,t.obj,cl,na,hl,.inl ⟨rfl,us,SqL.of hu⟩,r.viewO hi,fun vs H1 s1 dvs=>?_⟩
 obtain ⟨v,rfl,dv⟩:=dvs.one
 have r1:=r.step oz_ok s1
 have t1:=t.mono s1.lef s1
 have dv1:=DV.lef (oz_ok.notup r1.2.1) dv hn
 have eL:lef R.L (upd H1 p (.lst (us++[v])))=lef R.L H1:=Cq (List.mem_cons_of_mem _ (List.mem_cons_of_mem _ (List.mem_map_of_mem (f:=(·.2)) hp)))
 refine ⟨p,us,v,rfl,rfl,s1 _ _ hu,by rw [du.length];exact hz,q σ _ ⟨r.1,t1.put hp hl ((du.mono s1.lef).append (.cons dv1 .nil)) ?_,?_⟩ ?_⟩
 ·have:∀xs:List PyData,noLs xs=true→noLs (xs++[d])=true:=by
   intro xs
   induction xs with
   | nil=>intro _;show (noL d && true)=true;rw [hn];rfl
   | cons y r ih=>
     intro h
     rw [List.cons_append]
     unfold noLs at h ⊢
     rw [Bool.and_eq_true] at h
     rw [h.1,ih h.2]
     rfl
  exact this ds nd
 ·rw [eL];exact r1.2.2
 ·rw [eL];exact s1.lef
end
def spO (K:PySem.W.Frag) (C:Addr) (F:LF→DF→List PyData→PyData→LF→DF→Prop):Sp:=fun vs H Q _=>∃(R:OR) (lf:LF) (df:DF) (ds:List PyData) (d:PyData) (lf':LF) (df':DF) (vr:List V),R.C=C∧vs=.ref R.a::vr∧Oz K R lf df H∧DVs K (lef R.L H) vr ds∧F lf df ds d lf' df'∧
 ∀v H',Oz K R lf' df' H'→Same (lef R.L H) (lef R.L H')→DV K (lef R.L H') v d→Q v H'
def OFn (P:Program) (w:World) (K:PySem.W.Frag) (mg:Str→Option Value) (base:Heap) (k:Nat) (C:Addr) (m:Str) (F:LF→DF→List PyData→PyData→LF→DF→Prop):Prop:=
 ∃f fd ps,FnOk P w K mg base CX0 k f fd ps (spO K C F)∧Meth K C m f∧Binds K fd ps []
section
variable {P:Program} {w:World} {K:PySem.W.Frag} {mg:Str→Option Value} {base:Heap}
theorem Fun.objM {x qual n0 m:Str} {st:Stmt} {f:Addr} {fd:FuncData} {N ps:List Str} {k:Nat} {C:Addr} {F:LF→DF→List PyData→PyData→LF→DF→Prop} (F0:Fun K x qual st f fd) (hm:Meth K C m f) (hb:Binds K fd ps []) (S:FnScope (n0::N) ps (Ae st)) (len:∀lf df ds d lf' df',F lf df ds d lf' df'→ds.length + 1=ps.length)
  (hbody:∀(cdv:Value) (A:Around) (outer:List Env) (s:Shared) (H:Hp) (E:XK) (R:OR) (lf:LF) (df:DF) (ds:List PyData) (d:PyData) (lf':LF) (df':DF),Room k (A.deeper (envOfC qual (Ae st) s.heap.objs.size f cdv))→R.C=C→F lf df ds d lf' df'→
   PSs (cxOf CX0 P w K mg base (n0::N) qual (Ae st) f cdv A outer s H E).nox (AG st) (zR K R.L (Oz K R lf df) [(0,R.a)] (none::AO N ds) d (Oz K R lf' df'))):OFn P w K mg base (k + 1) C m F:=by
 refine ⟨f,fd,ps,F0.ok S (fun vs H Q E ⟨R,lf,df,ds,d,lf',df',vr,_,e,_,dv,hF,_⟩=>by rw [e,List.length_cons,dv.length];exact len lf df ds d lf' df' hF) (fun cdv A outer s H vs Q E hr ⟨R,lf,df,ds,d,lf',df',vr,hC,e,tb,dv,hF,q⟩=>?_),hm,hb⟩
 subst e
 refine ⟨_,hbody cdv A outer s H E R lf df ds d lf' df' hr hC hF,⟨fun z hz=>?_,tb,?_⟩,q⟩
 ·have:=List.mem_singleton.mp hz
  subst this
  rw [Br]
  rfl
 ·rw [Br];exact (SD.start dv).cons0 _
theorem Fun.objN {x qual n0 m:Str} {st:Stmt} {f:Addr} {fd:FuncData} {N ps:List Str} {k:Nat} {C:Addr} {F:LF→DF→List PyData→LF→DF→Prop} (F0:Fun K x qual st f fd) (hm:Meth K C m f) (hb:Binds K fd ps []) (S:FnScope (n0::N) ps (Ae st)) (len:∀lf df ds lf' df',F lf df ds lf' df'→ds.length + 1=ps.length)
  (hbody:∀(cdv:Value) (A:Around) (outer:List Env) (s:Shared) (H:Hp) (E:XK) (R:OR) (lf:LF) (df:DF) (ds:List PyData) (lf':LF) (df':DF),Room k (A.deeper (envOfC qual (Ae st) s.heap.objs.size f cdv))→R.C=C→F lf df ds lf' df'→
   ∃G',PSs (cxOf CX0 P w K mg base (n0::N) qual (Ae st) f cdv A outer s H E).nox (AG st) (zN K R.L (Oz K R lf df) [(0,R.a)] (none::AO N ds) G' (Oz K R lf' df'))):OFn P w K mg base (k + 1) C m (fun lf df ds d lf' df'=>F lf df ds lf' df'∧d=.none):=by
 refine ⟨f,fd,ps,F0.ok S (fun vs H Q E ⟨R,lf,df,ds,d,lf',df',vr,_,e,_,dv,hF,_⟩=>by rw [e,List.length_cons,dv.length];exact len lf df ds lf' df' hF.1) (fun cdv A outer s H vs Q E hr ⟨R,lf,df,ds,d,lf',df',vr,hC,e,tb,dv,⟨hF,ed⟩,q⟩=>?_),hm,hb⟩
 subst e ed
 obtain ⟨G',hps⟩:=hbody cdv A outer s H E R lf df ds lf' df' hr hC hF
 refine ⟨_,hps,⟨fun z hz=>?_,tb,?_⟩,fun σ' H' r' s'=>q .non H' r'.2.1 s' .non⟩
 ·have:=List.mem_singleton.mp hz
  subst this
  rw [Br]
  rfl
 ·rw [Br];exact (SD.start dv).cons0 _
end
section
variable {X:Cx} {L:List Addr} {I I1 I2:Hp→Prop} {R:OR} {lf lf' lf1:LF} {df df' df1:DF} {rs:List (Nat×Addr)} {G G1 G2:Gam} {e c a b:Expr} {es:List Expr} {d:PyData} {ds ws:List PyData} {k i j:Nat} {pos pos' pos2 pos3 pos4 apos p1:Pos} {x f m:Str}
theorem DC (h:ZE X L I rs G e d I1) (hs:swapsWith e none pos.line X.env=pure false:=by rfl):PS X (.Expr e pos) (zN X.K L I rs G G I1):=
 (DP h hs).imp fun D σ H ⟨r,q⟩=>⟨r,fun v H' t' s' _=>q σ H' (r.next t' s') s'⟩
theorem Dy {F:LF→DF→List PyData→PyData→LF→DF→Prop} {pl:Sem Bool} (cl:Cls X.K R.C) (D:OFn X.prog X.w X.K X.mg X.base k R.C m F) (hr:Room k X.A) (hi:(i,R.a)∈rs) (hv:PE X (.Name x pos2) (tVar i)) (ha:ZA X R.L (Oz X.K R lf df) rs G (e::es) ds (Oz X.K R lf1 df1)) (hF:F lf1 df1 ds d lf' df') (h1:m∉AZ:=by decide)
  (hst:starEach (e::es) X.env=(false,eval e X.env)::starEach es X.env:=by rfl) (hpl:(backTo pos (starEach es X.env)).any (·.1)=false:=by rfl)
  (ht:eval (.Call (.Attribute (.Name x pos2) m apos) (e::es) [] pos) X.env=(do
   let ov ←eval (.Name x pos2) X.env
   standAt apos.atName
   let (f,first) ←holding [ov] (getMethod ov m pl)
   callWith pos f first (backTo pos (starEach (e::es) X.env)) (backToKw pos (keywordEach [] X.env))):=by rfl):
  ZE X R.L (Oz X.K R lf df) rs G (.Call (.Attribute (.Name x pos2) m apos) (e::es) [] pos) d (Oz X.K R lf' df'):=by
 obtain ⟨f,fd,ps,ok,hm,hb⟩:=D
 refine (G9 (E:=E0) (dvs:=[]) (ds:=[]) hv cl hm ok hr hb .nil Dw ha hst hpl ht).imp fun σ H Q ⟨r,q⟩=>?_
 obtain ⟨fs,t⟩:=id r.2.1
 refine ⟨.ref R.a,r.1 _ hi,R.a,R.dx,fs,rfl,t.obj,t.nam m h1,r,fun vs' H' t' s' dv=>?_⟩
 show spO X.K R.C F (V.ref R.a::(vs'++[])) H' Q E0
 rw [List.append_nil]
 exact ⟨R,lf1,df1,ds,d,lf',df',vs',rfl,rfl,t',dv,hF,fun v H2 t2 s2 d2=>q v H2 t2 (s'.trans s2) d2⟩
theorem Hi {F:LF→DF→List PyData→PyData→LF→DF→Prop} {pl:Sem Bool} (cl:Cls X.K R.C) (D:OFn X.prog X.w X.K X.mg X.base k R.C m F) (hr:Room k X.A) (hi:(i,R.a)∈rs) (hv:PE X (.Name x pos2) (tVar i)) (hF:F lf df [] d lf' df') (h1:m∉AZ:=by decide)
  (ht:eval (.Call (.Attribute (.Name x pos2) m apos) [] [] pos) X.env=(do
   let ov ←eval (.Name x pos2) X.env
   standAt apos.atName
   let (f,first) ←holding [ov] (getMethod ov m pl)
   callWith pos f first (backTo pos (starEach [] X.env)) (backToKw pos (keywordEach [] X.env))):=by rfl):
  ZE X R.L (Oz X.K R lf df) rs G (.Call (.Attribute (.Name x pos2) m apos) [] [] pos) d (Oz X.K R lf' df'):=by
 obtain ⟨f,fd,ps,ok,hm,hb⟩:=D
 refine (GY (E:=E0) (dvs:=[]) (ds:=[]) hv cl hm ok hr hb .nil Dw ht).imp fun σ H Q ⟨r,q⟩=>?_
 obtain ⟨fs,t⟩:=id r.2.1
 refine ⟨.ref R.a,r.1 _ hi,R.a,R.dx,fs,rfl,t.obj,t.nam m h1,?_⟩
 show spO X.K R.C F (V.ref R.a::([]++[])) H Q E0
 exact ⟨R,lf,df,[],d,lf',df',[],rfl,rfl,r.2.1,.nil,hF,q⟩
end
structure OB (K:PySem.W.Frag) (C a dx:Addr) (H0:Hp) (ls:List (Str×Addr)) (lf:LF) (df:DF) (G:Gam) (σ:St) (H:Hp) (fs:List (Str×V)):Prop where
 slot:σ[0]?=some (some (.ref a))
 oz:OzS K ⟨C,a,dx,ls⟩ lf df (lef (OR.L ⟨C,a,dx,ls⟩) H) H fs
 sd:SD K (lef (OR.L ⟨C,a,dx,ls⟩) H) σ G
 cnt:fs.length≤lf.length + df.length
 keep:∀b o,b≠a→H0 b=some o→H b=some o
 fre:∀q∈ls,H0 q.2=none
def tOB (K:PySem.W.Frag) (C a dx:Addr) (H0:Hp) (lf:LF) (df:DF) (G:Gam) (lf':LF) (df':DF):TS:=fun D σ H=>(∃ls fs,OB K C a dx H0 ls lf df G σ H fs)∧∀ls' fs' H',OB K C a dx H0 ls' lf' df' G σ H' fs'→D.nx σ H'
section
variable {X:Cx} {C a dx:Addr} {H0:Hp} {lf lf' lf2:LF} {df df' df2:DF} {G:Gam} {e:Expr} {d:PyData} {ws:List PyData} {pos pos' pos2:Pos} {x f:Str}
theorem Bp {st:Stmt} {sts:List Stmt} (h1:PS X st (tOB X.K C a dx H0 lf df G lf' df')) (h2:PSs X sts (tOB X.K C a dx H0 lf' df' G lf2 df2)):PSs X (st::sts) (tOB X.K C a dx H0 lf df G lf2 df2):=
 (A4 h1 h2).imp fun D σ H ⟨r,q⟩=>⟨r,fun ls fs H' o=>⟨⟨ls,fs,o⟩,q⟩⟩
theorem No:PSs X [] (tOB X.K C a dx H0 lf df G lf df):=pss_nil.imp fun D σ H ⟨⟨ls,fs,o⟩,q⟩=>q ls fs H o
theorem OB.step {K:PySem.W.Frag} {ls:List (Str×Addr)} {σ:St} {H H':Hp} {fs:List (Str×V)} (o:OB K C a dx H0 ls lf df G σ H fs) (s:Same H H'):OB K C a dx H0 ls lf df G σ H' fs:=
 ⟨o.slot,o.oz.mono s.lef s,o.sd.mono s.lef,o.cnt,fun b u hb e=>s _ _ (o.keep b u hb e),o.fre⟩
theorem ME (h:EV X G e d) (hs:swapsWith e none pos.line X.env=pure false:=by rfl):PS X (.Expr e pos) (tOB X.K C a dx H0 lf df G lf df):=
 (DP h hs).imp fun D σ H ⟨⟨ls,fs,o⟩,q⟩=>⟨o.sd.mono lef_same,fun v H' s' _=>q ls fs H' (o.step s')⟩
theorem OB.data {K:PySem.W.Frag} {ls:List (Str×Addr)} {σ:St} {H:Hp} {fs:List (Str×V)} {y:V} (o:OB K C a dx H0 ls lf df G σ H fs) (dv:DV K (lef (OR.L ⟨C,a,dx,ls⟩) H) y d) (hf:f∉lf.map (·.1)) (hf2:f∉df.map (·.1)) (hA:f∈AZ) (hz:lf.length + df.length < 30):OB K C a dx H0 ls lf (df++[(f,d)]) G σ (upd H a (.ins C dx (putF f y fs))) (putF f y fs):=by
 have eL:lef (OR.L ⟨C,a,dx,ls⟩) (upd H a (.ins C dx (putF f y fs)))=lef (OR.L ⟨C,a,dx,ls⟩) H:=Cq List.mem_cons_self
 have nal:∀p∈ls.map (·.2),p≠a:=fun p hp z=>(List.nodup_cons.mp o.oz.nda).1 (z ▸ List.mem_cons_of_mem _ hp)
 have nad:dx≠a:=fun z=>(List.nodup_cons.mp o.oz.nda).1 (z ▸ List.mem_cons_self)
 have hlen:=BR f y fs
 have hc:=o.cnt
 refine ⟨o.slot,?_,by rw [eL];exact o.sd,by rw [List.length_append];show _≤lf.length + (df.length + 1);omega,fun b u hb e=>by rw [Aj hb];exact o.keep b u hb e,o.fre⟩
 rw [eL]
 refine ⟨Am,by rw [Aj nad];exact o.oz.own1,by omega,fun m hm=>?_,o.oz.nda,fun z hz=>?_,fun z hz=>?_,fun z hz=>?_,fun z hz=>?_⟩
 ·rw [Az,if_neg (fun w:m=f=>hm (w ▸ hA))]
  exact o.oz.nam m hm
 ·rcases List.mem_append.mp hz with hz | hz
  ·exact o.oz.apart z hz
  ·rw [List.mem_singleton.mp hz];exact hf
 ·obtain ⟨us,hu⟩:=o.oz.own z hz
  exact ⟨us,by rw [Aj (nal _ (List.mem_map_of_mem hz))];exact hu⟩
 ·obtain ⟨p,us,h1,h2,h3,h4,h5⟩:=o.oz.lst z hz
  refine ⟨p,us,h1,?_,?_,h4,h5⟩
  ·rw [Az,if_neg (fun w:z.1=f=>hf (w ▸ List.mem_map_of_mem hz))]
   exact h2
  ·rw [Aj (nal _ (List.mem_map_of_mem (f:=(·.2)) h1))]
   exact h3
 ·rcases List.mem_append.mp hz with hz | hz
  ·obtain ⟨v,h1,h2⟩:=o.oz.dat z hz
   exact ⟨v,by rw [Az,if_neg (fun w:z.1=f=>hf2 (w ▸ List.mem_map_of_mem hz))];exact h1,h2⟩
  ·rw [List.mem_singleton.mp hz]
   exact ⟨y,by rw [Az,if_pos rfl],dv⟩
theorem OB.ok {K:PySem.W.Frag} {ls:List (Str×Addr)} {σ:St} {H:Hp} {fs:List (Str×V)} (o:OB K C a dx H0 ls lf df G σ H fs):Oz K ⟨C,a,dx,ls⟩ lf df H:=⟨fs,o.oz⟩
theorem IJ (cl:Cls X.K C) (na:NoAttr X.K C f) (hv:PE X (.Name x pos2) (tVar 0)) (h:EV X G e d) (hn:noL d=true) (hf:f∉lf.map (·.1)) (hf2:f∉df.map (·.1)) (hA:f∈AZ) (hz:lf.length + df.length < 30)
  (hs:swapsWith e (some (.Attribute (.Name x pos2) f pos')) pos.line X.env=pure false:=by rfl):PS X (.Assign [.Attribute (.Name x pos2) f pos'] e pos) (tOB X.K C a dx H0 lf df G lf (df++[(f,d)])):=by
 refine (Ik hv h hs).imp fun D σ H ⟨⟨ls,fs,o⟩,q⟩=>⟨o.sd.mono lef_same,fun y H1 s1 d1=>?_⟩
 have o1:=o.step s1
 exact ⟨.ref a,o.slot,a,C,dx,fs,rfl,o1.oz.obj,cl,na,by have:=o.cnt;omega,q _ _ _ (o1.data (DV.lef (oz_ok.notup o1.ok) d1 hn) hf hf2 hA hz)⟩
theorem ET (cl:Cls X.K C) (na:NoAttr X.K C f) (hv:PE X (.Name x pos2) (tVar 0)) (h:EVF X G e ws) (hn:noLs ws=true) (hf:f∉lf.map (·.1)) (hf2:f∉df.map (·.1)) (hA:f∈AZ) (hz:lf.length + df.length < 30)
  (hs:swapsWith e (some (.Attribute (.Name x pos2) f pos')) pos.line X.env=pure false:=by rfl):PS X (.Assign [.Attribute (.Name x pos2) f pos'] e pos) (tOB X.K C a dx H0 lf df G (lf++[(f,ws)]) df):=by
 refine (Ik hv h hs).imp fun D σ H ⟨⟨ls,fs,o⟩,q⟩=>⟨o.sd.mono lef_same,fun p us H1 hp s1 hl d1=>?_⟩
 have o1:=o.step s1
 have hpL:p∉OR.L ⟨C,a,dx,ls⟩:=oz_ok.free o.ok hp
 refine ⟨.ref a,o.slot,a,C,dx,fs,rfl,o1.oz.obj,cl,na,by have:=o.cnt;omega,q (ls++[(f,p)]) (putF f (.ref p) fs) _ ?_⟩
 have hpa:p≠a:=fun z=>hpL (by rw [z];exact List.mem_cons_self)
 have nal:∀p∈ls.map (·.2),p≠a:=fun p hp z=>(List.nodup_cons.mp o.oz.nda).1 (z ▸ List.mem_cons_of_mem _ hp)
 have nad:dx≠a:=fun z=>(List.nodup_cons.mp o.oz.nda).1 (z ▸ List.mem_cons_self)
 have hlen:=BR f (.ref p) fs
 have hc:=o.cnt
 have e2:OR.L ⟨C,a,dx,ls++[(f,p)]⟩=OR.L ⟨C,a,dx,ls⟩++[p]:=by show a::dx::(ls++[(f,p)]).map (·.2)=_;rw [List.map_append];rfl
 have sub:∀{H':Hp},Same (lef (OR.L ⟨C,a,dx,ls⟩) H) H'→∀b o,lef (OR.L ⟨C,a,dx,ls⟩) H b=some o→b≠p:=fun _ b o e z=>by
  subst z
  have:=lef_same _ _ e
  rw [hp] at this
  cases this
 have sL:Same (lef (OR.L ⟨C,a,dx,ls⟩) H) (lef (OR.L ⟨C,a,dx,ls++[(f,p)]⟩) (upd H1 a (.ins C dx (putF f (.ref p) fs)))):=fun b o e=>by
  have n1:b≠p:=sub (Same.refl _) b o e
  have n2:b∉OR.L ⟨C,a,dx,ls⟩:=fun z=>by rw [AJ z] at e;cases e
  have n3:b∉OR.L ⟨C,a,dx,ls++[(f,p)]⟩:=by
   rw [e2]
   intro z
   rcases List.mem_append.mp z with z | z
   ·exact n2 z
   ·exact n1 (List.mem_singleton.mp z)
  rw [Ay n3,Aj fun z=>n2 (by rw [z];exact List.mem_cons_self)]
  rw [Ay n2] at e
  exact s1 _ _ e
 have dws:DVs X.K (lef (OR.L ⟨C,a,dx,ls++[(f,p)]⟩) (upd H1 a (.ins C dx (putF f (.ref p) fs)))) us ws:=by
  have h1:DVs X.K (lef [p] (lef (OR.L ⟨C,a,dx,ls⟩) H1)) us ws:=by
   have nt:∀b∈[p],∀xs,¬Rd (lef (OR.L ⟨C,a,dx,ls⟩) H1) b (.tup xs):=fun b hb xs r=>by
    have:=List.mem_singleton.mp hb
    subst this
    rcases r with r | ⟨q,r⟩ <;> (rw [Ay hpL,hl] at r;cases r)
   exact DVs.lef nt (DVs.lef (oz_ok.notup o1.ok) d1 hn) hn
  refine h1.mono fun b o e=>?_
  have m1:b∉[p]:=fun z=>by rw [AJ z] at e;cases e
  rw [Ay m1] at e
  have m2:b∉OR.L ⟨C,a,dx,ls⟩:=fun z=>by rw [AJ z] at e;cases e
  rw [Ay m2] at e
  have m3:b∉OR.L ⟨C,a,dx,ls++[(f,p)]⟩:=by
   rw [e2]
   intro z
   rcases List.mem_append.mp z with z | z
   ·exact m2 z
   ·exact m1 z
  rw [Ay m3,Aj fun z=>m2 (by rw [z];exact List.mem_cons_self)]
  exact e
 refine ⟨o.slot,?_,o.sd.mono sL,by rw [List.length_append];show _≤lf.length + 1 + df.length;omega,fun b u hb e=>by rw [Aj hb];exact o1.keep b u hb e,fun z hz=>?_⟩
 ·refine ⟨Am,by show upd H1 a _ dx=_;rw [Aj nad];exact s1 _ _ o.oz.own1,by omega,fun m hm=>?_,?_,fun z hz=>?_,fun z hz=>?_,fun z hz=>?_,fun z hz=>?_⟩
  ·rw [Az,if_neg (fun w:m=f=>hm (w ▸ hA))]
   exact o.oz.nam m hm
  ·rw [e2,List.nodup_append]
   refine ⟨o.oz.nda,List.nodup_cons.mpr ⟨by simp,List.nodup_nil⟩,fun y hy z hz w=>?_⟩
   rw [List.mem_singleton.mp hz] at w
   exact hpL (w ▸ hy)
  ·rw [List.map_append]
   intro w
   rcases List.mem_append.mp w with w | w
   ·exact o.oz.apart z hz w
   ·exact hf2 ((show z.1=f from List.mem_singleton.mp w) ▸ List.mem_map_of_mem hz)
  ·rcases List.mem_append.mp hz with hz | hz
   ·obtain ⟨us',hu⟩:=o1.oz.own z hz
    exact ⟨us',by rw [Aj (nal _ (List.mem_map_of_mem hz))];exact hu⟩
   ·rw [List.mem_singleton.mp hz]
    exact ⟨us,by rw [Aj hpa];exact hl⟩
  ·rcases List.mem_append.mp hz with hz | hz
   ·obtain ⟨p',us',h1,h2,h3,h4,h5⟩:=o.oz.lst z hz
    refine ⟨p',us',List.mem_append_left _ h1,?_,?_,h4.mono sL,h5⟩
    ·rw [Az,if_neg (fun w:z.1=f=>hf (w ▸ List.mem_map_of_mem hz))]
     exact h2
    ·show upd H1 a _ p'=_
     rw [Aj (nal _ (List.mem_map_of_mem (f:=(·.2)) h1))]
     exact s1 _ _ h3
   ·rw [List.mem_singleton.mp hz]
    exact ⟨p,us,List.mem_append_right _ List.mem_cons_self,by rw [Az,if_pos rfl],by show upd H1 a _ p=_;rw [Aj hpa];exact hl,dws,hn⟩
  ·obtain ⟨v,h1,h2⟩:=o.oz.dat z hz
   exact ⟨v,by rw [Az,if_neg (fun w:z.1=f=>hf2 (w ▸ List.mem_map_of_mem hz))];exact h1,h2.mono sL⟩
 ·rcases List.mem_append.mp hz with hz | hz
  ·exact o.fre z hz
  ·rw [List.mem_singleton.mp hz]
   show H0 p=none
   cases e:H0 p with
   | none=>rfl
   | some u=>have:=o.keep p u hpa e;rw [hp] at this;cases this
end
def spOI (K:PySem.W.Frag) (C:Addr) (F:List PyData→LF→DF→Prop):Sp:=fun vs H Q _=>∃(a dx:Addr) (ds:List PyData) (lf:LF) (df:DF) (vr:List V),vs=.ref a::vr∧H a=some (.ins C dx [])∧H dx=some (.own a)∧dx≠a∧DVs K (lef [a,dx] H) vr ds∧F ds lf df∧
 ∀H' R,R.C=C→R.a=a→R.dx=dx→Oz K R lf df H'→(∀b o,b≠a→H b=some o→H' b=some o)→(∀q∈R.ls,H q.2=none)→Q .non H'
def OIFn (P:Program) (w:World) (K:PySem.W.Frag) (mg:Str→Option Value) (base:Heap) (k:Nat) (C:Addr) (F:List PyData→LF→DF→Prop):Prop:=
 ∃f fd ps,FnOk P w K mg base CX0 k f fd ps (spOI K C F)∧Mk K C f∧Binds K fd ps []
theorem Fun.objI {P:Program} {w:World} {K:PySem.W.Frag} {mg:Str→Option Value} {base:Heap} {x qual n0:Str} {st:Stmt} {f:Addr} {fd:FuncData} {N ps:List Str} {k:Nat} {C:Addr} {F:List PyData→LF→DF→Prop} (F0:Fun K x qual st f fd) (hm:Mk K C f) (hb:Binds K fd ps []) (S:FnScope (n0::N) ps (Ae st)) (len:∀ds lf df,F ds lf df→ds.length + 1=ps.length)
  (hbody:∀(cdv:Value) (A:Around) (outer:List Env) (s:Shared) (H:Hp) (E:XK) (a dx:Addr) (H0:Hp) (ds:List PyData) (lf:LF) (df:DF),Room k (A.deeper (envOfC qual (Ae st) s.heap.objs.size f cdv))→F ds lf df→
   PSs (cxOf CX0 P w K mg base (n0::N) qual (Ae st) f cdv A outer s H E).nox (AG st) (tOB K C a dx H0 [] [] (none::AO N ds) lf df)):OIFn P w K mg base (k + 1) C F:=by
 refine ⟨f,fd,ps,F0.ok S (fun vs H Q E ⟨a,dx,ds,lf,df,vr,e,_,_,_,dv,hF,_⟩=>by rw [e,List.length_cons,dv.length];exact len ds lf df hF) (fun cdv A outer s H vs Q E hr ⟨a,dx,ds,lf,df,vr,e,ha,hdx,hne,dv,hF,q⟩=>?_),hm,hb⟩
 subst e
 refine ⟨_,hbody cdv A outer s H E a dx H ds lf df hr hF,⟨[],[],?_,?_,?_,Nat.zero_le _,fun b o _ e=>e,(fun z hz=>by cases hz)⟩,fun ls' fs' H' o=>q H' ⟨C,a,dx,ls'⟩ rfl rfl rfl o.ok (fun b u hb e=>o.keep b u hb e) o.fre⟩
 ·rw [Br];rfl
 ·exact ⟨ha,hdx,Nat.zero_le _,fun _ _=>rfl,List.nodup_cons.mpr ⟨by simpa using Ne.symm hne,List.nodup_cons.mpr ⟨by simp,List.nodup_nil⟩⟩,(fun z hz=>by cases hz),(fun z hz=>by cases hz),(fun z hz=>by cases hz),(fun z hz=>by cases hz)⟩
 ·rw [Br];exact (SD.start dv).cons0 _
section
variable {X:Cx} {C:Addr} {G:Gam} {k i:Nat} {e:Expr} {es:List Expr} {ds:List PyData} {lf:LF} {df:DF} {sts:List Stmt} {d:PyData} {p1 p2 p3 p4:Pos} {x xt:Str}
end
section
variable {X:Cx} {L:List Addr} {I I1:Hp→Prop} {rs:List (Nat×Addr)} {G:Gam} {e:Expr} {pos:Pos} {i j l:Nat}
theorem Jq {tg:Expr} {d1 d2:PyData} (h:ZE X L I rs G e (.tuple [d1,d2]) I1) (hpg:PG X tg (gTup X.K 2 (Ei [i,j]))) (hi:∀q∈rs,q.1≠i) (hj:∀q∈rs,q.1≠j)
  (hs:swapsWithSole [tg] e pos.line X.env=pure false:=by rfl) (hw:swappedStores [tg] e X.env=pure none:=by rfl) (h1:(assignEach [tg] X.env).map (·.2)=[assign tg X.env]:=by rfl):
  PS X (.Assign [tg] e pos) (zN X.K L I rs G ((G.set i (some d1)).set j (some d2)) I1):=
 (Ea h hpg hs hw h1).imp fun D σ H ⟨r,q⟩=>⟨r,fun v H1 t1 s1 dv=>by
  obtain ⟨l,ys,rfl,hq,dys⟩:=dv.of_tup
  obtain ⟨v1,v2,rfl,dv1,dv2⟩:=dys.two
  refine ⟨l,[v1,v2],rfl,lef_same.seqT hq,rfl,v1,[v2],rfl,v2,[],rfl,rfl,?_⟩
  refine q _ H1 ⟨fun z hz=>?_,t1,((r.2.2.mono s1).set dv1).set dv2⟩ s1
  rw [List.getElem?_set_ne (hj z hz).symm,List.getElem?_set_ne (hi z hz).symm]
  exact r.1 z hz⟩
theorem M8 {tg:Expr} {d1 d2 d3:PyData} (h:ZE X L I rs G e (.tuple [d1,d2,d3]) I1) (hpg:PG X tg (gTup X.K 3 (Ei [i,j,l]))) (hi:∀q∈rs,q.1≠i) (hj:∀q∈rs,q.1≠j) (hl:∀q∈rs,q.1≠l)
  (hs:swapsWithSole [tg] e pos.line X.env=pure false:=by rfl) (hw:swappedStores [tg] e X.env=pure none:=by rfl) (h1:(assignEach [tg] X.env).map (·.2)=[assign tg X.env]:=by rfl):
  PS X (.Assign [tg] e pos) (zN X.K L I rs G (((G.set i (some d1)).set j (some d2)).set l (some d3)) I1):=
 (Ea h hpg hs hw h1).imp fun D σ H ⟨r,q⟩=>⟨r,fun v H1 t1 s1 dv=>by
  obtain ⟨l,ys,rfl,hq,dys⟩:=dv.of_tup
  obtain ⟨v1,v2,v3,rfl,dv1,dv2,dv3⟩:=three dys
  refine ⟨l,[v1,v2,v3],rfl,lef_same.seqT hq,rfl,v1,[v2,v3],rfl,v2,[v3],rfl,v3,[],rfl,rfl,?_⟩
  refine q _ H1 ⟨fun z hz=>?_,t1,(((r.2.2.mono s1).set dv1).set dv2).set dv3⟩ s1
  rw [List.getElem?_set_ne (hl z hz).symm,List.getElem?_set_ne (hj z hz).symm,List.getElem?_set_ne (hi z hz).symm]
  exact r.1 z hz⟩
end
def Fo (H:Hp) (L:List Addr) (b:Addr):Prop:=(∃xs,H b=some (.lst xs))∨(∃C dx fs,H b=some (.ins C dx fs)∧dx∈L)∨∃a C fs,H b=some (.own a)∧a∈L∧H a=some (.ins C b fs)
def CL (L:List Addr) (H H':Hp):Hp:=fun b=>if b∈L then H b else H' b
theorem C2 {L:List Addr} {H H':Hp} {b:Addr} (h:b∈L):CL L H H' b=H b:=by unfold CL;rw [if_pos h]
theorem Ld {L:List Addr} {H H':Hp} {b:Addr} (h:b∉L):CL L H H' b=H' b:=by unfold CL;rw [if_neg h]
theorem FF {L:List Addr} {H H':Hp} (h:∀b∈L,H' b=none):lef L (CL L H H')=H':=by
 funext b
 by_cases hb:b∈L
 ·rw [AJ hb,h b hb]
 ·rw [Ay hb,Ld hb]
section
variable {X:Cx} {pins:List (Addr×Obj)} {σ:St} {H H':Hp} {s s':Shared} {L:List Addr}
end
def Fq (H:Hp) (L:List Addr) (b:Addr):Prop:=Fo H L b∨∃kvs,H b=some (.dK kvs)
section
variable {X:Cx} {pins:List (Addr×Obj)} {σ σ':St} {H H':Hp} {s s':Shared} {L:List Addr}
end
theorem Oz.fo {K:PySem.W.Frag} {R:OR} {lf:LF} {df:DF} {H:Hp} (i:Oz K R lf df H):∀b∈R.L,Fo H R.L b:=fun b hb=>by
 obtain ⟨fs,t⟩:=i
 rcases List.mem_cons.mp hb with e | e
 ·exact .inr (.inl ⟨_,_,_,by rw [e];exact t.obj,List.mem_cons_of_mem _ List.mem_cons_self⟩)
 rcases List.mem_cons.mp e with e | e
 ·exact .inr (.inr ⟨R.a,R.C,fs,by rw [e];exact t.own1,List.mem_cons_self,by rw [e];exact t.obj⟩)
 ·obtain ⟨q,hq,rfl⟩:=List.mem_map.mp e
  exact .inl (t.own q hq)
theorem Oz.join {K:PySem.W.Frag} {R:OR} {lf:LF} {df:DF} {H H':Hp} (i:Oz K R lf df H) (n:∀b∈R.L,H' b=none) (s:Same (lef R.L H) H'):Oz K R lf df (CL R.L H H'):=by
 obtain ⟨fs,t⟩:=i
 refine ⟨fs,?_⟩
 rw [FF n]
 refine ⟨by rw [C2 List.mem_cons_self];exact t.obj,by rw [C2 (List.mem_cons_of_mem _ List.mem_cons_self)];exact t.own1,t.few,t.nam,t.nda,t.apart,fun q hq=>?_,fun q hq=>?_,fun q hq=>?_⟩
 ·rw [C2 (List.mem_cons_of_mem _ (List.mem_cons_of_mem _ (List.mem_map_of_mem hq)))]
  exact t.own q hq
 ·obtain ⟨p,us,h1,h2,h3,h4,h5⟩:=t.lst q hq
  exact ⟨p,us,h1,h2,by rw [C2 (List.mem_cons_of_mem _ (List.mem_cons_of_mem _ (List.mem_map_of_mem (f:=(·.2)) h1)))];exact h3,h4.mono s,h5⟩
 ·obtain ⟨v,h1,h2⟩:=t.dat q hq
  exact ⟨v,h1,h2.mono s⟩
section
variable {X:Cx} {H0:Hp} {p:Addr} {i j l:Nat} {Pre Post:Gam→List PyData→Prop} {e:Expr} {pos pos':Pos} {x:Str}
end
section
variable {X:Cx} {L:List Addr} {rs:List (Nat×Addr)} {G:Gam} {c:Expr} {d:PyData} {j m:Nat} {pos:Pos} {α:Type} {Iv:α→Hp→Prop} {T:α}
end
section
variable {X:Cx} {G:Gam} {e:Expr} {pos:Pos}
end
def IsR (C:Addr) (oa:Option Addr) (R:OR):Prop:=R.C=C∧∀a,oa=some a→R.a=a
def YZ (K:PySem.W.Frag) (C:Addr) (oa:Option Addr) (i:Nat) (G:Gam) (lf:LF) (df:DF) (R:OR) (σ:St) (H:Hp):Prop:=IsR C oa R∧RZ K R.L (Oz K R lf df) [(i,R.a)] G σ H
section
variable {X:Cx} {C:Addr} {oa:Option Addr} {i j k:Nat} {lf lf' lf1 lf2:LF} {df df' df1 df2:DF} {G G1 G2 G':Gam} {e c:Expr} {es:List Expr} {d:PyData} {ds ws:List PyData} {pos pos' pos2 pos3 apos:Pos} {x f m:Str} {st:Stmt} {sts:List Stmt}
end
def tM (K:PySem.W.Frag) (C:Addr) (G:Gam) (lf:LF) (df:DF):TS:=fun D σ H=>SD K H σ G∧∀R' H',R'.C=C→Oz K R' lf df H'→Same H (lef R'.L H')→D.rt (.ref R'.a) H'
section
variable {P:Program} {w:World} {K:PySem.W.Frag} {mg:Str→Option Value} {base:Heap}
end
section
variable {X:Cx} {C:Addr} {oa:Option Addr} {i j k:Nat} {lf lf' lf1 lf2:LF} {df df' df1 df2:DF} {G G1 G2 G':Gam} {e c:Expr} {es:List Expr} {d:PyData} {ds ws:List PyData} {pos pos' pos2 pos3 apos p1 p2 p3 p4:Pos} {x xt f m:Str} {st:Stmt} {sts:List Stmt}
end
section
variable {X:Cx} {L:List Addr} {rs:List (Nat×Addr)} {G:Gam} {c:Expr} {d:PyData} {j m:Nat} {pos:Pos} {α:Type} {Iv:α→Hp→Prop} {T:α}
theorem LR {body sts:List Stmt} {n:Nat} {I1:Hp→Prop} (W:Nat→Gam→α→Prop) (hp:PassesOwn (model X.prog X.w) X.A X.env X.xe) (h0:W 0 G T)
  (hc:∀k G T,k≤n→W k G T→ZT X L (Iv T) rs G c (decide (k < n)))
  (hb:∀k G T,k < n→W k G T→(∃G' T',W (k + 1) G' T'∧PSs X body (zN X.K L (Iv T) rs G G' (Iv T')))∨PSs X body (zR X.K L (Iv T) rs G d I1))
  (hd:∀G T,W n G T→PSs X sts (zR X.K L (Iv T) rs G d I1)):
  PSs X (.While c body [] pos::sts) (zR X.K L (Iv T) rs G d I1):=by
 have hT:PT X c (fun σ H Q=>∃(k:Nat) (G:Gam) (T:α),k≤n∧W k G T∧zT X.K L (Iv T) rs G (decide (k < n)) σ H Q):=fun pins s σ H Q I ⟨k,G,T,hk,hW,q⟩=>hc k G T hk hW pins s σ H Q I q
 have hbody:PSs X body (fun D σ H=>∃(k:Nat) (G:Gam) (T:α),k < n∧W k G T∧RZ X.K L (Iv T) rs G σ H∧(∀σ' H' G' T',W (k + 1) G' T'→RZ X.K L (Iv T') rs G' σ' H'→Same (lef L H) (lef L H')→D.nx σ' H')∧∀v H',I1 H'→Same (lef L H) (lef L H')→DV X.K (lef L H') v d→D.rt v H'):=by
  intro pins s σ H D I ⟨k,G,T,hk,hW,r,q1,q2⟩
  rcases hb k G T hk hW with ⟨G',T',hW',hps⟩ | hps
  ·exact hps pins s σ H D I ⟨r,fun σ' H' r' s'=>q1 σ' H' G' T' hW' r' s'⟩
  ·exact hps pins s σ H D I ⟨r,q2⟩
 have h2:PSs X sts (fun D σ H=>∃(G:Gam) (T:α),W n G T∧zR X.K L (Iv T) rs G d I1 D σ H):=fun pins s σ H D I ⟨G,T,hW,q⟩=>hd G T hW pins s σ H D I q
 refine (A4 (LI hp hT hbody) h2).imp fun D σ H ⟨r,q⟩=>?_
 refine ⟨fun m σ2 H2=>∃(k:Nat) (G:Gam) (T:α),m=n - k∧k≤n∧W k G T∧RZ X.K L (Iv T) rs G σ2 H2∧Same (lef L H) (lef L H2),⟨n,0,G,T,rfl,Nat.zero_le _,h0,r,Same.refl _⟩,?_⟩
 rintro m σ2 H2 ⟨k,G2,T2,rfl,hk,hW,r2,sm⟩
 refine ⟨k,G2,T2,hk,hW,r2,fun H3 r3 s3=>?_⟩
 by_cases hlt:k < n
 ·rw [decide_eq_true hlt]
  refine iteT ⟨fun σ' H'=>∃G' T',W (k + 1) G' T'∧RZ X.K L (Iv T') rs G' σ' H'∧Same (lef L H) (lef L H'),fun σ' H' ⟨G',T',w',r',s'⟩=>⟨n - (k + 1),by omega,k + 1,G',T',rfl,hlt,w',r',s'⟩,k,G2,T2,hlt,hW,r3,fun σ' H' G' T' w' r' s'=>⟨G',T',w',r',(sm.trans s3).trans s'⟩,fun v H' i s' dv=>q v H' i ((sm.trans s3).trans s') dv⟩
 ·rw [decide_eq_false hlt]
  have e:k=n:=by omega
  subst e
  exact iteF ⟨G2,T2,hW,r3,fun v H' i s' dv=>q v H' i ((sm.trans s3).trans s') dv⟩
end
section
variable {X:Cx} {L:List Addr} {I I1 I2:Hp→Prop} {rs:List (Nat×Addr)} {G:Gam} {a b e:Expr} {es:List Expr} {d da db:PyData} {ds:List PyData} {C:Addr} {k k2:Nat} {lf lf':LF} {df df':DF} {fls:List (PyData×PyData)} {pos pos2 pos3 apos apos2:Pos} {x m m2:Str}
end
section
variable {P:Program} {w:World} {K:PySem.W.Frag} {mg:Str→Option Value} {base:Heap}
end
section
variable {X:Cx} {C:Addr} {oa:Option Addr} {i k:Nat} {lf lf':LF} {df df':DF} {G:Gam} {e:Expr} {es:List Expr} {ds:List PyData} {pos pos2 pos3 apos:Pos} {x m:Str}
end
theorem OA {X:Cx} {L:List Addr} {I:Hp→Prop} {rs:List (Nat×Addr)} {G:Gam} {e:Expr} {z n:Int} {j:Nat} {x:Str} {pos pos':Pos} (ok:ZOk L I) (hN:X.N.Nodup) (hi:X.N[j]?=some x) (hj:∀q∈rs,q.1≠j) (hx:Loc X.env.scope x) (h:EV X G e (.int n)) (hG:G[j]?=some (some (.int z))) (hf:X.fn x=true∨X.env.scope.names.lookup x=some .local:=by first | exact .inl rfl | exact .inr rfl | assumption):
  PS X (.AugAssign (.Name x pos') .Add e pos) (zN X.K L I rs G (G.set j (some (.int (z + n)))) I):=
 (Pz (ti:=rAdd) hN hi hx h LE hf).imp fun D σ H ⟨r,q⟩=>by
  obtain ⟨v,e1,dv⟩:=r.2.2.2 j _ hG
  have ev:=dv.of_int
  subst ev
  refine ⟨.int z,e1,r.sd,fun y H1 s1 d1=>?_⟩
  have ey:=d1.of_int
  subst ey
  exact ⟨z,n,rfl,rfl,q _ H1 ⟨fun w hw=>by rw [List.getElem?_set_ne (hj w hw).symm];exact r.1 w hw,ok.step r.2.1 s1,(r.2.2.mono s1.lef).set (.int _)⟩ s1.lef⟩
section
variable {X:Cx} {L:List Addr} {rs:List (Nat×Addr)} {G G1:Gam} {c:Expr} {d:PyData} {i j m:Nat} {pos:Pos} {α:Type} {Iv:α→Hp→Prop} {T T1:α}
end
section
variable {X:Cx} {L:List Addr} {I:Hp→Prop} {rs:List (Nat×Addr)} {G G':Gam} {e c:Expr} {es:List Expr} {d:PyData} {ds ws:List PyData} {kb:Bool}
abbrev Sees (K:PySem.W.Frag) (L:List Addr) (I:Hp→Prop) (rs:List (Nat×Addr)) (G G':Gam):Prop:=∀σ H,RZ K L I rs G σ H→SD K H σ G'
theorem GV (ok:ZOk L I) (v:Sees X.K L I rs G G') (h:TV X G' c kb):ZT X L I rs G c kb:=h.imp fun σ H Q ⟨r,q⟩=>⟨v σ H r,fun H' s'=>q H' (r.step ok s') s'.lef⟩
theorem NW (ok:ZOk L I) (v:Sees X.K L I rs G G') (h:EV X G' e d) (hn:noL d=true):ZE X L I rs G e d I:=h.imp fun σ H Q ⟨r,q⟩=>⟨v σ H r,fun u H' s' dv=>q u H' (ok.step r.2.1 s') s'.lef (DV.lef (ok.notup (ok.step r.2.1 s')) dv hn)⟩
end
structure NR where
 a:Addr
 ls:List (Str×Addr)
abbrev NR.L (R:NR):List Addr:=R.a::R.ls.map (·.2)
inductive NK (K:PySem.W.Frag) (ls:List (Str×Addr)) (Hb H:Hp):List (Key×V)→DF→Prop where
 | nil:NK K ls Hb H [] []
 | lst {f:Str} {p:Addr} {us:List V} {ds:List PyData} {r:List (Key×V)} {df:DF}:(f,p)∈ls→H p=some (.lst us)→DVs K Hb us ds→noLs ds=true→NK K ls Hb H r df→NK K ls Hb H ((.inr f,.ref p)::r) ((f,.list ds)::df)
 | dat {f:Str} {v:V} {d:PyData} {r:List (Key×V)} {df:DF}:DV K Hb v d→noL d=true→NK K ls Hb H r df→NK K ls Hb H ((.inr f,v)::r) ((f,d)::df)
structure NzS (K:PySem.W.Frag) (R:NR) (df:DF) (Hb H:Hp) (kvs:List (Key×V)):Prop where
 obj:H R.a=some (.dK kvs)
 few:df.length≤40
 nda:R.L.Nodup
 ndl:(R.ls.map (·.1)).Nodup
 ndk:(df.map (·.1)).Nodup
 sub:∀q∈R.ls,q.1∈df.map (·.1)
 own:∀q∈R.ls,∃us,H q.2=some (.lst us)
 nk:NK K R.ls Hb H kvs df
def Nz (K:PySem.W.Frag) (R:NR) (df:DF) (H:Hp):Prop:=∃kvs,NzS K R df (lef R.L H) H kvs
def dfD (df:DF):List (PyData×PyData):=df.map fun q=>(.str q.1,q.2)
section
variable {K:PySem.W.Frag} {ls:List (Str×Addr)} {Hb Hb' H H':Hp} {f:Str} {p:Addr} {d:PyData} {ds:List PyData}
end
section
variable {K:PySem.W.Frag} {R:NR} {df:DF} {Hb Hb' H H':Hp} {kvs:List (Key×V)} {f:Str} {p:Addr} {d:PyData} {ds:List PyData}
end
section
variable {X:Cx} {R:NR} {df:DF} {rs:List (Nat×Addr)} {G G1 G2 G':Gam} {e c a b:Expr} {es:List Expr} {d:PyData} {ds ws:List PyData} {k i j:Nat} {pos pos' pos2 pos3 pos4 apos p1:Pos} {x f m:Str} {p:Addr}
theorem Ko {d:PyData} (hn:noL d=true):∀(l:List PyData) (n:Nat),noLs l=true→noLs (l.set n d)=true:=by
 intro l
 induction l with
 | nil=>intro n h;exact h
 | cons y r ih=>
   intro n h
   unfold noLs at h
   rw [Bool.and_eq_true] at h
   cases n with
   | zero=>rw [List.set_cons_zero];unfold noLs;rw [hn,h.2];rfl
   | succ n=>rw [List.set_cons_succ];unfold noLs;rw [h.1,ih n h.2];rfl
end
section
variable {X:Cx} {R:NR} {df:DF} {rs:List (Nat×Addr)} {G G1 G2 G':Gam} {e c a b:Expr} {es:List Expr} {d:PyData} {ds ws:List PyData} {k i j:Nat} {pos pos' pos2 pos3 pos4 apos p1:Pos} {x y f m:Str} {p:Addr}
end
section
variable {P:Program} {w:World} {K:PySem.W.Frag} {mg:Str→Option Value} {base:Heap}
end
section
variable {X:Cx} {R:NR} {df df' df2:DF} {rs:List (Nat×Addr)} {G G1 G2 G':Gam} {e c a b:Expr} {es:List Expr} {d:PyData} {ds ws:List PyData} {k i j:Nat} {pos pos' pos2 pos3 pos4 apos p1:Pos} {x y f m:Str} {p:Addr}
end
section
variable {X:Cx} {pins:List (Addr×Obj)} {σ:St} {H:Hp} {s:Shared} {a b:Addr} {kvs more:List (Key×V)} {A:Around} {E:Value→Shared→Prop}
end
structure DBn (K:PySem.W.Frag) (H:Hp) (ls:List (Str×Addr)) (df:DF) (kvs:List (Key×V)) (H':Hp):Prop where
 same:Same H H'
 fre:∀q∈ls,H q.2=none
 nda:(ls.map (·.2)).Nodup
 ndl:(ls.map (·.1)).Nodup
 sub:∀q∈ls,q.1∈df.map (·.1)
 own:∀q∈ls,∃us,H' q.2=some (.lst us)
 nk:NK K ls H' H' kvs df
section
variable {X:Cx} {pos:Pos} {G:Gam} {keys:List (Option Expr)} {vals:List Expr} {df:DF} {k v:Expr} {f:Str} {ws:List PyData} {d:PyData}
end
theorem none_of {H H':Hp} {b:Addr} (s:Same H H') (h:H' b=none):H b=none:=by
 cases e:H b with
 | none=>rfl
 | some o=>rw [s _ _ e] at h;cases h
section
variable {X:Cx} {pos pos' pos2 p1 p4 apos cpos:Pos} {G:Gam} {keys keys2:List (Option Expr)} {vals vals2:List Expr} {df df2:DF} {xt:Str} {i:Nat} {sts:List Stmt}
end
theorem EN {L1 L2':List Addr} {H:Hp}:lef L1 (lef L2' H)=lef L2' (lef L1 H):=by
 funext b
 by_cases h1:b∈L1
 ·rw [AJ h1]
  by_cases h2:b∈L2'
  ·rw [AJ h2]
  ·rw [Ay h2,AJ h1]
 ·rw [Ay h1]
  by_cases h2:b∈L2'
  ·rw [AJ h2,AJ h2]
  ·rw [Ay h2,Ay h2,Ay h1]
structure ZF (L:List Addr) (I:Hp→Prop):Prop where
 fo:∀H,I H→∀b∈L,Fq H L b
 join:∀H H',I H→(∀b∈L,H' b=none)→Same (lef L H) H'→I (CL L H H')
theorem Q7 {K:PySem.W.Frag} {R:OR} {lf:LF} {df:DF}:ZF R.L (Oz K R lf df):=⟨fun _ i b hb=>.inl (i.fo b hb),fun _ _ i n s=>i.join n s⟩
section
variable {X:Cx} {L1 L2':List Addr} {I1 I1' I2 I2':Hp→Prop} {rs rs1:List (Nat×Addr)} {G G':Gam} {e c:Expr} {es:List Expr} {d:PyData} {ds:List PyData}
end
section
variable {X:Cx} {L:List Addr} {I:Hp→Prop} {rs:List (Nat×Addr)} {G G1:Gam} {c e:Expr} {d:PyData} {i j m:Nat} {pos p1 p4:Pos} {y:Str} {df:DF} {sts:List Stmt} {α:Type} {Iv:α→Hp→Prop} {T T1:α}
end
section
variable {X:Cx} {L:List Addr} {I I1:Hp→Prop} {rs:List (Nat×Addr)} {G:Gam} {e tg a b k v:Expr} {pos p1:Pos} {is:List Nat} {ds:List PyData}
end
def Ends.fr (D:Ends) (L:List Addr) (H:Hp):Ends:=⟨fun σ' H'=>(∀b∈L,H' b=none)→D.nx σ' (CL L H H'),fun v H'=>(∀b∈L,H' b=none)→D.rt v (CL L H H'),fun σ' H'=>(∀b∈L,H' b=none)→D.bk σ' (CL L H H'),fun σ' H'=>(∀b∈L,H' b=none)→D.ct σ' (CL L H H')⟩
section
variable {X:Cx} {L1 L2':List Addr} {I1 I1' I2 I2':Hp→Prop} {rs:List (Nat×Addr)} {G G':Gam} {st:Stmt}
end
section
variable {X:Cx} {L:List Addr} {I I1:Hp→Prop} {rs:List (Nat×Addr)} {G G1 G':Gam} {e a b c:Expr} {d:PyData} {ws S:List PyData} {i j k:Nat} {p:Addr} {pos pos' pos2 pos3:Pos} {x y:Str} {st:Stmt} {sts:List Stmt}
theorem Kz.fo {K:PySem.W.Frag} {H:Hp} (i:Kz K p S H):∀b∈[p],Fq H [p] b:=fun b hb=>by
 obtain ⟨us,h,_⟩:=i
 exact .inl (.inl ⟨us,by rw [List.mem_singleton.mp hb];exact h⟩)
theorem Q8 {K:PySem.W.Frag}:ZF [p] (Kz K p S):=⟨fun _ i=>i.fo,fun H H' ⟨us,h1,h2,h3⟩ n s=>⟨us,by rw [C2 List.mem_cons_self];exact h1,by rw [FF n];exact h2.mono s,h3⟩⟩
end
def zTI (K:PySem.W.Frag) (L:List Addr) (I:Hp→Prop) (rs:List (Nat×Addr)) (G:Gam) (k:Bool) (I1:Hp→Prop):TT:=fun σ H Q=>RZ K L I rs G σ H∧∀H',I1 H'→Same (lef L H) (lef L H')→Q k H'
abbrev ZTI (X:Cx) (L:List Addr) (I:Hp→Prop) (rs:List (Nat×Addr)) (G:Gam) (e:Expr) (k:Bool) (I1:Hp→Prop):Prop:=PT X e (zTI X.K L I rs G k I1)
section
variable {X:Cx} {L:List Addr} {I I1 I2:Hp→Prop} {rs:List (Nat×Addr)} {G G1:Gam} {a b c e:Expr} {rest:List Expr} {d da db:PyData} {k k':Bool} {pos:Pos}
theorem Gr (h:ZT X L I rs G e k):ZTI X L I rs G e k I:=h.imp fun σ H Q ⟨r,q⟩=>⟨r,fun H' r' s'=>q H' r'.2.1 s'⟩
end
section
variable {X:Cx} {CX:CXT} {C:Addr} {m:Str} {f:Addr} {fd:FuncData} {ps:List Str} {sp:Sp} {k:Nat} {dvs:List V} {ds:List Value} {E:XK} {o e:Expr} {es:List Expr} {ta:TE} {t:TA} {pos apos:Pos}
end
section
variable {X:Cx} {R:OR} {lf lf':LF} {df df':DF} {L2':List Addr} {I2:Hp→Prop} {rs:List (Nat×Addr)} {G G1:Gam} {e c it:Expr} {es:List Expr} {ds:List PyData} {d:PyData} {i j k:Nat} {pos pos2 pos3 apos p1 p4:Pos} {x m y:Str} {sts:List Stmt} {L:List Addr} {I:Hp→Prop} {C:Addr} {oa:Option Addr} {dn:DF}
end
section
variable {X:Cx} {L:List Addr} {rs:List (Nat×Addr)} {G:Gam} {c:Expr} {d:PyData} {j:Nat} {pos:Pos} {α:Type} {Iv:α→Hp→Prop} {T:α} {I I1:Hp→Prop} {k:Bool}
end
section
variable {X:Cx} {C a:Addr} {L2':List Addr} {I2 I2' I2b:Hp→Prop} {rs:List (Nat×Addr)} {G G' G1:Gam} {lf lf' lf1:LF} {df df' df1:DF} {d:PyData} {c e:Expr} {es:List Expr} {ds:List PyData} {i k:Nat} {pos pos2 pos3 apos:Pos} {x m:Str} {st:Stmt} {sts:List Stmt}
end
section
variable {P:Program} {w:World} {K:PySem.W.Frag} {mg:Str→Option Value} {base:Heap}
end
section
variable {X:Cx} {G:Gam} {C:Addr} {k:Nat} {m x:Str} {fls:List (PyData×PyData)} {ws:List PyData} {pos pos2 apos:Pos}
end
section
variable {X:Cx} {L:List Addr} {rs:List (Nat×Addr)} {G G1:Gam} {c:Expr} {j:Nat} {pos:Pos} {α:Type} {Iv:α→Hp→Prop} {T T1:α}
end
inductive LsK (K:PySem.W.Frag) (Hb H:Hp):List Addr→List (List PyData)→Prop where
 | nil:LsK K Hb H [] []
 | cons {p:Addr} {us:List V} {ds:List PyData} {ps:List Addr} {dss:List (List PyData)}:H p=some (.lst us)→DVs K Hb us ds→noLs ds=true→LsK K Hb H ps dss→LsK K Hb H (p::ps) (ds::dss)
section
variable {X:Cx} {G G':Gam} {e:Expr} {es:List Expr} {ws:List PyData} {wss:List (List PyData)} {L:List Addr} {I:Hp→Prop} {rs:List (Nat×Addr)} {j k:Nat} {f x:Str} {pos pos2 pos3 p1 p4 p5:Pos}
end
section
variable {K:PySem.W.Frag} {Hb Hb' H H':Hp} {p:Addr} {us:List V} {S':List PyData}
end
def Hz (K:PySem.W.Frag) (h:Addr) (ps:List Addr) (dss:List (List PyData)) (H:Hp):Prop:=H h=some (.lst (ps.map V.ref))∧(h::ps).Nodup∧LsK K (lef (h::ps) H) H ps dss
section
variable {K:PySem.W.Frag} {h:Addr} {ps:List Addr} {dss:List (List PyData)} {H H':Hp}
end
section
variable {X:Cx} {L L1:List Addr} {I I1 I2:Hp→Prop} {rs:List (Nat×Addr)} {G G':Gam} {e:Expr} {es:List Expr} {d:PyData} {ds S:List PyData} {wss:List (List PyData)} {i j k:Nat} {p:Addr} {pos pos' pos2 pos3 apos p1 p2 p3 p4 p5:Pos} {x y f:Str} {sts:List Stmt} {C:Addr} {lf:LF} {df:DF}
theorem Oz.apart {K:PySem.W.Frag} {R:OR} {lf:LF} {df:DF} {H:Hp} {L:List Addr} (i:Oz K R lf df H) (dj:∀b∈L,b∉R.L) (nt:∀b∈L,∀xs,¬Rd H b (.tup xs)) (hn:∀q∈df,noL q.2=true):Oz K R lf df (lef L H):=by
 obtain ⟨fs,t⟩:=i
 have na:∀b∈R.L,b∉L:=fun b hb z=>dj b z hb
 have nt2:∀b∈L,∀xs,¬Rd (lef R.L H) b (.tup xs):=fun b hb xs r=>by
  refine nt b hb xs ?_
  rcases r with r | ⟨q,r⟩
  ·exact .inl (lef_same _ _ r)
  ·exact .inr ⟨q,lef_same _ _ r⟩
 refine ⟨fs,by rw [Ay (na _ List.mem_cons_self)];exact t.obj,by rw [Ay (na _ (List.mem_cons_of_mem _ List.mem_cons_self))];exact t.own1,t.few,t.nam,t.nda,t.apart,fun q hq=>?_,fun q hq=>?_,fun q hq=>?_⟩
 ·rw [Ay (na _ (List.mem_cons_of_mem _ (List.mem_cons_of_mem _ (List.mem_map_of_mem hq))))]
  exact t.own q hq
 ·obtain ⟨p,us,h1,h2,h3,h4,h5⟩:=t.lst q hq
  refine ⟨p,us,h1,h2,by rw [Ay (na _ (List.mem_cons_of_mem _ (List.mem_cons_of_mem _ (List.mem_map_of_mem (f:=(·.2)) h1))))];exact h3,?_,h5⟩
  rw [EN]
  exact DVs.lef nt2 h4 h5
 ·obtain ⟨v,h1,h2⟩:=t.dat q hq
  refine ⟨v,h1,?_⟩
  rw [EN]
  exact DV.lef nt2 h2 (hn q hq)
end
section
variable {K:PySem.W.Frag} {L0:List Addr} {I0:Hp→Prop} {R:OR} {lf:LF} {dm:DF} {N:NR} {df:DF} {p:Addr} {S:List PyData} {rs:List (Nat×Addr)} {G:Gam} {i j l:Nat}
end
abbrev Zt:=List Addr×(Hp→Prop)
abbrev Dj (A B:List Addr):Prop:=∀b∈A,b∉B
structure Gd (it:Zt):Prop where
 ok:ZOk it.1 it.2
 ap:∀{H:Hp} {M:List Addr},it.2 H→Dj M it.1→(∀b∈M,∀xs,¬Rd H b (.tup xs))→it.2 (lef M H)
 fr:ZF it.1 it.2
abbrev Gds (its:List Zt):Prop:=∀it∈its,Gd it
def LZ (its:List Zt):List Addr:=(its.map (·.1)).flatten
def TZ (its:List Zt) (H:Hp):Prop:=(its.map (·.1)).Pairwise Dj∧∀it∈its,it.2 H
theorem mem_LZ {its:List Zt} {b:Addr}:b∈LZ its↔∃it∈its,b∈it.1:=by
 unfold LZ
 rw [List.mem_flatten]
 constructor
 ·rintro ⟨l,hl,hb⟩
  obtain ⟨it,h,rfl⟩:=List.mem_map.mp hl
  exact ⟨it,h,hb⟩
 ·rintro ⟨it,h,hb⟩
  exact ⟨it.1,List.mem_map_of_mem h,hb⟩
theorem KU {its:List Zt} (g:∀it∈its,ZOk it.1 it.2):ZOk (LZ its) (TZ its) where
 step:=fun ⟨p,i⟩ s=>⟨p,fun it h=>(g it h).step (i it h) s⟩
 notup:=fun ⟨p,i⟩ b hb xs=>by
  obtain ⟨it,h,hb⟩:=mem_LZ.mp hb
  exact (g it h).notup (i it h) b hb xs
 free:=fun ⟨p,i⟩ hp hm=>by
  obtain ⟨it,h,hb⟩:=mem_LZ.mp hm
  exact (g it h).free (i it h) hp hb
theorem Gds.ok {its:List Zt} (g:Gds its):ZOk (LZ its) (TZ its):=KU fun it h=>(g it h).ok
theorem G7 {A B:List Zt} {it:Zt}:(A++it::B).map (·.1)=A.map (·.1)++it.1::B.map (·.1):=by rw [List.map_append,List.map_cons]
theorem Iy {A B:List Addr} (h:Dj A B):Dj B A:=fun b hb ha=>h b ha hb
theorem mem_mid {A B:List Zt} {it z:Zt}:z∈A++it::B↔z=it∨z∈A++B:=by
 simp only [List.mem_append,List.mem_cons]
 constructor
 ·rintro (h | rfl | h)
  ·exact .inr (.inl h)
  ·exact .inl rfl
  ·exact .inr (.inr h)
 ·rintro (rfl | h | h)
  ·exact .inr (.inl rfl)
  ·exact .inl h
  ·exact .inr (.inr h)
theorem TZ.mid {A B:List Zt} {it:Zt} {H:Hp}:TZ (A++it::B) H↔(∀z∈A++B,Dj it.1 z.1)∧it.2 H∧TZ (A++B) H:=by
 unfold TZ
 rw [G7,List.pairwise_middle (fun {x y} h=>Iy h),List.pairwise_cons,←List.map_append]
 constructor
 ·rintro ⟨⟨h1,h2⟩,h3⟩
  exact ⟨fun z hz=>h1 _ (List.mem_map_of_mem hz),h3 _ (mem_mid.mpr (.inl rfl)),h2,fun z hz=>h3 z (mem_mid.mpr (.inr hz))⟩
 ·rintro ⟨h1,h2,h3,h4⟩
  refine ⟨⟨fun l hl=>?_,h3⟩,fun z hz=>?_⟩
  ·obtain ⟨z,hz,rfl⟩:=List.mem_map.mp hl
   exact h1 z hz
  ·rcases mem_mid.mp hz with rfl | hz
   ·exact h2
   ·exact h4 z hz
theorem Qt {A B:List Zt} {it it':Zt} {H H':Hp} (g:Gds (A++it::B)) (t:TZ (A++it::B) H) (s:Same (lef it.1 H) (lef it'.1 H')) (i':it'.2 H'):TZ (A++it'::B) H'∧Same (lef (LZ (A++it::B)) H) (lef (LZ (A++it'::B)) H'):=by
 obtain ⟨dj,i,p,al⟩:=TZ.mid.mp t
 have gi:=g it (mem_mid.mpr (.inl rfl))
 have key:∀z∈A++B,z.2 (lef it'.1 H'):=fun z hz=>by
  have gz:=g z (mem_mid.mpr (.inr hz))
  exact gz.ok.step (gz.ap (al z hz) (dj z hz) fun b hb xs=>gi.ok.notup i b hb xs) s
 refine ⟨TZ.mid.mpr ⟨fun z hz b hb hbz=>(g z (mem_mid.mpr (.inr hz))).ok.free (key z hz) (AJ hb) hbz,i',p,fun z hz=>(g z (mem_mid.mpr (.inr hz))).ok.step (key z hz) lef_same⟩,fun b o e=>?_⟩
 have nb:b∉LZ (A++it::B):=fun z=>by rw [AJ z] at e;cases e
 rw [Ay nb] at e
 have e2:=s b o (by rw [Ay fun z=>nb (mem_LZ.mpr ⟨it,mem_mid.mpr (.inl rfl),z⟩)];exact e)
 have n2:b∉it'.1:=fun z=>by rw [AJ z] at e2;cases e2
 rw [Ay n2] at e2
 rw [Ay]
 ·exact e2
 ·intro z
  obtain ⟨y,hy,hb⟩:=mem_LZ.mp z
  rcases mem_mid.mp hy with rfl | hy
  ·exact n2 hb
  ·exact nb (mem_LZ.mpr ⟨y,mem_mid.mpr (.inr hy),hb⟩)
theorem Kp {A B:List Zt} {it it':Zt} (e:it.1=it'.1):LZ (A++it::B)=LZ (A++it'::B):=by
 unfold LZ
 rw [G7,G7,e]
section
variable {X:Cx} {A B:List Zt} {L:List Addr} {I I':Hp→Prop} {rs rs1:List (Nat×Addr)} {G G':Gam} {e:Expr} {d:PyData} {st:Stmt}
end
theorem QK {K:PySem.W.Frag} {R:OR} {lf:LF} {df:DF} (hn:∀q∈df,noL q.2=true):Gd (R.L,Oz K R lf df):=⟨oz_ok,fun i dj nt=>i.apart dj nt hn,Q7⟩
theorem gd_K {K:PySem.W.Frag} {p:Addr} {S:List PyData}:Gd ([p],Kz K p S):=⟨kz_ok,fun ⟨us,h1,h2,h3⟩ dj nt=>⟨us,by rw [Ay fun z=>dj p z List.mem_cons_self];exact h1,by
 rw [EN]
 refine DVs.lef (fun b hb xs r=>nt b hb xs ?_) h2 h3
 rcases r with r | ⟨q,r⟩
 ·exact .inl (lef_same _ _ r)
 ·exact .inr ⟨q,lef_same _ _ r⟩,h3⟩,Q8⟩
def zV (K:PySem.W.Frag) (L:List Addr) (I:Hp→Prop) (rs:List (Nat×Addr)) (G:Gam) (Nx:List Addr→St→Hp→Prop) (Rt:List Addr→V→Hp→Prop):TS:=fun D σ H=>RZ K L I rs G σ H∧(∀L' σ' H',Nx L' σ' H'→Same (lef L H) (lef L' H')→D.nx σ' H')∧∀L' v H',Rt L' v H'→Same (lef L H) (lef L' H')→D.rt v H'
abbrev noRt:List Addr→V→Hp→Prop:=fun _ _ _=>False
section
variable {X:Cx} {L L1:List Addr} {I I1:Hp→Prop} {rs rs1:List (Nat×Addr)} {G G1:Gam} {Nx Nx1:List Addr→St→Hp→Prop} {Rt:List Addr→V→Hp→Prop} {e c:Expr} {d:PyData} {k:Bool} {pos:Pos} {st:Stmt} {sts A B:List Stmt} {β:Type} {j:Nat}
theorem ES {Lo:β→List Addr} {Io:β→Hp→Prop} {ro:β→List (Nat×Addr)} {Go:β→Gam} (P:β→Prop) (h1:PS X st (zV X.K L I rs G (fun L' σ' H'=>∃y,P y∧L'=Lo y∧RZ X.K (Lo y) (Io y) (ro y) (Go y) σ' H') noRt)) (h2:∀y,P y→PSs X sts (zV X.K (Lo y) (Io y) (ro y) (Go y) Nx Rt)):PSs X (st::sts) (zV X.K L I rs G Nx Rt):=by
 have h2':PSs X sts (fun D σ H=>∃y,P y∧zV X.K (Lo y) (Io y) (ro y) (Go y) Nx Rt D σ H):=fun pins s σ H D I ⟨y,hy,q⟩=>h2 y hy pins s σ H D I q
 exact (A4 h1 h2').imp fun D σ H ⟨r,q1,q2⟩=>⟨r,fun L' σ' H' ⟨y,hy,el,r'⟩ s=>⟨y,hy,r',fun L2 σ2 H2 n s2=>q1 L2 σ2 H2 n ((el ▸ s).trans s2),fun L2 v H2 n s2=>q2 L2 v H2 n ((el ▸ s).trans s2)⟩,fun _ _ _ f=>f.elim⟩
theorem J0 (h1:PS X st (zN X.K L I rs G G1 I1)) (h2:PSs X sts (zV X.K L I1 rs G1 Nx Rt)):PSs X (st::sts) (zV X.K L I rs G Nx Rt):=
 (A4 h1 h2).imp fun D σ H ⟨r,q1,q2⟩=>⟨r,fun σ' H' r' s'=>⟨r',fun L2 σ2 H2 n s2=>q1 L2 σ2 H2 n (s'.trans s2),fun L2 v H2 n s2=>q2 L2 v H2 n (s'.trans s2)⟩⟩
theorem Ku (h:PS X st (zV X.K L I rs G Nx Rt)):PSs X [st] (zV X.K L I rs G Nx Rt):=(A4 h pss_nil).imp fun D σ H q=>q
end
section
variable {X:Cx} {L:List Addr} {I:Hp→Prop} {rs:List (Nat×Addr)} {G:Gam} {b:Expr} {i:Nat} {p:Addr} {us:List V} {v:V} {z:Int} {x:Str} {pos pos2:Pos}
end
inductive MK (K:PySem.W.Frag) (ls:List (Str×Addr)) (Hb H:Hp):List (Key×V)→DF→Prop where
 | nil:MK K ls Hb H [] []
 | lst {f:Str} {p:Addr} {us:List V} {ds:List PyData} {r:List (Key×V)} {df:DF}:(f,p)∈ls→H p=some (.lst us)→DVs K Hb us ds→noLs ds=true→MK K ls Hb H r df→MK K ls Hb H ((.inr f,.ref p)::r) ((f,.list ds)::df)
 | any {f:Str} {v:V} {d:PyData} {r:List (Key×V)} {df:DF}:f∉ls.map (·.1)→DV K Hb v d→MK K ls Hb H r df→MK K ls Hb H ((.inr f,v)::r) ((f,d)::df)
section
variable {K:PySem.W.Frag} {ls ls':List (Str×Addr)} {Hb Hb' H H':Hp} {f:Str} {p a:Addr} {us:List V} {ws:List PyData}
end
structure MzS (K:PySem.W.Frag) (R:NR) (df:DF) (Hb H:Hp) (kvs:List (Key×V)):Prop where
 obj:H R.a=some (.dK kvs)
 few:df.length≤40
 nda:R.L.Nodup
 ndl:(R.ls.map (·.1)).Nodup
 ndk:(df.map (·.1)).Nodup
 sub:∀q∈R.ls,q.1∈df.map (·.1)
 own:∀q∈R.ls,∃us,H q.2=some (.lst us)
 nk:MK K R.ls Hb H kvs df
section
variable {K:PySem.W.Frag} {R:NR} {df:DF} {H H':Hp}
end
section
variable {X:Cx} {R:NR} {df:DF} {rs:List (Nat×Addr)} {G:Gam} {e b:Expr} {ws:List PyData} {i:Nat} {pos pos' pos2 p p4:Pos} {x f:Str}
end
theorem mem_mid2 {A M B:List Zt} {z:Zt}:z∈A++(M++B)↔z∈M∨z∈A++B:=by
 simp only [List.mem_append]
 constructor
 ·rintro (h | h | h)
  ·exact .inr (.inl h)
  ·exact .inl h
  ·exact .inr (.inr h)
 ·rintro (h | h | h)
  ·exact .inr (.inl h)
  ·exact .inl h
  ·exact .inr (.inr h)
theorem TZ.mid2 {A M B:List Zt} {H:Hp}:TZ (A++(M++B)) H↔(∀y∈M,∀z∈A++B,Dj y.1 z.1)∧TZ M H∧TZ (A++B) H:=by
 unfold TZ
 simp only [List.map_append,List.pairwise_append,List.mem_append,List.mem_map]
 constructor
 ·rintro ⟨⟨pA,⟨pM,pB,mB⟩,aM⟩,al⟩
  refine ⟨fun y hy z hz=>?_,⟨pM,fun z hz=>al z (.inr (.inl hz))⟩,⟨pA,pB,fun a ha b hb=>aM a ha b (.inr hb)⟩,fun z hz=>al z (hz.elim .inl fun h=>.inr (.inr h))⟩
  rcases hz with hz | hz
  ·exact Iy (aM _ ⟨z,hz,rfl⟩ _ (.inl ⟨y,hy,rfl⟩))
  ·exact mB _ ⟨y,hy,rfl⟩ _ ⟨z,hz,rfl⟩
 ·rintro ⟨dj,⟨pM,aM⟩,⟨pA,pB,aB⟩,al⟩
  refine ⟨⟨pA,⟨pM,pB,?_⟩,?_⟩,fun z hz=>?_⟩
  ·rintro _ ⟨y,hy,rfl⟩ _ ⟨z,hz,rfl⟩
   exact dj y hy z (.inr hz)
  ·rintro _ ⟨a,ha,rfl⟩ b (⟨y,hy,rfl⟩ | hb)
   ·exact Iy (dj y hy a (.inl ha))
   ·exact aB _ ⟨a,ha,rfl⟩ b hb
  ·rcases hz with hz | hz | hz
   ·exact al z (.inl hz)
   ·exact aM z hz
   ·exact al z (.inr hz)
theorem Pw {it:Zt}:LZ [it]=it.1:=by show it.1++[]=_;exact List.append_nil _
theorem tz_one {it:Zt} {H:Hp}:TZ [it] H↔it.2 H:=⟨fun t=>t.2 it List.mem_cons_self,fun h=>⟨List.pairwise_singleton _ _,fun z hz=>by rw [List.mem_singleton.mp hz];exact h⟩⟩
theorem tz_two {a b:Zt} {H:Hp}:TZ [a,b] H↔Dj a.1 b.1∧a.2 H∧b.2 H:=by
 constructor
 ·rintro ⟨p,al⟩
  exact ⟨(List.pairwise_cons.mp p).1 _ List.mem_cons_self,al a List.mem_cons_self,al b (List.mem_cons_of_mem _ List.mem_cons_self)⟩
 ·rintro ⟨dj,h1,h2⟩
  refine ⟨List.pairwise_cons.mpr ⟨fun z hz=>by rw [List.mem_singleton.mp hz];exact dj,List.pairwise_singleton _ _⟩,fun z hz=>?_⟩
  rcases List.mem_cons.mp hz with rfl | hz
  ·exact h1
  ·rw [List.mem_singleton.mp hz];exact h2
theorem Ct {H:Hp}:lef [] H=H:=funext fun b=>Ay List.not_mem_nil
theorem FJ {K:PySem.W.Frag} {H:Hp} {σ:St} {G:Gam} {j:Nat} {x:Option PyData} (h:SD K H σ (G.set j x)) (hG:G[j]?=some none):SD K H σ G:=⟨by have:=h.1;rwa [List.length_set] at this,fun i d e=>by
 by_cases hj:j=i
 ·subst hj;rw [hG] at e;cases e
 ·exact h.2 i d (by rw [List.getElem?_set_ne hj];exact e)⟩
theorem J6 {K:PySem.W.Frag} {H:Hp} {σ:St} {G:Gam} {j:Nat} {v:V} (h:SD K H σ G) (hG:G[j]?=some none):SD K H (σ.set j (some v)) G:=⟨by rw [List.length_set];exact h.1,fun i d e=>by
 by_cases hj:j=i
 ·subst hj;rw [hG] at e;cases e
 ·rw [List.getElem?_set_ne hj];exact h.2 i d e⟩
def tNeu {β:Type} (K:PySem.W.Frag) (L:List Addr) (I:Hp→Prop) (rs:List (Nat×Addr)) (G:Gam) (P:β→Prop) (Lo:β→List Addr) (Io:β→Hp→Prop) (ad:β→Addr):TE:=fun σ H Q=>RZ K L I rs G σ H∧∀y H',P y→Io y H'→Same H (lef (Lo y) H')→Q (.ref (ad y)) H'
section
variable {X:Cx} {A B its:List Zt} {it:Zt} {L:List Addr} {I:Hp→Prop} {rs:List (Nat×Addr)} {G G':Gam} {β:Type} {P:β→Prop} {Lo:β→List Addr} {Io:β→Hp→Prop} {ad:β→Addr} {e b:Expr} {es:List Expr} {d:PyData} {ds:List PyData} {us:List V} {p C:Addr} {i j k:Nat} {z:Int} {x y m f:Str} {pos pos' pos2 pos3 apos p1 p2 p3 p4:Pos} {sts:List Stmt} {lf:LF} {df:DF} {Nx:List Addr→St→Hp→Prop} {Rt:List Addr→V→Hp→Prop}
theorem IC {F:List PyData→LF→DF→Prop} (v:Sees X.K L I rs G G') (D0:OIFn X.prog X.w X.K X.mg X.base k C F) (hr:Room (k + 1) X.A) (hg:Gl X x) (hm:X.mg x=some (.ref C)) (ha:AV X G' (e::es) ds) (hF:F ds lf df) (hdb:(x==("__debug__":Str))=false:=by decide) (he:starEach (e::es) X.env=(false,eval e X.env)::starEach es X.env:=by rfl) (hpl:(backTo p3 (starEach es X.env)).any (·.1)=false:=by rfl):
  PE X (.Call (.Name x p2) (e::es) [] p3) (tNeu X.K L I rs G (fun R:OR=>R.C=C) OR.L (fun R=>Oz X.K R lf df) OR.a):=by
 obtain ⟨f0,fd0,ps0,ok0,M,hb0⟩:=D0
 refine (Ni (E:=E0) (dvs:=[]) (ds:=[]) M ok0 hr hg hm hb0 .nil Dw ha hdb he hpl).imp fun σ H Q ⟨r,q⟩=>⟨v σ H r,fun vs H1 s1 dv=>?_⟩
 intro a dx ha hdx hne
 have sA:Same H1 (lef [a,dx] (upd (upd H1 dx (.own a)) a (.ins C dx []))):=fun b o e=>by
  have n1:b≠a:=A6 e ha
  have n2:b≠dx:=A6 e hdx
  rw [Ay (by simp only [List.mem_cons,List.not_mem_nil,or_false,not_or];exact ⟨n1,n2⟩),Aj n1,Aj n2]
  exact e
 show spOI X.K C F (V.ref a::(vs++[])) _ _ E0
 rw [List.append_nil]
 refine ⟨a,dx,ds,lf,df,vs,rfl,Am,by rw [Aj hne];exact Am,hne,dv.mono sA,hF,fun H2 R hC hRa hRd tb old fre=>⟨rfl,?_⟩⟩
 subst hC hRa hRd
 refine q R H2 rfl tb (s1.trans fun b o e=>?_)
 have n1:b≠R.a:=A6 e ha
 have n2:b≠R.dx:=A6 e hdx
 have e1:upd (upd H1 R.dx (.own R.a)) R.a (.ins R.C R.dx []) b=some o:=by rw [Aj n1,Aj n2];exact e
 rw [Ay]
 ·exact old b o n1 e1
 ·intro z
  rcases List.mem_cons.mp z with z | z
  ·exact n1 z
  rcases List.mem_cons.mp z with z | z
  ·exact n2 z
  ·obtain ⟨y,hy,ey⟩:=List.mem_map.mp z
   have:=fre y hy
   rw [ey,e1] at this
   cases this
theorem Gk {st:Stmt} {Lo':β→List Addr} {Io':β→Hp→Prop} {ro:β→List (Nat×Addr)} {Go:β→Gam} (P':β→Prop) (h1:PS X st (zV X.K (LZ []) (TZ []) [] G (fun L' σ' H'=>∃y,P' y∧L'=Lo' y∧RZ X.K (Lo' y) (Io' y) (ro y) (Go y) σ' H') noRt)) (h2:∀y,P' y→PSs X sts (zV X.K (Lo' y) (Io' y) (ro y) (Go y) (fun _ _ _=>False) fun _ v H'=>DV X.K H' v d)):SVs X G (st::sts) (.ret d):=
 (ES P' h1 h2).imp fun D σ H ⟨hσ,q⟩=>⟨⟨(fun _ h=>by cases h),⟨List.Pairwise.nil,(fun _ h=>by cases h)⟩,by rw [show LZ []=[] from rfl,Ct];exact hσ⟩,fun _ _ _ f=>f.elim,fun L' v H' dv s=>q v H' (by rw [show LZ []=[] from rfl,Ct] at s;exact s.trans lef_same) dv⟩
end
section
variable {K:PySem.W.Frag} {L:List Addr} {I:Hp→Prop} {rs:List (Nat×Addr)} {G:Gam} {i j l:Nat} {a b c:Addr} {d1 d2 d3:PyData}
theorem CC (hi:(i,a)∈rs) (h1:∀H,I H→DV K H (.ref a) d1):Sees K L I rs G (G.set i (some d1)):=fun σ H r=>by
 have e1:=r.sd.set (i:=i) (h1 H r.2.1)
 rw [Gg (r.1 _ hi)] at e1
 exact e1
end
theorem Oz.dv {K:PySem.W.Frag} {R:OR} {lf:LF} {df:DF} {H:Hp} (i:Oz K R lf df H):DV K H (.ref R.a) (objD R.C (fldD lf df)):=let ⟨_,t⟩:=i;t.dv
theorem Kz.dv {K:PySem.W.Frag} {p:Addr} {S:List PyData} {H:Hp} (i:Kz K p S H):DV K H (.ref p) (.list S):=let ⟨us,h1,h2,_⟩:=i;.lst (SqL.of h1) (h2.mono lef_same)
section
variable {X:Cx} {A B its:List Zt} {rs:List (Nat×Addr)} {G G':Gam} {e o b:Expr} {es:List Expr} {d:PyData} {ds ws:List PyData} {us:List V} {p hq q0:Addr} {i j k l:Nat} {z:Int} {x y m f:Str} {pos pos' pos2 pos3 apos p1 p2 p3 p4:Pos} {sts:List Stmt} {lf lf':LF} {df df':DF} {R:OR} {N:NR}
end
section
variable {X:Cx} {A B:List Zt} {rs:List (Nat×Addr)} {G:Gam} {e2 e3 k1 k2 k3:Expr} {d2 d3:PyData} {ws:List PyData} {q:Addr} {i j:Nat} {x y f1 f2 f3:Str} {pos pos' pos2 apos cpos p1:Pos} {df:DF} {N:NR}
end
section
variable {X:Cx} {G:Gam} {k:Nat} {C:Addr} {x:Str} {e:Expr} {es:List Expr} {ds:List PyData} {lf:LF} {df:DF} {p2 p3:Pos}
end
section
variable {K:PySem.W.Frag} {L:List Addr} {I:Hp→Prop} {rs:List (Nat×Addr)} {G G1:Gam} {i:Nat} {ad:Addr} {d:PyData}
theorem A_:Sees K L I rs G G:=fun σ H r=>r.sd
end
section
variable {X:Cx} {A B its:List Zt} {rs rs1:List (Nat×Addr)} {G G' G1:Gam} {e b c a:Expr} {es:List Expr} {d:PyData} {ds S:List PyData} {p ad:Addr} {i j k:Nat} {z:Int} {x y m f:Str} {pos pos' pos2 pos3 apos p1 p2 p3 p4:Pos} {sts:List Stmt} {lf lf':LF} {df df':DF} {R:OR} {L:List Addr} {I:Hp→Prop} {Nx:List Addr→St→Hp→Prop} {Rt:List Addr→V→Hp→Prop}
theorem MW {F:LF→DF→List PyData→PyData→LF→DF→Prop} {pl:Sem Bool} (hL:L=LZ (A++(R.L,Oz X.K R lf df)::B)) (g:Gds (A++(R.L,Oz X.K R lf df)::B)) (cl:Cls X.K R.C) (D:OFn X.prog X.w X.K X.mg X.base k R.C m F) (hr:Room k X.A) (hi:(i,R.a)∈rs) (hv:PE X (.Name x pos2) (tVar i)) (v:Sees X.K L (TZ (A++(R.L,Oz X.K R lf df)::B)) rs G G') (ha:AV X G' (e::es) ds) (hn:noLs ds=true) (hF:F lf df ds d lf' df') (hnd:noL d=true) (h1:m∉AZ:=by decide)
  (hst:starEach (e::es) X.env=(false,eval e X.env)::starEach es X.env:=by rfl) (hpl:(backTo pos (starEach es X.env)).any (·.1)=false:=by rfl)
  (ht:eval (.Call (.Attribute (.Name x pos2) m apos) (e::es) [] pos) X.env=(do
   let ov ←eval (.Name x pos2) X.env
   standAt apos.atName
   let (f,first) ←holding [ov] (getMethod ov m pl)
   callWith pos f first (backTo pos (starEach (e::es) X.env)) (backToKw pos (keywordEach [] X.env))):=by rfl):
  ZE X L (TZ (A++(R.L,Oz X.K R lf df)::B)) rs G (.Call (.Attribute (.Name x pos2) m apos) (e::es) [] pos) d (TZ (A++(R.L,Oz X.K R lf' df')::B)):=by
 subst hL
 obtain ⟨f,fd,ps,ok,hm,hb⟩:=D
 refine (G9 (E:=E0) (dvs:=[]) (ds:=[]) hv cl hm ok hr hb .nil Dw ha hst hpl ht).imp fun σ H Q ⟨r,q⟩=>?_
 have i0:Oz X.K R lf df H:=(TZ.mid.mp r.2.1).2.1
 obtain ⟨fs,t⟩:=id i0
 refine ⟨.ref R.a,r.1 _ hi,R.a,R.dx,fs,rfl,t.obj,t.nam m h1,v σ H r,fun vs H1 s1 dvs=>?_⟩
 have r1:=r.step g.ok s1
 have i1:Oz X.K R lf df H1:=(TZ.mid.mp r1.2.1).2.1
 show spO X.K R.C F (V.ref R.a::(vs++[])) H1 Q E0
 rw [List.append_nil]
 refine ⟨R,lf,df,ds,d,lf',df',vs,rfl,rfl,i1,DVs.lef (oz_ok.notup i1) dvs hn,hF,fun w H2 i2 s2 dv=>?_⟩
 obtain ⟨t',s'⟩:=Qt (it:=(R.L,Oz X.K R lf df)) (it':=(R.L,Oz X.K R lf' df')) g r1.2.1 s2 i2
 have eL:LZ (A++(R.L,Oz X.K R lf' df')::B)=LZ (A++(R.L,Oz X.K R lf df)::B):=Kp rfl
 have nt:=(KU fun z hz=>(mem_mid.mp hz).elim (fun e=>by rw [e];exact oz_ok) fun h=>(g z (mem_mid.mpr (.inr h))).ok).notup t'
 rw [eL] at s' nt
 exact q w H2 t' (s1.lef.trans s') (DV.lef nt (dv.mono lef_same) hnd)
end
section
variable {X:Cx} {a:Expr} {p pos:Pos}
end
section
variable {X:Cx} {L:List Addr} {rs:List (Nat×Addr)} {G Gv:Gam} {a:Expr} {ds:List PyData} {j1 j2:Nat} {pos p2 p3 tpos:Pos} {α:Type} {Iv:α→Hp→Prop} {T:α} {Nx:List Addr→St→Hp→Prop} {Rt:List Addr→V→Hp→Prop}
end
section
variable {X:Cx} {L:List Addr} {I I1:Hp→Prop} {rs:List (Nat×Addr)} {G:Gam} {c:Expr} {A sts:List Stmt} {pos:Pos} {Nx:List Addr→St→Hp→Prop} {Rt:List Addr→V→Hp→Prop} {it:Zt}
theorem GH (h:ZTI X L I rs G c false I1) (h2:PSs X sts (zV X.K L I1 rs G Nx Rt)):PSs X (.If c A [] pos::sts) (zV X.K L I rs G Nx Rt):=
 (A4 (DE h (AD (sts:=A)) pss_nil) h2).imp fun D σ H ⟨r,q1,q2⟩=>⟨r,fun H' i' s'=>iteF ⟨r.next i' s',fun L2 σ2 H2 n s2=>q1 L2 σ2 H2 n (s'.trans s2),fun L2 v H2 n s2=>q2 L2 v H2 n (s'.trans s2)⟩⟩
end
section
variable {X:Cx} {L:List Addr} {rs:List (Nat×Addr)} {G Gv:Gam} {c:Expr} {j:Nat} {pos:Pos} {α:Type} {Iv:α→Hp→Prop} {T:α} {Nx:List Addr→St→Hp→Prop} {Rt:List Addr→V→Hp→Prop}
end
structure FunD (K:PySem.W.Frag) (items:Array Value) (x qual:Str) (st:Stmt) (f:Addr) (fd:FuncData):Prop where
 ex:∃(oc:Value) (od:Option Addr) (T:Addr) (n:Nat) (to:Obj) (kV doc pm:Value) (an:Option Addr) (cdv ct:Value) (osl:Array (Option Value)),
  fd=PySem.W.fnOf x qual (BV st) (AG st) (Ae st) (.ref T) kV doc pm an cdv ct∧K.lookup f=some ⟨oc,od,.func fd,osl⟩∧PySem.W.codeIn K cdv qual=true∧K.lookup T=some to∧to.data=.seq items n
 kp:PySem.W.keepIn K (.ref f)=true
section
variable {P:Program} {w:World} {K:PySem.W.Frag} {mg:Str→Option Value} {base:Heap}
end
section
variable {X:Cx} {A B:List Zt} {rs:List (Nat×Addr)} {G G':Gam} {e b c:Expr} {es:List Expr} {d:PyData} {ds:List PyData} {i j k:Nat} {x y f:Str} {pos pos2 p1 p2 p3 p4:Pos} {sts:List Stmt} {lf lf':LF} {df df':DF} {R:OR} {Nx:List Addr→St→Hp→Prop} {Rt:List Addr→V→Hp→Prop}
end
section
variable {X:Cx} {R:OR} {lf lf':LF} {df df':DF} {G:Gam} {i:Nat} {st:Stmt}
end
section
variable {X:Cx} {L:List Addr} {I:Hp→Prop} {rs:List (Nat×Addr)} {G:Gam} {elt iter target:Expr} {ifs:List Expr} {pos:Pos} {N:List Str} {ix:List Nat} {scope:Scope}
end
section
variable {X:Cx} {its:List Zt} {L:List Addr} {I:Hp→Prop} {rs:List (Nat×Addr)} {G G':Gam} {β:Type} {P:β→Prop} {Lo:β→List Addr} {Io:β→Hp→Prop} {ad:β→Addr} {e:Expr} {es:List Expr} {d:PyData} {ds:List PyData} {C:Addr} {j k:Nat} {y f:Str} {pos p1 p4:Pos} {lf:LF} {df:DF}
end
section
variable {X:Cx} {H0:Hp} {p:Addr} {i:Nat} {Pre Mid:Gam→List PyData→Prop} {R:List PyData→Prop} {G:Gam} {x:Str} {pos pos' pos2:Pos} {es:List Expr} {ds:List PyData}
end
section
variable {P:Program} {w:World} {K:PySem.W.Frag} {mg:Str→Option Value} {base:Heap}
end
def KL (K:PySem.W.Frag) (p:Addr) (S:List PyData) (H:Hp):Prop:=∃us,H p=some (.lst us)∧DVs K (lef [p] H) us S
section
variable {X:Cx} {i k:Nat} {rs:List (Nat×Addr)} {G:Gam} {e b:Expr} {es:List Expr} {d:PyData} {S ds:List PyData} {p:Addr} {z:Int} {x f:Str} {pos pos' pos2 pos3 p1:Pos} {sts:List Stmt}
end
section
variable {prog:Program} {w:World} {A:Around} {s:Shared} {E:Value→Shared→Prop}
end
section
variable {prog:Program} {w:World} {A:Around}
variable {E:Value→Shared→Prop} {s:Shared}
end
def codφ (c':Addr) (qual:Str):Heap→Prop:=fun h=>h.CodeRec (.ref c') qual
def TbI (T:Addr) (pos:Pos) (qual:Str) (o:Option Addr) (H:Hp):Prop:=match o with
 | none=>H T=some (.tbl #[])
 | some c'=>c'≠T∧H T=some (.tbl #[rawInt pos.line,rawInt pos.col,.ref c'])∧H c'=some (.ext (codφ c' qual))
def tL (T:Addr) (o:Option Addr):List Addr:=T::o.toList
section
variable {o:Option Addr} {X:Cx} {T c:Addr} {pos:Pos} {qual:Str} {params:Arguments} {body:Expr} {lsc:Scope} {clos:List (Str×Addr)}
end
section
variable {o:Option Addr} {X:Cx} {T c cc:Addr} {pos cpos p p1 p2 p3 kp kp2 dp:Pos} {qual x y:Str} {params:Arguments} {lsc:Scope} {a:Expr} {G:Gam} {rs:List (Nat×Addr)} {ns:List Int} {m:List (Int×Int)} {vs:Int→Int} {jy jd:Nat}
end
section
variable {prog:Program} {w:World} {KK:Type} [DecidableEq KK] {knd:KeyKind prog w KK} {A:Around} {E:Value→Shared→Prop} {s:Shared}
end
section
variable {X:Cx} {o e f:Expr} {apos cpos:Pos} {td ty tx:TE}
end
structure CoT where
 T:Addr
 pos:Pos
 qual:Str
abbrev CoT.L (t:CoT) (o:Option Addr):List Addr:=tL t.T o
abbrev CoT.I (t:CoT) (o:Option Addr):Hp→Prop:=TbI t.T t.pos t.qual o
section
variable {P:Program} {w:World} {K:PySem.W.Frag} {mg:Str→Option Value} {base:Heap}
end
section
variable {X:Cx} {t:CoT} {o:Option Addr} {rs:List (Nat×Addr)} {G:Gam} {e:Expr} {es:List Expr} {d:PyData} {ds:List PyData} {k i j:Nat} {C:Addr} {x y m f:Str} {pos p1 p4 pos2 apos:Pos} {sts:List Stmt} {Nx:List Addr→St→Hp→Prop} {fls:List (PyData×PyData)}
end
section
variable {X:Cx} {L:List Addr} {rs:List (Nat×Addr)} {G Gv:Gam} {a:Expr} {ds:List PyData} {j:Nat} {pos:Pos} {α:Type} {Iv:α→Hp→Prop} {T:α} {Nx:List Addr→St→Hp→Prop} {Rt:List Addr→V→Hp→Prop}
end
abbrev Led:=List (Int×List (Int×Int))
def ledD (m:Led):List (PyData×PyData):=m.map fun q=>(.int q.1,.dict (dI q.2))
abbrev ctD (C:Addr) (m:Led):PyData:=objD C [(.str "led",.dict (ledD m))]
section
variable {X:Cx} {L:List Addr} {I:Hp→Prop} {rs:List (Nat×Addr)} {G:Gam} {a:Expr} {i:Nat} {C:Addr} {m:Led} {z:Int} {x:Str} {pos pos2 p5 apos dpos:Pos}
end
structure CtR where
 a:Addr
 dx:Addr
 D:Addr
 ins:List Addr
abbrev CtR.L (R:CtR):List Addr:=R.a::R.dx::R.D::R.ins
def intK (l:List (Int×Int)):List (Key×V):=l.map fun q=>((.inl q.1:Key),V.int q.2)
inductive InK (H:Hp):List (Key×V)→Led→List Addr→Prop where
 | nil:InK H [] [] []
 | cons {p:Int} {l:List (Int×Int)} {kvs:List (Key×V)} {m:Led} {b:Addr} {ins:List Addr}:H b=some (.dK (intK l))→InK H kvs m ins→InK H ((.inl p,.ref b)::kvs) ((p,l)::m) (b::ins)
def CtZ (C:Addr) (R:CtR) (m:Led) (H:Hp):Prop:=H R.a=some (.ins C R.dx [("led",.ref R.D)])∧H R.dx=some (.own R.a)∧R.L.Nodup∧∃kvs,H R.D=some (.dK kvs)∧InK H kvs m R.ins
structure Ge (it:Zt):Prop where
 ok:ZOk it.1 it.2
 ap:∀{H:Hp} {M:List Addr},it.2 H→Dj M it.1→(∀b∈M,∀xs,¬Rd H b (.tup xs))→it.2 (lef M H)
abbrev Ges (its:List Zt):Prop:=∀it∈its,Ge it
theorem Ges.ok {its:List Zt} (g:Ges its):ZOk (LZ its) (TZ its):=KU fun it h=>(g it h).ok
theorem P8 {A B:List Zt} {it it':Zt} {H H':Hp} (g:Ges (A++it::B)) (t:TZ (A++it::B) H) (s:Same (lef it.1 H) (lef it'.1 H')) (i':it'.2 H'):TZ (A++it'::B) H'∧Same (lef (LZ (A++it::B)) H) (lef (LZ (A++it'::B)) H'):=by
 obtain ⟨dj,i,p,al⟩:=TZ.mid.mp t
 have gi:=g it (mem_mid.mpr (.inl rfl))
 have key:∀z∈A++B,z.2 (lef it'.1 H'):=fun z hz=>by
  have gz:=g z (mem_mid.mpr (.inr hz))
  exact gz.ok.step (gz.ap (al z hz) (dj z hz) fun b hb xs=>gi.ok.notup i b hb xs) s
 refine ⟨TZ.mid.mpr ⟨fun z hz b hb hbz=>(g z (mem_mid.mpr (.inr hz))).ok.free (key z hz) (AJ hb) hbz,i',p,fun z hz=>(g z (mem_mid.mpr (.inr hz))).ok.step (key z hz) lef_same⟩,fun b o e=>?_⟩
 have nb:b∉LZ (A++it::B):=fun z=>by rw [AJ z] at e;cases e
 rw [Ay nb] at e
 have e2:=s b o (by rw [Ay fun z=>nb (mem_LZ.mpr ⟨it,mem_mid.mpr (.inl rfl),z⟩)];exact e)
 have n2:b∉it'.1:=fun z=>by rw [AJ z] at e2;cases e2
 rw [Ay n2] at e2
 rw [Ay]
 ·exact e2
 ·intro z
  obtain ⟨y,hy,hb⟩:=mem_LZ.mp z
  rcases mem_mid.mp hy with rfl | hy
  ·exact n2 hb
  ·exact nb (mem_LZ.mpr ⟨y,mem_mid.mpr (.inr hy),hb⟩)
section
variable {X:Cx} {rs:List (Nat×Addr)} {Gv:Gam} {a c:Expr} {ds:List PyData} {j:Nat} {pos:Pos} {β:Type} {Lo:β→List Addr} {Io:β→Hp→Prop} {Go:β→Gam} {Nx:List Addr→St→Hp→Prop} {Rt:List Addr→V→Hp→Prop}
theorem FR {tg:Expr} {body sts:List Stmt} {n:Nat} {p2 p3:Pos} (W:Nat→β→Prop) (y0:β) (ok:∀y,ZOk (Lo y) (Io y)) (hp:PassesOwn (model X.prog X.w) X.A X.env X.xe) (hcalm:X.calm=true) (hj:∀q∈rs,q.1≠j) (hg:PG X tg (BH j)) (v:Sees X.K (Lo y0) (Io y0) rs (Go y0) Gv) (hc:EV X Gv c (.int n)) (hn:n < 1000) (hgr:Gl X "range") (hmr:X.mg "range"=none) (h0:W 0 y0)
  (hs:∀k y,k < n→W k y→PSs X body (zV X.K (Lo y) (Io y) rs ((Go y).set j (some (.int (k:Int)))) (fun L' σ' H'=>∃y',W (k + 1) y'∧L'=Lo y'∧RZ X.K (Lo y') (Io y') rs (Go y') σ' H') Rt))
  (hd:∀y,W n y→PSs X sts (zV X.K (Lo y) (Io y) rs (Go y) Nx Rt))
  (hsr:starEach [c] X.env=[(false,eval c X.env)]:=by rfl) (hfs:∀y,foldedSetIterable (.Call (.Name "range" p2) [c] [] p3) X.env y=pure y:=by intro _;rfl):
  PSs X (.For tg (.Call (.Name "range" p2) [c] [] p3) body [] pos::sts) (zV X.K (Lo y0) (Io y0) rs (Go y0) Nx Rt):=by
 have hbody:PSs X body (fun D σ H=>∃(k:Nat) (y:β),k < n∧W k y∧zV X.K (Lo y) (Io y) rs ((Go y).set j (some (.int (k:Int)))) (fun L' σ' H'=>∃y',W (k + 1) y'∧L'=Lo y'∧RZ X.K (Lo y') (Io y') rs (Go y') σ' H') Rt D σ H):=fun pins s σ H D I ⟨k,y,hk,hW,q⟩=>hs k y hk hW pins s σ H D I q
 have h2:PSs X sts (fun D σ H=>∃(y:β),W n y∧zV X.K (Lo y) (Io y) rs (Go y) Nx Rt D σ H):=fun pins s σ H D I ⟨y,hW,q⟩=>hd y hW pins s σ H D I q
 refine (A4 (Gn hp hcalm (DS hgr hmr (Aa hc Ac hsr) hsr) hg hbody hfs) h2).imp fun D σ H ⟨r,q1,q2⟩=>⟨v σ H r,fun vs H1 s1 d1=>?_⟩
 obtain ⟨v1,rfl,dv1⟩:=d1.one
 refine ⟨n,by rw [dv1.of_int],by omega,by omega,?_⟩
 rw [Int.toNat_natCast]
 have r1:=r.step (ok _) s1
 refine FS (lo:=0) (n:=n) (g:=BH j) (tb:=fun D σ H=>∃(k:Nat) (y:β),k < n∧W k y∧zV X.K (Lo y) (Io y) rs ((Go y).set j (some (.int (k:Int)))) (fun L' σ' H'=>∃y',W (k + 1) y'∧L'=Lo y'∧RZ X.K (Lo y') (Io y') rs (Go y') σ' H') Rt D σ H)
  (fun k σ2 H2=>∃y,W k y∧RZ X.K (Lo y) (Io y) rs (Go y) σ2 H2∧Same (lef (Lo y0) H1) (lef (Lo y) H2)) ⟨y0,h0,r1,Same.refl _⟩ (fun k σ2 H2 hk ⟨y,hW,r2,sm⟩=>?_) (fun σ2 H2 ⟨y,hW,r2,sm⟩=>?_)
 ·refine ⟨k,y,hk,hW,⟨fun z hz=>?_,r2.2.1,?_⟩,fun L' σ3 H3 ⟨y',hW3,el,r3⟩ s3=>⟨y',hW3,r3,sm.trans (el ▸ s3)⟩,fun L' v H3 n3 s3=>q2 L' v H3 n3 ((s1.lef.trans sm).trans s3)⟩
  ·rw [List.getElem?_set_ne (hj z hz).symm]
   exact r2.1 z hz
  ·rw [Int.zero_add];exact r2.2.2.set (.int _)
 ·exact ⟨y,hW,r2,fun L' σ' H3 n3 s3=>q1 L' σ' H3 n3 ((s1.lef.trans sm).trans s3),fun L' v H3 n3 s3=>q2 L' v H3 n3 ((s1.lef.trans sm).trans s3)⟩
end
section
variable {X:Cx} {L:List Addr} {I:Hp→Prop} {rs:List (Nat×Addr)} {G:Gam} {c e:Expr} {pos:Pos} {A sts:List Stmt} {β:Type} {Lo:β→List Addr} {Io:β→Hp→Prop} {Nx:List Addr→St→Hp→Prop} {Rt:List Addr→V→Hp→Prop}
end
section
variable {X:Cx} {its:List Zt} {rs:List (Nat×Addr)} {G:Gam} {β:Type} {P:β→Prop} {Lo:β→List Addr} {Io:β→Hp→Prop} {ad:β→Addr} {e e2:Expr} {j:Nat} {y:Str} {pos2 p1 p4:Pos}
end
section
variable {X:Cx} {its A B:List Zt} {L:List Addr} {I:Hp→Prop} {rs:List (Nat×Addr)} {G:Gam} {us:List V} {p d b:Addr} {i j js:Nat} {z:Int} {x:Str} {ho:HO} {o o2 ek ek2 bx:Expr} {nm nm':List ((Int×Int)×Int)} {pos pos2 p1 p2 p3 p4 p5 p6 apos:Pos} {st:Stmt} {Nx:List Addr→St→Hp→Prop}
end
section
variable {prog:Program} {w:World} {A:Around} {E:Value→Shared→Prop} {s:Shared} {d it v:Addr} {es:Array DictEntry} {ep i:Nat} {o:Obj}
end
section
variable {X:Cx} {pins:List (Addr×Obj)} {σ:St} {H:Hp} {s:Shared} {d:Addr} {u v:HO} {ob:Obj} {kvs:List (List Key×V)}
end
section
variable {X:Cx} {o:Expr} {ta:TE} {apos cpos:Pos}
end
section
variable {X:Cx} {A B:List Zt} {rs:List (Nat×Addr)} {G:Gam} {o:Expr} {i j1 j2:Nat} {d:Addr} {nm:List ((Int×Int)×Int)} {pos tpos apos cpos:Pos} {Nx:List Addr→St→Hp→Prop} {Rt:List Addr→V→Hp→Prop}
end
section
variable {X:Cx} {A B:List Zt} {L:List Addr} {I I':Hp→Prop} {rs rs1:List (Nat×Addr)} {G G':Gam} {e:Expr} {es:List Expr} {d:PyData} {ds:List PyData} {st:Stmt} {i j:Nat} {p:Addr} {x:Str} {c:Expr} {pos pos2 p1 p4:Pos} {kb:Bool}
end
section
variable {X:Cx} {rs:List (Nat×Addr)} {c:Expr} {pos:Pos} {β:Type} {Lo:β→List Addr} {Io:β→Hp→Prop} {Go:β→Gam} {Nx:List Addr→St→Hp→Prop} {Rt:List Addr→V→Hp→Prop}
end
section
variable {K:PySem.W.Frag} {H:Hp} {L:List Addr}
end
section
variable {X:Cx} {T:Addr} {G:Gam} {e:Expr} {d:PyData} {i:Nat} {x:Str} {pos p1 p4:Pos} {sts:List Stmt} {t:CoT}
end
section
variable {X:Cx} {its:List Zt} {rs:List (Nat×Addr)} {G:Gam} {β:Type} {P:β→Prop} {Lo:β→List Addr} {Io:β→Hp→Prop} {ad:β→Addr} {e:Expr} {j:Nat} {y:Str} {p1 p4:Pos}
end
theorem Ml {A M M' B:List Zt} {H H':Hp} (g:Ges (A++(M++B))) (t:TZ (A++(M++B)) H) (s:Same (lef (LZ M) H) (lef (LZ M') H')) (t':TZ M' H'):TZ (A++(M'++B)) H'∧Same (lef (LZ (A++(M++B))) H) (lef (LZ (A++(M'++B))) H'):=by
 obtain ⟨dj,tM,p,al⟩:=TZ.mid2.mp t
 have key:∀z∈A++B,z.2 (lef (LZ M') H'):=fun z hz=>by
  have gz:=g z (mem_mid2.mpr (.inr hz))
  refine gz.ok.step (gz.ap (al z hz) (fun b hb=>?_) fun b hb xs=>?_) s
  ·obtain ⟨y,hy,h⟩:=mem_LZ.mp hb
   exact dj y hy z hz b h
  ·obtain ⟨y,hy,h⟩:=mem_LZ.mp hb
   exact (g y (mem_mid2.mpr (.inl hy))).ok.notup (tM.2 y hy) b h xs
 refine ⟨TZ.mid2.mpr ⟨fun y hy z hz b hb hbz=>(g z (mem_mid2.mpr (.inr hz))).ok.free (key z hz) (AJ (mem_LZ.mpr ⟨y,hy,hb⟩)) hbz,t',p,fun z hz=>(g z (mem_mid2.mpr (.inr hz))).ok.step (key z hz) lef_same⟩,fun b o e=>?_⟩
 have nb:b∉LZ (A++(M++B)):=fun z=>by rw [AJ z] at e;cases e
 rw [Ay nb] at e
 have e2:=s b o (by rw [Ay fun z=>nb (by obtain ⟨y,hy,h⟩:=mem_LZ.mp z;exact mem_LZ.mpr ⟨y,mem_mid2.mpr (.inl hy),h⟩)];exact e)
 have n2:b∉LZ M':=fun z=>by rw [AJ z] at e2;cases e2
 rw [Ay n2] at e2
 rw [Ay]
 ·exact e2
 ·intro z
  obtain ⟨y,hy,hb⟩:=mem_LZ.mp z
  rcases mem_mid2.mp hy with hy | hy
  ·exact n2 (mem_LZ.mpr ⟨y,hy,hb⟩)
  ·exact nb (mem_LZ.mpr ⟨y,mem_mid2.mpr (.inr hy),hb⟩)
section
variable {X:Cx} {A B:List Zt} {rs:List (Nat×Addr)} {G:Gam} {β:Type} {P:β→Prop} {Lo:β→List Addr} {Io:β→Hp→Prop} {ad:β→Addr} {e:Expr} {j:Nat} {y:Str} {p1 p4:Pos}
end
theorem OE {K:PySem.W.Frag} {p:Addr} {S:List PyData}:Ge ([p],Kz K p S):=⟨gd_K.ok,gd_K.ap⟩
section
variable {X:Cx} {L:List Addr} {I I' I1:Hp→Prop} {rs rs1:List (Nat×Addr)} {G G':Gam} {A B:List Zt} {e c b:Expr} {d:PyData} {sts As:List Stmt} {pos pos2 pos3:Pos} {st:Stmt} {x:Str} {i:Nat} {S:List PyData} {p:Addr} {z:Int}
theorem Qa (v:Sees X.K L I rs G G') {ws:List PyData} (h:EVF X G' e ws) (hn:noLs ws=true):PE X e (tNeu X.K L I rs G (fun _:Addr=>True) (fun p=>[p]) (fun p=>Kz X.K p ws) id):=h.imp fun σ H Q ⟨r,q⟩=>⟨v σ H r,fun p us H' hp s' hl dv=>by
 have nt:∀b∈[p],∀xs,¬Rd H' b (.tup xs):=fun b hb xs r=>by
  rw [List.mem_singleton.mp hb] at r
  rcases r with r | ⟨q,r⟩ <;> (rw [hl] at r;cases r)
 refine q p H' True.intro ⟨us,hl,DVs.lef nt dv hn,hn⟩ fun c o ec=>?_
 have:c∉[p]:=fun z=>by rw [List.mem_singleton.mp z,hp] at ec;cases ec
 rw [Ay this]
 exact s' _ _ ec⟩
theorem Gu {A1 B1:List Zt} (hL1:L=LZ (A1++([p],Kz X.K p S)::B1)) (g1:Ges (A1++([p],Kz X.K p S)::B1)) (hi:(i,p)∈rs) (hv:PE X (.Name x pos2) (tVar i)) (h:ZE X L I rs G e d (TZ (A1++([p],Kz X.K p S)::B1))) (hn:noL d=true) (hb:EV X G b (.int z)) (z0:0≤z) (z1:z < S.length)
  (ha:∀v,assign (.Subscript (.Name x pos2) b pos3) X.env v=(do
   let ov ←holding [v] (eval (.Name x pos2) X.env)
   let iv ←holding [v,ov] (eval b X.env)
   standAt pos3
   holding [v,ov,iv] (setItem ov iv v)
   release [v,ov,iv] []):=by intro _;rfl)
  (hs:swapsWithSole [.Subscript (.Name x pos2) b pos3] e pos.line X.env=pure false:=by rfl) (hw:swappedStores [.Subscript (.Name x pos2) b pos3] e X.env=pure none:=by rfl)
  (h1:(assignEach [.Subscript (.Name x pos2) b pos3] X.env).map (·.2)=[assign (.Subscript (.Name x pos2) b pos3) X.env]:=by rfl):PS X (.Assign [.Subscript (.Name x pos2) b pos3] e pos) (zN X.K L I rs G G (TZ (A1++([p],Kz X.K p (S.set z.toNat d))::B1))):=by
 refine (Ea h (K3 hv hb set_list ha) hs hw h1).imp fun D σ H ⟨r,q⟩=>⟨r,fun y H1 i1 s1 d1=>?_⟩
 have r1:RZ X.K L (TZ (A1++([p],Kz X.K p S)::B1)) rs G σ H1:=r.next i1 s1
 have ok1:ZOk L (TZ (A1++([p],Kz X.K p S)::B1)):=by rw [hL1];exact g1.ok
 refine ⟨.ref p,r.1 _ hi,r1.sd,fun w H2 s2 d2=>?_⟩
 have d2:=d2.of_int
 subst d2
 have r2:=r1.step ok1 s2
 have kz:Kz X.K p S H2:=(TZ.mid.mp r2.2.1).2.1
 obtain ⟨us,hu,du,nd⟩:=id kz
 have dv2:=DV.lef (kz_ok.notup kz) ((d1.mono lef_same).mono s2) hn
 have eL:lef [p] (upd H2 p (.lst (us.set z.toNat y)))=lef [p] H2:=Cq List.mem_cons_self
 have hlen:us.length=S.length:=du.length
 have k':Kz X.K p (S.set z.toNat d) (upd H2 p (.lst (us.set z.toNat y))):=⟨us.set z.toNat y,Am,by rw [eL];exact du.setAt dv2 _,Ko hn S _ nd⟩
 obtain ⟨t',s'⟩:=P8 (it:=([p],Kz X.K p S)) (it':=([p],Kz X.K p (S.set z.toNat d))) g1 r2.2.1 (by show Same (lef [p] H2) (lef [p] _);rw [eL];exact Same.refl _) k'
 have eLL:LZ (A1++([p],Kz X.K p (S.set z.toNat d))::B1)=LZ (A1++([p],Kz X.K p S)::B1):=Kp rfl
 rw [eLL,←hL1] at s'
 refine ⟨p,us,z,z.toNat,rfl,rfl,hu,?_,q σ _ ⟨r2.1,t',r2.2.2.mono s'⟩ ((s1.trans s2.lef).trans s')⟩
 unfold ixN
 rw [if_pos z0,if_pos (by rw [hlen];exact z1)]
end
abbrev RF:=List (Str×Addr)
def Oq (K:PySem.W.Frag) (R:OR) (lf:LF) (df:DF) (rf:RF) (H:Hp):Prop:=∃fs,OzS K R lf df (lef R.L H) H fs∧(∀q∈rf,fs.lookup q.1=some (.ref q.2)∧q.1∉lf.map (·.1)∧q.1∉df.map (·.1))∧∀q∈df,noL q.2=true
section
variable {X:Cx} {L:List Addr} {I:Hp→Prop} {R:OR} {lf:LF} {df:DF} {rf:RF} {A B:List Zt} {rs:List (Nat×Addr)} {G G':Gam} {e c b:Expr} {es:List Expr} {d:PyData} {ds ws:List PyData} {i k:Nat} {pos pos' pos2 pos3 pos4 p1:Pos} {x f:Str} {ad:Addr}
end
section
variable {β:Type}
end
section
variable {X:Cx} {L:List Addr} {I I':Hp→Prop} {rs:List (Nat×Addr)} {G G':Gam} {e:Expr} {es:List Expr} {d:PyData} {ds ws:List PyData} {st:Stmt} {b:Addr} {i j k:Nat} {x y:Str} {pos pos2 apos pos' p1 p4:Pos} {m:Str}
end
section
variable {β:Type} {X:Cx} {its:β→List Zt} {ad:β→Addr} {A B:List Zt} {y y':β} {L:List Addr} {rs:List (Nat×Addr)} {G G':Gam} {e:Expr} {es:List Expr} {d:PyData} {ds:List PyData} {k i:Nat} {x m:Str} {pos pos2 apos:Pos} {C:Addr} {F:β→List PyData→PyData→β→Prop} {pl:Sem Bool}
end
section
variable {K:PySem.W.Frag} {R:OR} {lf:LF} {df:DF} {rf:RF} {H:Hp} {f:Str} {y:V} {d:PyData}
def OR.add (R:OR) (f:Str) (p:Addr):OR:={R with ls:=R.ls++[(f,p)]}
end
section
variable {β:Type} {X:Cx} {R:OR} {lf:LF} {df:DF} {rf:RF} {B B':List Zt} {rs:List (Nat×Addr)} {G G':Gam} {e:Expr} {d:PyData} {ws:List PyData} {i:Nat} {pos pos' pos2:Pos} {x f:Str} {L:List Addr} {I:Hp→Prop} {P:β→Prop} {Lo:β→List Addr} {Io:β→Hp→Prop} {ad:β→Addr}
end
section
variable {X:Cx} {L:List Addr} {I:Hp→Prop} {R:OR} {lf:LF} {df:DF} {rf:RF} {A B:List Zt} {rs:List (Nat×Addr)} {G G':Gam} {e c b:Expr} {es:List Expr} {d:PyData} {ds ws:List PyData} {i k:Nat} {pos pos' pos2 pos3 pos4 p1:Pos} {x f:Str} {ad:Addr}
end
abbrev tdI (P:Program) (w:World) (K:PySem.W.Frag) (R:Reg) (T:List PyData) (N:NR) (df:DF):List Zt:=[(R.L,Tb P w K R T),(N.L,Nz K N df)]
def spTd (P:Program) (w:World) (K:PySem.W.Frag) (C:Addr) (F:List PyData→DF→List PyData→List PyData→DF→Prop):Sp:=fun vs H Q _=>∃(R:Reg) (N:NR) (T:List PyData) (df:DF) (ds T':List PyData) (df':DF) (vr:List V),R.C=C∧vs=.ref R.a::.ref N.a::vr∧TZ (tdI P w K R T N df) H∧DVs K (lef (LZ (tdI P w K R T N df)) H) vr ds∧F T df ds T' df'∧
 ∀N' H',N'.a=N.a→TZ (tdI P w K R T' N' df') H'→Same (lef (LZ (tdI P w K R T N df)) H) (lef (LZ (tdI P w K R T' N' df')) H')→Q .non H'
def TdFn (P:Program) (w:World) (K:PySem.W.Frag) (mg:Str→Option Value) (base:Heap) (k:Nat) (C:Addr) (x:Str) (F:List PyData→DF→List PyData→List PyData→DF→Prop):Prop:=
 ∃f fd ps,FnOk P w K mg base CX0 k f fd ps (spTd P w K C F)∧mg x=some (.ref f)∧PySem.W.keepIn K (.ref f)=true∧Binds K fd ps []
def nxTd (P:Program) (w:World) (K:PySem.W.Frag) (A B:List Zt) (R:Reg) (T:List PyData) (a:Addr) (df:DF):List Addr→St→Hp→Prop:=fun L' _ H'=>∃N':NR,N'.a=a∧L'=LZ (A++(tdI P w K R T N' df++B))∧TZ (A++(tdI P w K R T N' df++B)) H'
def spTn (P:Program) (w:World) (K:PySem.W.Frag) (C:Addr) (F:List PyData→List PyData→List PyData→DF→Prop):Sp:=fun vs H Q _=>∃(R:Reg) (T ds T':List PyData) (df:DF) (vr:List V),R.C=C∧vs=.ref R.a::vr∧Tb P w K R T H∧DVs K (lef R.L H) vr ds∧F T ds T' df∧
 ∀N H',TZ (tdI P w K R T' N df) H'→Same (lef R.L H) (lef (LZ (tdI P w K R T' N df)) H')→Q (.ref N.a) H'
def TnFn (P:Program) (w:World) (K:PySem.W.Frag) (mg:Str→Option Value) (base:Heap) (k:Nat) (C:Addr) (x:Str) (F:List PyData→List PyData→List PyData→DF→Prop):Prop:=
 ∃f fd ps,FnOk P w K mg base CX0 k f fd ps (spTn P w K C F)∧mg x=some (.ref f)∧PySem.W.keepIn K (.ref f)=true∧Binds K fd ps []
section
variable {P:Program} {w:World} {K:PySem.W.Frag} {mg:Str→Option Value} {base:Heap}
end
section
variable {X:Cx} {A B:List Zt} {L:List Addr} {I:Hp→Prop} {R:Reg} {N:NR} {T T':List PyData} {df df':DF} {rs:List (Nat×Addr)} {G G':Gam} {e b:Expr} {es:List Expr} {d:PyData} {ds ws:List PyData} {k i j:Nat} {x y f m:Str} {pos pos' pos2 pos3 apos p1 p2 p4:Pos} {sts:List Stmt} {Nx:List Addr→St→Hp→Prop} {Rt:List Addr→V→Hp→Prop}
end
section
variable {X:Cx} {A B its:List Zt} {R:Reg} {T T':List PyData} {rs:List (Nat×Addr)} {G:Gam} {e a:Expr} {d:PyData} {ds ws:List PyData} {k i j:Nat} {x y f:Str} {pos pos' pos2 p1 p4:Pos}
end
section
variable {X:Cx} {R:Reg} {T:List PyData} {p q:Addr} {rs:List (Nat×Addr)} {G:Gam} {ds1 ds2:List PyData} {i j:Nat} {x y f1 f2 f3 f4 f5:Str} {k1 k2 k3 k4 k5 e3 e4 e5:Expr} {d3 d4 d5:PyData} {pos pos2 p1 p4:Pos} {sts:List Stmt} {Nx:List Addr→St→Hp→Prop}
end
section
variable {X:Cx} {G:Gam} {a b c e:Expr} {R R2:PyData→Prop} {db d0 d1:PyData} {pos q1 q2:Pos} {x:Str} {i:Nat} {sts:List Stmt}
end
section
variable {X:Cx} {A B M:List Zt} {L:List Addr} {I:Hp→Prop} {rs rs1:List (Nat×Addr)} {G G':Gam} {e:Expr} {ds S:List PyData} {i j:Nat} {x y:Str} {p:Addr} {pos pos' pos2 apos p1 p4:Pos} {sts:List Stmt} {Nx:List Addr→St→Hp→Prop} {Rt:List Addr→V→Hp→Prop} {β:Type}
def tNzs (K:PySem.W.Frag) (L:List Addr) (I:Hp→Prop) (rs:List (Nat×Addr)) (G:Gam) (P:β→Prop) (its:β→List Zt) (ad:β→Addr):TE:=fun σ H Q=>RZ K L I rs G σ H∧∀y H',P y→TZ (its y) H'→Same H (lef (LZ (its y)) H')→Q (.ref (ad y)) H'
theorem Hs {P:β→Prop} {its:β→List Zt} {ad:β→Addr} (g:Ges (A++B)) (hN:X.N.Nodup) (hj:X.N[j]?=some y) (hj0:j∉rs.map (·.1)) (hy:Loc X.env.scope y) (hG:G[j]?=some none) (h:PE X e (tNzs X.K (LZ (A++B)) (TZ (A++B)) rs G P its ad))
  (hs:swapsWith e (some (.Name y p1)) p4.line X.env=pure false:=by rfl)
  (hfn:X.fn y=true∨X.env.scope.names.lookup y=some .local:=by first | exact .inl rfl | exact .inr rfl | assumption):
  PS X (.Assign [.Name y p1] e p4) (zV X.K (LZ (A++B)) (TZ (A++B)) rs G (fun L' σ' H'=>∃q:β,P q∧L'=LZ (A++(its q++B))∧RZ X.K (LZ (A++(its q++B))) (TZ (A++(its q++B))) ((j,ad q)::rs) G σ' H') noRt):=by
 refine (Eh hN hj hy h hs hfn).imp fun D σ H ⟨r,q,_⟩=>⟨r,fun w H1 hw iw s1=>?_⟩
 obtain ⟨t1,s1'⟩:=Ml (A:=A) (B:=B) (M:=[]) (M':=its w) (H:=H) (H':=H1) g r.2.1 (by show Same (lef [] H) _;rw [Ct];exact s1) iw
 have s1':Same (lef (LZ (A++B)) H) (lef (LZ (A++(its w++B))) H1):=s1'
 refine q _ _ _ ⟨w,hw,rfl,fun z hz=>?_,t1,J6 (r.2.2.mono s1') hG⟩ s1'
 rcases List.mem_cons.mp hz with e | hz
 ·subst e
  exact List.getElem?_set_self (by rw [r.2.2.1];exact (List.getElem?_eq_some_iff.mp hG).1)
 ·rw [List.getElem?_set_ne fun w=>hj0 (List.mem_map.mpr ⟨z,hz,w.symm⟩)]
  exact r.1 z hz
theorem LL {Lo:β→List Addr} {Io:β→Hp→Prop} {P:β→Prop} {ad:β→Addr} (h:PE X e (tNeu X.K L I rs G P Lo Io ad)):PE X e (tNzs X.K L I rs G P (fun q=>[(Lo q,Io q)]) ad):=h.imp fun σ H Q ⟨r,q⟩=>⟨r,fun y H' hp t s=>q y H' hp (tz_one.mpr t) (by show Same H (lef (LZ [(Lo y,Io y)]) H');rw [Pw];exact s)⟩
theorem E8 (ok:ZOk L I) (v:Sees X.K L I rs G G') {d:PyData} (h:EV X G' e d):PSs X (.Return (some e) pos::sts) (zV X.K L I rs G Nx fun _ v H'=>DV X.K H' v d):=
 (A4 (Ed h) (AD (sts:=sts))).imp fun D σ H ⟨r,_,q⟩=>⟨v σ H r,fun u H' s' dv=>q L u H' dv s'.lef⟩
end
section
variable {X:Cx} {G:Gam} {a b c e:Expr} {ws:List PyData} {pos:Pos} {sts A:List Stmt}
end
def Lk (L:List Addr) (H:Hp):Prop:=∀b∈L,(∃o,H b=some o)∧∀xs,¬Rd H b (.tup xs)
def spAp (K:PySem.W.Frag) (F:List PyData→PyData→Prop):Sp:=fun vs H Q _=>∃(L:List Addr) (ds:List PyData) (d:PyData),Lk L H∧DVs K H vs ds∧F ds d∧∀v H',Same H H'→DV K (lef L H') v d→Q v H'
def ApFn (P:Program) (w:World) (K:PySem.W.Frag) (mg:Str→Option Value) (base:Heap) (k:Nat) (x:Str) (F:List PyData→PyData→Prop):Prop:=
 ∃f fd ps,FnOk P w K mg base CX0 k f fd ps (spAp K F)∧mg x=some (.ref f)∧PySem.W.keepIn K (.ref f)=true∧Binds K fd ps []
def ApS (K:PySem.W.Frag) (L:List Addr) (ap:List (Nat×PyData)) (σ:St) (H:Hp):Prop:=∀q∈ap,∃v,σ[q.1]?=some (some v)∧DV K (lef L H) v q.2
def tAp (K:PySem.W.Frag) (L:List Addr) (G:Gam) (ap:List (Nat×PyData)) (d:PyData):TS:=fun D σ H=>SD K H σ G∧ApS K L ap σ H∧Lk L H∧∀v H',Same H H'→DV K (lef L H') v d→D.rt v H'
section
variable {P:Program} {w:World} {K:PySem.W.Frag} {mg:Str→Option Value} {base:Heap}
end
section
variable {X:Cx} {L:List Addr} {G G1:Gam} {ap:List (Nat×PyData)} {d:PyData} {ds ws:List PyData} {c e:Expr} {es:List Expr} {st:Stmt} {sts A:List Stmt} {pos pos' pos2:Pos} {i k:Nat} {x f:Str} {I:Hp→Prop} {rs:List (Nat×Addr)} {G':Gam}
end
def KD (K:PySem.W.Frag) (u:Value) (d:PyData):Prop:=∃v,RelV v u∧∀H,DV K H v d
inductive KDs (K:PySem.W.Frag):List Value→List PyData→Prop where
 | nil:KDs K [] []
 | cons {u:Value} {d:PyData} {us:List Value} {ds:List PyData}:KD K u d→KDs K us ds→KDs K (u::us) (d::ds)
section
variable {K:PySem.W.Frag}
end
end L2
namespace My
open PySem L2
local macro_rules | `(tactic| walk_at "s")=>`(tactic| exact ⟨rfl,rfl,rfl,by decide +kernel,rfl,by decide +kernel,by decide +kernel⟩)
local macro_rules | `(tactic| walk_at "dn")=>`(tactic| first | decide | omega)
local macro_rules | `(tactic| walk_at "od")=>`(tactic| first
 | exact Co | exact OY | exact Oa | exact NJ | exact K1 | exact Qv | exact PR
 | exact Be (by walk_at "dn") | exact Gp ⟨by walk_at "dn",by walk_at "dn"⟩
 | exact ER (by first | exact Or.inl ⟨by walk_at "dn",by walk_at "dn"⟩ | exact Or.inr ⟨by walk_at "dn",by walk_at "dn"⟩)
 | exact Py ⟨by decide,by decide,by decide⟩
 | exact IZ (by walk_at "sz") | exact Jr (by simp) (by walk_at "sz")
 | exact FA (.inl rfl) (by rfl) (by rfl) (by rfl) | exact FA (.inr rfl) (by rfl) (by rfl) (by rfl)
 | exact EW (.inl rfl) (by rfl) (by rfl) (by rfl) | exact EW (.inr rfl) (by rfl) (by rfl) (by rfl)
 | exact Cy (by walk_at "un") (by walk_at "cl") (by walk_at "cl") (by walk_at "dp") (by rfl)
 | exact C_ (by walk_at "un") (by walk_at "cl") (by walk_at "cl") (by walk_at "dp") (by rfl))
local macro_rules | `(tactic| walk_at "sz")=>`(tactic| first | decide | (rw [sizeLine_eq];decide) | (rw [sizeLine_eq];simp;done) | (rw [sizeLine_eq];simp;omega) | (rw [sizeLine_eq];omega))
local macro_rules | `(tactic| walk_at "bf")=>`(tactic| (intro h;first | rfl | cases h))
local macro_rules | `(tactic| walk_at "rm")=>`(tactic| exact Room.mono (by assumption) (by decide))
local macro_rules | `(tactic| walk_at "un")=>`(tactic| exact Room.units (by assumption))
local macro_rules | `(tactic| walk_at "cl")=>`(tactic| first | rfl | decide +kernel | (simp [PyData.canLay0,PyData.canLayAll0];done))
local macro_rules | `(tactic| walk_at "dp")=>`(tactic| first | (simp [PyData.depth,PyData.depthAll];done) | decide)
local macro_rules | `(tactic| walk_at "rg")=>`(tactic| first | decide | omega)
local macro_rules | `(tactic| walk_at "at")=>`(tactic| first | rfl | exact Bl (by walk_at "dn") (by rfl) | exact BA (by walk_at "dn") (by walk_at "dn"))
local macro_rules | `(tactic| walk_at "cd")=>`(tactic| first | exact GI | exact MY | exact IY (by decide) | exact IF rfl | exact FT | exact Mi | exact LG | exact MN | exact P5 rfl | exact Os rfl | exact KM rfl)
local macro_rules | `(tactic| walk_at "fn")=>`(tactic| first | exact ⟨_,rfl,rfl⟩ | exact ⟨_,_,rfl,rfl⟩ | exact ⟨_,_,_,rfl,rfl⟩)
def top (i:Nat):Stmt:=PySem.Challenge.pw_likewise_k18_whole_built_programs.main.body.getD i (.Pass ⟨0,0,0,0⟩)
abbrev Dg:Stmt:=top 7
abbrev Ek:Stmt:=top 8
abbrev Cg:Stmt:=top 11
abbrev C5:Stmt:=top 12
abbrev Ca:Stmt:=top 13
abbrev C4:Stmt:=top 14
abbrev Dt:Stmt:=top 15
abbrev CA:Stmt:=top 16
abbrev DX:Stmt:=top 17
abbrev EJ:Stmt:=top 23
abbrev Cs:Stmt:=top 24
abbrev CB:Stmt:=top 25
abbrev EG:Stmt:=top 26
abbrev Cu:Stmt:=top 27
abbrev Df:Stmt:=top 28
abbrev DL:Stmt:=top 31
abbrev BT:Stmt:=top 32
abbrev Ci:Stmt:=top 33
abbrev Ce:Stmt:=top 34
abbrev Cf:Stmt:=top 37
abbrev EU:Stmt:=top 38
abbrev DZ:Stmt:=top 39
abbrev Cc:Stmt:=top 40
abbrev Cw:Stmt:=top 41
abbrev Cb:Stmt:=top 42
abbrev Cm:Stmt:=top 43
abbrev Kx:Stmt:=top 44
theorem HP:FnScope ["thing","bound"] ["thing","bound"] (Ae Dg):=by walk_at "s"
theorem IL:FnScope ["thing"] ["thing"] (Ae Ek):=by walk_at "s"
theorem Fh:FnScope ["pages"] ["pages"] (Ae Cg):=by walk_at "s"
theorem GE:FnScope ["things","many"] ["things","many"] (Ae C5):=by walk_at "s"
theorem EZ:FnScope ["pages","cells","boxes","place"] ["pages","cells","boxes","place"] (Ae Ca):=by walk_at "s"
theorem Gi:FnScope ["pages","cell","right"] ["pages","cell","right"] (Ae C4):=by walk_at "s"
theorem HR:FnScope ["pages","cell"] ["pages","cell"] (Ae Dt):=by walk_at "s"
theorem G0:FnScope ["pages","cell"] ["pages","cell"] (Ae CA):=by walk_at "s"
theorem Im:FnScope ["pages","cell"] ["pages","cell"] (Ae DX):=by walk_at "s"
theorem sc_is_row:FnScope ["row","parts","numbers"] ["row"] (Ae EJ):=by walk_at "s"
theorem sc_first_word:FnScope ["row","name","counted"] ["row"] (Ae Cs):=by walk_at "s"
theorem G4:FnScope ["part","first","second"] ["part","first","second"] (Ae CB):=by walk_at "s"
theorem sc_row_in:FnScope ["first","second","name","row"] ["first","second"] (Ae EG):=by walk_at "s"
theorem sc_cells_from:FnScope ["first","row"] ["first"] (Ae Cu):=by walk_at "s"
theorem Hv:FnScope ["row"] ["row"] (Ae Df):=by walk_at "s"
theorem sc_row_at:FnScope ["pages","cells","place","many","second"] ["pages","cells","place"] (Ae DL):=by walk_at "s"
theorem GM:FnScope ["name","x","y"] ["name","x","y"] (Ae BT):=by walk_at "s"
theorem IA:FnScope ["name","x","y"] ["name","x","y"] (Ae Ci):=by walk_at "s"
theorem sc_branch_goes:FnScope ["kind","truths","zero","less"] ["kind","truths"] (Ae Ce):=by walk_at "s"
theorem sc_law_numbers:FnScope ["script","at","many","cells","found","cell","rest","turn","k","near"] ["script","at","many"] (Ae Cf):=by walk_at "s"
theorem sc_law_op:FnScope ["word","names"] ["word"] (Ae EU):=by walk_at "s"
theorem sc_law_run:FnScope ["words","base","cells","boxes","memory","k","machine","found"] ["words","base","cells","boxes"] (Ae DZ):=by walk_at "s"
theorem sc_law_product:FnScope ["one","times","base","words","machine","found","memory"] ["one","times","base"] (Ae Cc):=by walk_at "s"
theorem sc_law_copied:FnScope ["cells","base","goes","many","far","words","machine","found","memory","k"] ["cells","base","goes","many","far"] (Ae Cw):=by walk_at "s"
theorem sc_law_counted:FnScope ["first","many","base","words","machine","found","memory"] ["first","many","base"] (Ae Cb):=by walk_at "s"
theorem sc_law_called:FnScope ["word","more","base","words","machine","found","memory"] ["word","more","base"] (Ae Cm):=by walk_at "s"
theorem sc_law:FnScope ["script","numbers","cells","k","number","base"] ["script"] (Ae Kx):=by walk_at "s"
abbrev BP:Stmt:=inClass (top 35) 0
theorem Ez:FnScope ["self","pages","cells","boxes","place"] ["self","pages","cells","boxes","place"] (Ae BP):=by walk_at "s"
abbrev B2:Stmt:=inClass (top 35) 2
theorem Eg:FnScope ["self"] ["self"] (Ae B2):=by walk_at "s"
abbrev B6:Stmt:=inClass (top 35) 3
theorem DT:FnScope ["self"] ["self"] (Ae B6):=by walk_at "s"
abbrev B4:Stmt:=inClass (top 35) 5
theorem Ef:FnScope ["self"] ["self"] (Ae B4):=by walk_at "s"
abbrev BK:Stmt:=inClass (top 35) 6
theorem Eu:FnScope ["self"] ["self"] (Ae BK):=by walk_at "s"
abbrev Bu:Stmt:=inClass (top 35) 7
theorem DB:FnScope ["self"] ["self"] (Ae Bu):=by walk_at "s"
abbrev BN:Stmt:=inClass (top 35) 12
theorem Ev:FnScope ["self","cell"] ["self","cell"] (Ae BN):=by walk_at "s"
abbrev BF:Stmt:=inClass (top 35) 13
theorem Ex:FnScope ["self","cell","word"] ["self","cell","word"] (Ae BF):=by walk_at "s"
abbrev BL:Stmt:=inClass (top 35) 14
theorem Ey:FnScope ["self","word"] ["self","word"] (Ae BL):=by walk_at "s"
abbrev BD:Stmt:=inClass (top 35) 15
theorem sc_Machine_step:FnScope ["self","word","row"] ["self"] (Ae BD):=by walk_at "s"
abbrev B7:Stmt:=inClass (top 35) 16
theorem sc_Machine_steps:FnScope ["self","most","count","word"] ["self","most"] (Ae B7):=by walk_at "s"
abbrev Bn:Stmt:=inClass (top 35) 17
theorem Dq:FnScope ["self","row"] ["self","row"] (Ae Bn):=by walk_at "s"
abbrev Bb:Stmt:=inClass (top 35) 18
theorem CG:FnScope ["self","row"] ["self","row"] (Ae Bb):=by walk_at "s"
abbrev Cl:Stmt:=inClass (top 35) 19
theorem sc_Machine_do:FnScope ["self","row","behind"] ["self","row"] (Ae Cl):=by walk_at "s"
abbrev AY:Stmt:=inClass (top 35) 20
theorem C1:FnScope ["self","row","behind"] ["self","row","behind"] (Ae AY):=by walk_at "s"
abbrev Bt:Stmt:=inClass (top 35) 21
theorem sc_Machine_reckon:FnScope ["self","row","name","x","y","one","two","result"] ["self","row"] (Ae Bt):=by walk_at "s"
abbrev BI:Stmt:=inClass (top 35) 22
theorem Ew:FnScope ["self","row","behind"] ["self","row","behind"] (Ae BI):=by walk_at "s"
structure Txt (mg:Str→Option Value):Prop where
 b_len:mg "len"=none
 b_isinstance:mg "isinstance"=none
 b_int:mg "int"=none
 b_bool:mg "bool"=none
 b_all:mg "all"=none
 b_zip:mg "zip"=none
 b_sum:mg "sum"=none
 b_tuple:mg "tuple"=none
 b_list:mg "list"=none
 b_range:mg "range"=none
 c_page_cells:∃t,mg "PAGE_CELLS"=some (.int 16 t)
theorem Txt.g_page_cells {X:Cx} {G:Gam} {pos:Pos} (T:Txt X.mg) (hg:Gl X "PAGE_CELLS"):EV X G (.Name "PAGE_CELLS" pos) (.int 16):=by
 obtain ⟨t,h⟩:=T.c_page_cells
 exact Lu hg h
def kinds:List (Str×Str):=[("stop",""),("set","xn"),("move","xy"),("add","xy"),("sub","xy"),("mul","xy"),("and","xy"),("xor","xy"),("cmp","xy"),("load","xym"),("store","xym"),("jump","n"),("branch","kn"),("call","xn"),("back","x"),("out","x")]
def nameL:List Str:=kinds.map (·.1)
def K2:List (Str×PyData):=kinds.map fun q=>(q.1,.str q.2)
def Ba (c:Nat):Int:=if c=120 then 4 else if c=121 then 4 else if c=107 then 4 else if c=109 then 16 else 4096
def Bj (c:Nat):Int:=if c=120 then 64 else if c=121 then 16 else if c=107 then 1 else if c=109 then 1 else 0
abbrev EO (c:Nat):Prop:=c=120∨c=121∨c=107∨c=109∨c=110
def Ir:List (Str×PyData):=[("x",.int 4),("y",.int 4),("k",.int 4),("m",.int 16),("n",.int 4096)]
def GT:List (Str×PyData):=[("x",.int 64),("y",.int 16),("k",.int 1),("m",.int 1),("n",.int 0)]
theorem FM {c:Nat} (h:EO c):((⟨#[c]⟩:Str),PyData.int (Ba c))∈Ir:=by
 rcases h with rfl | rfl | rfl | rfl | rfl
 ·exact List.mem_of_getElem? (i:=0) rfl
 ·exact List.mem_of_getElem? (i:=1) rfl
 ·exact List.mem_of_getElem? (i:=2) rfl
 ·exact List.mem_of_getElem? (i:=3) rfl
 ·exact List.mem_of_getElem? (i:=4) rfl
theorem Fj {c:Nat} (h:EO c):((⟨#[c]⟩:Str),PyData.int (Bj c))∈GT:=by
 rcases h with rfl | rfl | rfl | rfl | rfl
 ·exact List.mem_of_getElem? (i:=0) rfl
 ·exact List.mem_of_getElem? (i:=1) rfl
 ·exact List.mem_of_getElem? (i:=2) rfl
 ·exact List.mem_of_getElem? (i:=3) rfl
 ·exact List.mem_of_getElem? (i:=4) rfl
theorem BC:∀q∈kinds,∀c∈q.2.cps.toList,EO c:=by decide +kernel
theorem C9:∀q∈kinds,strIterType q.2=BM:=by decide +kernel
theorem C6:∀q∈kinds,q.2.cps.size≤3:=by decide +kernel
theorem CJ {q:Str×Str} (h:q∈kinds):(q.1,PyData.str q.2)∈K2:=List.mem_map.mpr ⟨q,h,rfl⟩
theorem DD {c:Nat}:0≤Bj c∧Bj c≤64:=by unfold Bj;repeat' split <;> omega
def BG (ps:Str) (nums:List Int):Bool:=(ps.cps.toList.zip nums).all fun q=>decide (0≤q.2) && decide (q.2 < Ba q.1)
def A9 (ps:Str) (nums:List Int):Int:=((ps.cps.toList.zip nums).map fun q=>Bj q.1 * q.2).sum
def rowD (name:Str) (nums:List Int):PyData:=.tuple (.str name::nums.map PyData.int)
theorem HV {s:Str}:∀{l:List Str},s∈l→((l.map PyData.str).any fun e=>PyData.eqv e (.str s))=true
 | a::r,h=>by
   rw [List.map_cons,List.any_cons]
   rcases List.mem_cons.mp h with e | e
   ·subst e;simp [PyData.eqv]
   ·rw [HV e,Bool.or_true]
theorem HD:∀(l:List Str),(l.map PyData.str).all Ch=true
 | []=>rfl
 | _::r=>by rw [List.map_cons,List.all_cons,HD r];rfl
structure TxtR (K:PySem.W.Frag) (mg:Str→Option Value) (P:Params):Prop extends Txt mg where
 t_names:GTup K mg "NAMES" nameL
 t_parts:Ep K mg P "PARTS" K2
 t_bounds:Ep K mg P "BOUNDS" Ir
 t_weights:Ep K mg P "WEIGHTS" GT
 t_reck:GTup K mg "RECKONING" ["add","sub","mul","and","xor","cmp"]
section
variable {P:Program} {w:World} {K:PySem.W.Frag} {mg:Str→Option Value} {base:Heap}
def CI:PyData→Int→Bool
 | .int i,b=>decide (0≤i) && decide (i < b)
 | _,_=>false
def BO (ds:List PyData) (d:PyData):Prop:=∃(i b:Int),ds=[.int i,.int b]∧d=.bool (CI (.int i) b)
theorem Iw (T:Txt mg) {f:Addr} {fd:FuncData} (F:Fun K "is_below" "is_below" Dg f fd) (hm:mg "is_below"=some (.ref f)):DFn P w K mg base 1 "is_below" BO:=by
 refine F.data hm (F.binds fun _ _ _ _ _ _ us hl=>match us,hl with | [_,_],_=>rfl) HP (fun ds d ⟨_,_,e,_⟩=>by rw [e];rfl) fun cdv A outer s H E ds d hr ⟨t,b,e,e2⟩=>?_
 subst e e2
 exact Ah (Ap (B5 (Lq (n:="int") (evv 0) rfl T.b_isinstance rfl T.b_int (by decide +kernel) (by rfl)) (fun _=>(B5 (Id (Lq (n:="bool") (evv 0) rfl T.b_isinstance rfl T.b_bool (by decide +kernel) (by rfl))) (fun _=>(C3 (JS Ab (evv 0) (by walk_at "od") (evv 1) (by walk_at "od")))) (by walk_at "bf"))) (by walk_at "bf")))
def CU (ds:List PyData) (d:PyData):Prop:=∃i:Int,ds=[.int i]∧d=.bool (CI (.int i) 4096)
theorem NB {X:Cx} {G:Gam} {tg e:Expr} {ds ds':List PyData} (h:IV X G tg e ds) (q:ds=ds'):IV X G tg e ds':=q ▸ h
def pairD (q:Nat×Int):PyData:=.tuple [.str ⟨#[q.1]⟩,.int q.2]
theorem HF (l:List Nat) (nums:List Int):(l.zip (nums.map PyData.int)).map zipD=(l.zip nums).map pairD:=by
 rw [List.zip_map_right,List.map_map]
 rfl
def DN (ds:List PyData) (d:PyData):Prop:=∃q nums,q∈kinds∧nums.length=q.2.cps.size∧ds=[rowD q.1 nums]∧d=.bool (BG q.2 nums)
theorem IS (name:Str) (nums:List Int):cutD (.str name::nums.map PyData.int) (some 1) none=nums.map PyData.int:=by
 unfold cutD
 simp [HT.sIx]
 exact List.take_of_length_le (by simp)
theorem Dv (name:Str) (nums:List Int):¬(HT.sIx (PyData.str name::nums.map PyData.int).length 0 (some 1)=0∧HT.sIx (PyData.str name::nums.map PyData.int).length (PyData.str name::nums.map PyData.int).length none=(PyData.str name::nums.map PyData.int).length):=by
 intro h
 have:=h.1
 simp [HT.sIx] at this
theorem Mf (T:TxtR K mg w.params) {f:Addr} {fd:FuncData} (D_is_below:DFn P w K mg base 1 "is_below" BO) (F:Fun K "is_row" "is_row" EJ f fd) (hm:mg "is_row"=some (.ref f)):DFn P w K mg base 2 "is_row" DN:=by
 refine F.data hm (F.binds fun _ _ _ _ _ _ us hl=>match us,hl with | [_],_=>rfl) sc_is_row (fun ds d ⟨_,_,_,_,e,_⟩=>by rw [e];rfl) fun cdv A outer s H E ds d hr ⟨q,nums,hq,hl,e,e2⟩=>?_
 subst e e2
 have hn:q.1∈nameL:=List.mem_map.mpr ⟨q,hq,rfl⟩
 refine Ag (A0 (k:=false) (Al (B3 (DK (An (Aw "len" (Aa (evv 0) Ac) (by walk_at "cd") rfl T.b_len (by decide +kernel)) Ab (by walk_at "od") (Ak _)) (fun _=>C8 (An (AE (evv 0) Ab (Bl (by decide) rfl)) (G5 T.t_names rfl) (EW (.inr rfl) rfl (HD _) (by rw [HV hn])) (by with_unfolding_all rfl))))) ?_) (fun h=>by cases h) (fun _=>Ar)) ?_
 ·simp [PyData.eqv]
  omega
 refine Ag (AQ (i:=1) sc_is_row.nd rfl (Or.inl rfl) (Bq T.t_parts rfl (AE (evv 0) Ab (Bl (by decide) rfl)) (CJ hq))) ?_
 refine Ag (AQ (i:=2) sc_is_row.nd rfl (Or.inl rfl) (Av (Ig (evv 0) (EC Ab) EA (Dv q.1 nums)) (by rw [IS]))) ?_
 have hs:=C6 q hq
 refine Ag (A0 (k:=false) (An (Aw "len" (Aa (evv 2) Ac) (by walk_at "cd") rfl T.b_len (by decide +kernel)) (Aw "len" (Aa (evv 1) Ac) (IY (by rw [sizeLine_eq];show q.2.cps.size≤_;omega)) rfl T.b_len (by decide +kernel)) (C_ (by walk_at "un") rfl rfl (by walk_at "dp") ?_) (Ak _)) (fun h=>by cases h) (fun _=>Ar)) ?_
 ·rw [List.length_map,hl]
  simp [PyData.eqv,Str.length]
 refine Ah (Ap (Av (Aw "all" (ds:=[.list (((q.2.cps.toList.zip nums).map fun z=>decide (0≤z.2) && decide (z.2 < Ba z.1)).map PyData.bool)]) (Aa (Av (Dz (ix:=[]) (N:=["part","number"]) (B:=Lb) (as:=q.2.cps.toList.zip nums) (D:=pairD) (fun _=>true) (fun z=>PyData.bool (decide (0≤z.2) && decide (z.2 < Ba z.1))) rfl (of_decide_eq_true (by kernel_rfl)) (Jf (DI (Bd (by decide)) (DI (Bd (by decide)) IO)))
  (NB (LJ (evv 1) (evv 2) (C9 q hq) (by rw [List.length_map,hl]) rfl T.b_zip) (HF _ _)) (by rw [List.length_zip,sizeLine_eq,Array.length_toList];omega) (fun _ _=>KC _ _) (fun _ _ _ _ _=>B_ rfl (A5 (Au (i:=0) (show List.Nodup (["part","number"]:List Str) by decide +kernel) rfl (Or.inl rfl)) (A5 (Au (i:=1) (show List.Nodup (["part","number"]:List Str) by decide +kernel) rfl (Or.inl rfl)) Bw))) (fun a ha cl C s H fp=>Er)
  (fun a ha hP cl C s H fp=>Af D_is_below (by walk_at "rm") rfl (Aa (evv 1) (Aa (Bq T.t_bounds rfl (evv 0) (FM (BC q hq a.1 (List.of_mem_zip ha).1))) Ac)) ⟨_,_,rfl,rfl⟩)) ?_) Ac) (IF rfl) rfl T.b_all (by decide +kernel)) ?_))
 ·rw [Bg,List.map_map];rfl
 ·unfold BG
  rw [List.all_map]
  rfl
def CV (ds:List PyData) (d:PyData):Prop:=∃(j:Nat) (q:Str×Str) (nums:List Int),kinds[j]?=some q∧nums.length=q.2.cps.size∧ds=[rowD q.1 nums]∧d=.int ((j:Int) * 256 + A9 q.2 nums)
theorem Ck {j:Nat} {q:Str×Str} (h:kinds[j]?=some q):nameL[j]?=some q.1:=by
 unfold nameL
 rw [List.getElem?_map,h]
 rfl
theorem names_nodup:nameL.Nodup:=by decide +kernel
theorem Ha {j:Nat} {s:Str} (h:nameL[j]?=some s):∀m,m < j→nameL[m]?≠some s:=by
 intro m hm e
 obtain ⟨h1,e1⟩:=List.getElem?_eq_some_iff.mp h
 obtain ⟨h2,e2⟩:=List.getElem?_eq_some_iff.mp e
 have:=(List.getElem_inj names_nodup).mp (e2.trans e1.symm)
 omega
theorem GJ (T:TxtR K mg w.params) {f:Addr} {fd:FuncData} (F:Fun K "first_word" "first_word" Cs f fd) (hm:mg "first_word"=some (.ref f)):DFn P w K mg base 1 "first_word" CV:=by
 refine F.data hm (F.binds fun _ _ _ _ _ _ us hl=>match us,hl with | [_],_=>rfl) sc_first_word (fun ds d ⟨_,_,_,_,_,e,_⟩=>by rw [e];rfl) fun cdv A outer s H E ds d hr ⟨j,q,nums,hj,hl,e,e2⟩=>?_
 subst e e2
 have hq:q∈kinds:=List.mem_of_getElem? hj
 have hs:=C6 q hq
 refine Ag (AQ (i:=1) sc_first_word.nd rfl (Or.inl rfl) (AE (evv 0) Ab (Bl (by decide) rfl))) ?_
 refine Ag (Do (ix:=[]) (N:=["part","number"]) (B:=Lb) (as:=q.2.cps.toList.zip nums) (D:=pairD) (fun _=>true) (fun z=>PyData.int (Bj z.1 * z.2)) rfl sc_first_word.nd (i:=2) rfl rfl (of_decide_eq_true (by kernel_rfl)) (Jf (DI (Bd (by decide)) (DI (Bd (by decide)) IO)))
  (NB (LJ (Bq T.t_parts rfl (evv 1) (CJ hq)) (Av (Ig (evv 0) (EC Ab) EA (Dv q.1 nums)) (by rw [IS])) (C9 q hq) (by rw [List.length_map,hl]) rfl T.b_zip) (HF _ _)) (by rw [List.length_zip,sizeLine_eq,Array.length_toList];omega) (fun _ _=>KC _ _) (fun _ _ _ _ _=>B_ rfl (A5 (Au (i:=0) (show List.Nodup (["part","number"]:List Str) by decide +kernel) rfl (Or.inl rfl)) (A5 (Au (i:=1) (show List.Nodup (["part","number"]:List Str) by decide +kernel) rfl (Or.inl rfl)) Bw))) (fun a ha cl C s H fp=>Er)
  (fun a ha hP cl C s H fp=>Ad (Bq T.t_weights rfl (evv 0) (Fj (BC q hq a.1 (List.of_mem_zip ha).1))) (evv 1) (ER (Or.inl ⟨by have:=DD (c:=a.1);omega,by have:=DD (c:=a.1);omega⟩)))) ?_
 refine Ah (Ap (Ad (Ad (Ky T.t_names rfl (evv 1) (Ck hj) (Ha (Ck hj))) Ab (by walk_at "od")) (Aw "sum" (ds:=[.list (((q.2.cps.toList.zip nums).map fun z=>Bj z.1 * z.2).map PyData.int)]) (Aa (Av (evv 2) (by rw [Bg,List.map_map];rfl)) Ac) (KM rfl) rfl T.b_sum (by decide +kernel)) (by walk_at "od")))
def AH (c:Nat) (f s:Int):Int:=if c=110 then s else f / Bj c % Ba c
def Fr (ds:List PyData) (d:PyData):Prop:=∃c f s,EO c∧ds=[.str ⟨#[c]⟩,.int f,.int s]∧d=.int (AH c f s)
theorem HB (T:TxtR K mg w.params) {f:Addr} {fd:FuncData} (F:Fun K "number_in" "number_in" CB f fd) (hm:mg "number_in"=some (.ref f)):DFn P w K mg base 1 "number_in" Fr:=by
 refine F.data hm (F.binds fun _ _ _ _ _ _ us hl=>match us,hl with | [_,_,_],_=>rfl) G4 (fun ds d ⟨_,_,_,_,e,_⟩=>by rw [e];rfl) fun cdv A outer s H E ds d hr ⟨c,fi,se,hc,e,e2⟩=>?_
 subst e e2
 by_cases h110:c=110
 ·subst h110
  exact Ah (A0 (k:=true) (An (evv 0) Ai (Cy (by walk_at "un") (by decide +kernel) (by decide +kernel) (by walk_at "dp") (by decide +kernel)) (Ak _)) (fun _=>Ah (Ap (Av (evv 2) rfl))) (fun h=>by cases h))
 ·have hw:CDiv fi (Bj c):=by
   rcases hc with rfl | rfl | rfl | rfl | rfl
   ·exact ⟨by decide,by decide⟩
   ·exact ⟨by decide,by decide⟩
   ·exact ⟨by decide,by decide⟩
   ·exact ⟨by decide,by decide⟩
   ·exact absurd rfl h110
  have hb:0 < Ba c:=by
   rcases hc with rfl | rfl | rfl | rfl | rfl <;> decide
  have hcl:PyData.canLay0 (.str ⟨#[c]⟩)=true:=by rcases hc with rfl | rfl | rfl | rfl | rfl <;> decide +kernel
  have hne:PyData.eqv (.str ⟨#[c]⟩) (.str "n")=false:=by
   rcases hc with rfl | rfl | rfl | rfl | rfl
   ·decide +kernel
   ·decide +kernel
   ·decide +kernel
   ·decide +kernel
   ·exact absurd rfl h110
  refine Ag (A0 (k:=false) (An (evv 0) Ai (Cy (by walk_at "un") hcl (by decide +kernel) (by walk_at "dp") hne) (Ak _)) (fun h=>by cases h) (fun _=>Ar)) (Ah (Ap (Av (Ad (Ad (evv 1) (Bq T.t_weights rfl (evv 0) (Fj hc)) (Gp hw)) (Bq T.t_bounds rfl (evv 0) (FM hc)) (Be hb)) ?_)))
  unfold AH
  rw [if_neg h110]
theorem Kb {f:Addr} {fd:FuncData} (D_is_below:DFn P w K mg base 1 "is_below" BO) (F:Fun K "is_word" "is_word" Ek f fd) (hm:mg "is_word"=some (.ref f)):DFn P w K mg base 2 "is_word" CU:=by
 refine F.data hm (F.binds fun _ _ _ _ _ _ us hl=>match us,hl with | [_],_=>rfl) IL (fun ds d ⟨_,e,_⟩=>by rw [e];rfl) fun cdv A outer s H E ds d hr ⟨t,e,e2⟩=>?_
 subst e e2
 exact Ah (Ap (Af D_is_below (by walk_at "rm") rfl (Aa (evv 0) (Aa Ab Ac)) ⟨_,_,rfl,rfl⟩))
def kindOf (f:Int):Str×Str:=kinds.getD (f / 256).toNat ("stop","")
def numsOf (f s:Int):List Int:=(kindOf f).2.cps.toList.map fun c=>AH c f s
def BQ (f s:Int):PyData:=if 0≤f∧f < 4096 then (if BG (kindOf f).2 (numsOf f s)=true∧(f / 256) * 256 + A9 (kindOf f).2 (numsOf f s)=f then rowD (kindOf f).1 (numsOf f s) else .none) else .none
def EY (ds:List PyData) (d:PyData):Prop:=∃f s,ds=[.int f,.int s]∧d=BQ f s
theorem Du {f:Int} (h0:0≤f) (h1:f < 4096):kinds[(f / 256).toNat]?=some (kindOf f):=by
 have h:(f / 256).toNat < kinds.length:=by
  have:kinds.length=16:=by decide
  omega
 unfold kindOf
 rw [List.getD_eq_getElem?_getD,List.getElem?_eq_getElem h]
 rfl
theorem Kw (T:TxtR K mg w.params) {f:Addr} {fd:FuncData} (D_is_word:DFn P w K mg base 2 "is_word" CU) (D_is_row:DFn P w K mg base 2 "is_row" DN) (D_first_word:DFn P w K mg base 1 "first_word" CV) (D_number_in:DFn P w K mg base 1 "number_in" Fr)
  (F:Fun K "row_in" "row_in" EG f fd) (hm:mg "row_in"=some (.ref f)):DFn P w K mg base 3 "row_in" EY:=by
 refine F.data hm (F.binds fun _ _ _ _ _ _ us hl=>match us,hl with | [_,_],_=>rfl) sc_row_in (fun ds d ⟨_,_,e,_⟩=>by rw [e];rfl) fun cdv A outer s H E ds d hr ⟨fi,se,e,e2⟩=>?_
 subst e e2
 by_cases hw:¬(0≤fi∧fi < 4096)
 ·have hb:(decide (0≤fi) && decide (fi < 4096))=false:=by
   rw [Bool.eq_false_iff]
   intro z
   rw [Bool.and_eq_true] at z
   exact hw ⟨of_decide_eq_true z.1,of_decide_eq_true z.2⟩
  refine Ah (A0 (k:=true) (Al (AL (AI (Af D_is_word (by walk_at "rm") rfl (Aa (evv 0) Ac) ⟨_,rfl,rfl⟩))) (by rw [show CI (.int fi) 4096=(decide (0≤fi) && decide (fi < 4096)) from rfl,hb];rfl)) (fun _=>Ah (Ap (Av El ?_))) (fun h=>by cases h))
  unfold BQ
  rw [if_neg hw]
 obtain ⟨h0,h1⟩:=Classical.not_not.mp hw
 have hk:=Du h0 h1
 have hq:kindOf fi∈kinds:=List.mem_of_getElem? hk
 have hs:=C6 _ hq
 have hll:(numsOf fi se).length=(kindOf fi).2.cps.size:=by unfold numsOf;rw [List.length_map,Array.length_toList]
 have hjc:(((fi / 256).toNat:Nat):Int)=fi / 256:=Int.toNat_of_nonneg (by omega)
 refine Ag (A0 (k:=false) (Al (AL (AI (Af D_is_word (by walk_at "rm") rfl (Aa (evv 0) Ac) ⟨_,rfl,rfl⟩))) (by rw [show CI (.int fi) 4096=(decide (0≤fi) && decide (fi < 4096)) from rfl,decide_eq_true h0,decide_eq_true h1];rfl)) (fun h=>by cases h) (fun _=>Ar)) ?_
 refine Ag (AQ (i:=2) sc_row_in.nd rfl (by first | exact Or.inl rfl | exact Or.inr rfl) (AE (G5 T.t_names rfl) (Ad (evv 0) Ab (by walk_at "od")) (Bl (d:=.str (kindOf fi).1) (by omega) (by rw [List.getElem?_map,Ck hk];rfl)))) ?_
 refine Ag (AQ (i:=3) sc_row_in.nd rfl (by first | exact Or.inl rfl | exact Or.inr rfl) (Av (Ad (AR (Aa (evv 2) Ac) (by walk_at "sz")) (Iu "tuple" (Aa (Dz (ix:=[0,1]) (N:=["part","first","second"]) (B:=bind1) (as:=(kindOf fi).2.cps.toList) (D:=K9) (fun _=>true) (fun c=>PyData.int (AH c fi se)) rfl (of_decide_eq_true (by kernel_rfl)) (Bd (by decide))
   (Od (Bq T.t_parts rfl (evv 2) (CJ hq)) (C9 _ hq)) (by rw [sizeLine_eq,Array.length_toList];omega) (fun _ _=>D_ _) (fun _ _ _ _ _=>Au (i:=0) (show List.Nodup (["part","first","second"]:List Str) by decide +kernel) rfl (Or.inl rfl)) (fun a ha cl C s H fp=>Er)
   (fun a ha hP cl C s H fp=>Af D_number_in (by walk_at "rm") rfl (Aa (evv 0) (Aa (evv 1) (Aa (evv 2) Ac))) ⟨a,fi,se,BC _ hq a ha,rfl,rfl⟩)) Ac) FT rfl T.b_tuple (by decide +kernel)) (Jr (by simp) (by rw [Bg,sizeLine_eq];simp;omega))) (d':=rowD (kindOf fi).1 (numsOf fi se)) (by rw [Bg];unfold rowD numsOf;rw [List.map_map];rfl))) ?_
 have hrow:∀ok:Bool,BG (kindOf fi).2 (numsOf fi se)=ok→DN [rowD (kindOf fi).1 (numsOf fi se)] (.bool ok):=fun ok h=>⟨_,_,hq,hll,rfl,by rw [h]⟩
 cases hok:BG (kindOf fi).2 (numsOf fi se) with
 | false=>
   refine Ah (A0 (k:=true) (Al (B3 (DK (k':=true) (AL (AI (Af D_is_row (by walk_at "rm") rfl (Aa (evv 3) Ac) (hrow false hok)))) (fun h=>by cases h))) rfl) (fun _=>Ah (Ap (Av El ?_))) (fun h=>by cases h))
   unfold BQ
   rw [if_pos ⟨h0,h1⟩,if_neg (by rw [hok];simp)]
 | true=>
   have hfw:CV [rowD (kindOf fi).1 (numsOf fi se)] (.int (fi / 256 * 256 + A9 (kindOf fi).2 (numsOf fi se))):=⟨_,_,_,hk,hll,rfl,by rw [hjc]⟩
   by_cases he:(fi / 256) * 256 + A9 (kindOf fi).2 (numsOf fi se)=fi
   ·refine Ag (A0 (k:=false) (Al (B3 (DK (AL (AI (Af D_is_row (by walk_at "rm") rfl (Aa (evv 3) Ac) (hrow true hok)))) (fun _=>C8 (An (Af D_first_word (by walk_at "rm") rfl (Aa (evv 3) Ac) hfw) (evv 0) (C_ (k:=false) (by walk_at "un") rfl rfl (by walk_at "dp") (by rw [he];simp [PyData.eqv])) (Ak _))))) rfl) (fun h=>by cases h) (fun _=>Ar)) (Ah (Ap (Av (evv 3) ?_)))
    unfold BQ
    rw [if_pos ⟨h0,h1⟩,if_pos ⟨hok,he⟩]
   ·refine Ah (A0 (k:=true) (Al (B3 (DK (AL (AI (Af D_is_row (by walk_at "rm") rfl (Aa (evv 3) Ac) (hrow true hok)))) (fun _=>C8 (An (Af D_first_word (by walk_at "rm") rfl (Aa (evv 3) Ac) hfw) (evv 0) (C_ (k:=true) (by walk_at "un") rfl rfl (by walk_at "dp") (by simp [PyData.eqv];exact he)) (Ak _))))) rfl) (fun _=>Ah (Ap (Av El ?_))) (fun h=>by cases h))
    unfold BQ
    rw [if_pos ⟨h0,h1⟩,if_neg (fun z=>he z.2)]
def hasN (ps:Str):Bool:=ps.cps.toList.any fun c=>c==110
theorem Jo:∀q∈kinds,(!(Builtin.Str.occurrences q.2 "n" 0 q.2.length 1).isEmpty)=hasN q.2:=by decide +kernel
theorem JX:∀q∈kinds,hasN q.2=true→0 < q.2.cps.size:=by decide +kernel
def wordsOf (j:Nat) (ps:Str) (nums:List Int):List Int:=if hasN ps=true then [(j:Int) * 256 + A9 ps nums,nums.getLastD 0] else [(j:Int) * 256 + A9 ps nums]
def Gq (ds ws:List PyData):Prop:=∃(j:Nat) (q:Str×Str) (nums:List Int),kinds[j]?=some q∧nums.length=q.2.cps.size∧BG q.2 nums=true∧ds=[rowD q.1 nums]∧ws=(wordsOf j q.2 nums).map PyData.int
theorem GF {name:Str} {nums:List Int} (h:0 < nums.length):atI (PyData.str name::nums.map PyData.int) (-1)=some (.int (nums.getLastD 0)):=by
 obtain ⟨l,z,rfl⟩:∃l z,nums=l++[z]:=⟨nums.dropLast,nums.getLast (by intro e;rw [e] at h;cases h),(List.dropLast_concat_getLast _).symm⟩
 have e:PyData.str name::(l++[z]).map PyData.int=(PyData.str name::l.map PyData.int)++[.int z]:=by simp
 rw [e,K5]
 simp
theorem Iz (T:TxtR K mg w.params) {f:Addr} {fd:FuncData} (D_is_row:DFn P w K mg base 2 "is_row" DN) (D_first_word:DFn P w K mg base 1 "first_word" CV) (F:Fun K "cells_of" "cells_of" Df f fd) (hm:mg "cells_of"=some (.ref f)):FFn P w K mg base 3 "cells_of" Gq:=by
 refine F.dataF hm (F.binds fun _ _ _ _ _ _ us hl=>match us,hl with | [_],_=>rfl) Hv (fun ds d ⟨_,_,_,_,_,_,e,_⟩=>by rw [e];rfl) fun cdv A outer s H E ds ws hr ⟨j,q,nums,hj,hl,hok,e,e2⟩=>?_
 subst e e2
 have hq:q∈kinds:=List.mem_of_getElem? hj
 refine Js (A0 (k:=false) (AL (k:=true) (AI (Af D_is_row (by walk_at "rm") rfl (Aa (evv 0) Ac) ⟨_,_,hq,hl,rfl,by rw [hok]⟩))) (fun h=>by cases h) (fun _=>Ar)) ?_
 have hfw:CV [rowD q.1 nums] (.int ((j:Int) * 256 + A9 q.2 nums)):=⟨_,_,_,hj,hl,rfl,rfl⟩
 cases hn:hasN q.2 with
 | true=>
   have hp:=JX q hq hn
   refine Pe (An Ai (Bq T.t_parts rfl (AE (evv 0) Ab (Bl (by decide) rfl)) (CJ hq)) (Lh ((Jo q hq).trans hn)) (by with_unfolding_all rfl)) ?_
   have e:(wordsOf j q.2 nums).map PyData.int=[.int ((j:Int) * 256 + A9 q.2 nums),.int (nums.getLastD 0)]:=by unfold wordsOf;rw [if_pos hn];rfl
   rw [e]
   exact Lw (Aa (Af D_first_word (by walk_at "rm") rfl (Aa (evv 0) Ac) hfw) (Aa (AE (evv 0) (KN Ab) (GF (by omega))) Ac)) (by walk_at "sz")
 | false=>
   refine Js (A0 (k:=false) (An Ai (Bq T.t_parts rfl (AE (evv 0) Ab (Bl (by decide) rfl)) (CJ hq)) (Lh ((Jo q hq).trans hn)) (by with_unfolding_all rfl)) (fun h=>by cases h) (fun _=>Ar)) ?_
   have e:(wordsOf j q.2 nums).map PyData.int=[.int ((j:Int) * 256 + A9 q.2 nums)]:=by unfold wordsOf;rw [if_neg (by rw [hn];simp)];rfl
   rw [e]
   exact Lw (Aa (Af D_first_word (by walk_at "rm") rfl (Aa (evv 0) Ac) hfw) Ac) (by walk_at "sz")
abbrev BS (f s:Int):Prop:=BG (kindOf f).2 (numsOf f s)=true∧(f / 256) * 256 + A9 (kindOf f).2 (numsOf f s)=f
theorem Dm {f s:Int} (h0:0≤f) (h1:f < 4096) (h:BS f s):BQ f s=rowD (kindOf f).1 (numsOf f s):=by
 unfold BQ
 rw [if_pos ⟨h0,h1⟩,if_pos h]
theorem JH {f s:Int} (h:¬(0≤f∧f < 4096∧BS f s)):BQ f s=.none:=by
 unfold BQ
 by_cases hw:0≤f∧f < 4096
 ·rw [if_pos hw,if_neg fun z=>h ⟨hw.1,hw.2,z⟩]
 ·rw [if_neg hw]
def Bs (f:Int):Int:=if 0≤f∧f < 4096∧BS f 0 then (if hasN (kindOf f).2=true then 2 else 1) else 0
def L5 (ds:List PyData) (d:PyData):Prop:=∃f,ds=[.int f]∧d=.int (Bs f)
theorem GX (T:TxtR K mg w.params) {f:Addr} {fd:FuncData} (D_row_in:DFn P w K mg base 3 "row_in" EY) (D_cells_of:DFn P w K mg base 3 "cells_of" (fun ds d=>∃ws,Gq ds ws∧d=.list ws)) (F:Fun K "cells_from" "cells_from" Cu f fd) (hm:mg "cells_from"=some (.ref f)):DFn P w K mg base 4 "cells_from" L5:=by
 refine F.data hm (F.binds fun _ _ _ _ _ _ us hl=>match us,hl with | [_],_=>rfl) sc_cells_from (fun ds d ⟨_,e,_⟩=>by rw [e];rfl) fun cdv A outer s H E ds d hr ⟨fi,e,e2⟩=>?_
 subst e e2
 refine Ag (AQ (i:=1) sc_cells_from.nd rfl (Or.inl rfl) (Af D_row_in (by walk_at "rm") rfl (Aa (evv 0) (Aa Ab Ac)) ⟨fi,0,rfl,rfl⟩)) ?_
 by_cases hg:0≤fi∧fi < 4096∧BS fi 0
 ·obtain ⟨h0,h1,h2⟩:=id hg
  rw [Dm h0 h1 h2]
  have hk:=Du h0 h1
  have hll:(numsOf fi 0).length=(kindOf fi).2.cps.size:=by unfold numsOf;rw [List.length_map,Array.length_toList]
  refine Ag (A0 (k:=false) (Gz (evv 1) rfl) (fun h=>by cases h) (fun _=>Ar)) (Ah (Ap (Av (Aw "len" (Aa (Af D_cells_of (by walk_at "rm") rfl (Aa (evv 1) Ac) ⟨_,⟨_,_,_,hk,hll,h2.1,rfl,rfl⟩,rfl⟩) Ac) GI rfl T.b_len (by decide +kernel)) ?_)))
  unfold Bs wordsOf
  rw [if_pos hg,List.length_map]
  cases hasN (kindOf fi).2 <;> rfl
 ·rw [JH hg]
  refine Ah (A0 (k:=true) (Gz (evv 1) rfl) (fun _=>Ah (Ap (Av Ab ?_))) (fun h=>by cases h))
  unfold Bs
  rw [if_neg hg]
def By (q:Bool×Bool×Bool):PyData:=.tuple [.bool q.1,.bool q.2.1,.bool q.2.2]
def NI (q:Bool×Bool×Bool) (r:Int):Bool:=if r=0 then q.1 else if r=1 then q.2.1 else q.2.2
def Ax (ps:List (Bool×Bool×Bool)) (c r:Int):Bool:=decide (0≤c) && decide (c < 16 * (ps.length:Int)) && NI (ps.getD (c / 16).toNat (false,false,false)) r
theorem Lc {ps:List (Bool×Bool×Bool)} {i:Int} (h0:0≤i) (h:i < ps.length):atI (ps.map By) i=some (By (ps.getD i.toNat (false,false,false))):=by
 have hi:i.toNat < ps.length:=by omega
 exact Bl h0 (by simp [hi])
theorem Ms {q:Bool×Bool×Bool} {r:Int} (h0:0≤r) (h1:r < 3):atI [PyData.bool q.1,.bool q.2.1,.bool q.2.2] r=some (.bool (NI q r)):=by
 have h:r=0∨r=1∨r=2:=by omega
 rcases h with rfl | rfl | rfl <;> rfl
def BX (ds:List PyData) (d:PyData):Prop:=∃ps c r,ds=[.list (ps.map By),.int c,.int r]∧ps.length≤8∧0≤r∧r < 3∧d=.bool (Ax ps c r)
theorem Hl (T:Txt mg) {f:Addr} {fd:FuncData} (D_is_below:DFn P w K mg base 1 "is_below" BO) (F:Fun K "has_right" "has_right" C4 f fd) (hm:mg "has_right"=some (.ref f)):DFn P w K mg base 2 "has_right" BX:=by
 refine F.data hm (F.binds fun _ _ _ _ _ _ us hl=>match us,hl with | [_,_,_],_=>rfl) Gi (fun ds d ⟨_,_,_,e,_⟩=>by rw [e];rfl) fun cdv A outer s H E ds d hr ⟨ps,c,r,e,hp,h0,h1,e2⟩=>?_
 subst e e2
 have hlm:((List.map By ps).length:Int)=ps.length:=by rw [List.length_map]
 by_cases hc:0≤c∧c < 16 * (ps.length:Int)
 ·obtain ⟨hc0,hc1⟩:=hc
  have i0:0≤c / 16:=by omega
  have i1:c / 16 < ps.length:=by omega
  refine Ah (Ap (B5 (k:=true) (Av (Af D_is_below (by walk_at "rm") rfl (Aa (evv 1) (Aa (Ad (T.g_page_cells rfl) (Aw "len" (Aa (evv 0) Ac) (by walk_at "cd") rfl T.b_len (by decide +kernel)) (by walk_at "od")) Ac)) (by walk_at "fn")) (by rw [hlm,show CI (.int c) (16 * (ps.length:Int))=(decide (0≤c) && decide (c < 16 * (ps.length:Int))) from rfl,decide_eq_true hc0,decide_eq_true hc1];rfl)) (fun _=>C3 ?_) (fun h=>by cases h)))
  refine Av (AE (Av (AC (evv 0) (Ad (evv 1) (T.g_page_cells rfl) (by walk_at "od")) (Lc i0 i1)) (show _=PyData.tuple [_,_,_] from rfl)) (evv 2) (Ms h0 h1)) ?_
  unfold Ax
  rw [decide_eq_true hc0,decide_eq_true hc1]
  rfl
 ·have hb:(decide (0≤c) && decide (c < 16 * (ps.length:Int)))=false:=by
   rw [Bool.eq_false_iff]
   intro z
   rw [Bool.and_eq_true] at z
   exact hc ⟨of_decide_eq_true z.1,of_decide_eq_true z.2⟩
  refine Ah (Ap (B5 (k:=false) (Av (Af D_is_below (by walk_at "rm") rfl (Aa (evv 1) (Aa (Ad (T.g_page_cells rfl) (Aw "len" (Aa (evv 0) Ac) (by walk_at "cd") rfl T.b_len (by decide +kernel)) (by walk_at "od")) Ac)) (by walk_at "fn")) (by rw [hlm,show CI (.int c) (16 * (ps.length:Int))=(decide (0≤c) && decide (c < 16 * (ps.length:Int))) from rfl,hb])) (fun h=>by cases h) (fun _=>?_)))
  unfold Ax
  rw [hb]
  rfl
def EK (r:Int) (ds:List PyData) (d:PyData):Prop:=∃ps c,ds=[.list (ps.map By),.int c]∧ps.length≤8∧d=.bool (Ax ps c r)
theorem IK {f:Addr} {fd:FuncData} (D_has_right:DFn P w K mg base 2 "has_right" BX) (F:Fun K "may_read" "may_read" Dt f fd) (hm:mg "may_read"=some (.ref f)):DFn P w K mg base 3 "may_read" (EK 0):=by
 refine F.data hm (F.binds fun _ _ _ _ _ _ us hl=>match us,hl with | [_,_],_=>rfl) HR (fun ds d ⟨_,_,e,_⟩=>by rw [e];rfl) fun cdv A outer s H E ds d hr ⟨ps,c,e,hp,e2⟩=>?_
 subst e e2
 exact Ah (Ap (Af D_has_right (by walk_at "rm") rfl (Aa (evv 0) (Aa (evv 1) (Aa Ab Ac))) ⟨ps,c,0,rfl,hp,by decide,by decide,rfl⟩))
theorem HJ {f:Addr} {fd:FuncData} (D_has_right:DFn P w K mg base 2 "has_right" BX) (F:Fun K "may_write" "may_write" CA f fd) (hm:mg "may_write"=some (.ref f)):DFn P w K mg base 3 "may_write" (EK 1):=by
 refine F.data hm (F.binds fun _ _ _ _ _ _ us hl=>match us,hl with | [_,_],_=>rfl) G0 (fun ds d ⟨_,_,e,_⟩=>by rw [e];rfl) fun cdv A outer s H E ds d hr ⟨ps,c,e,hp,e2⟩=>?_
 subst e e2
 exact Ah (Ap (Af D_has_right (by walk_at "rm") rfl (Aa (evv 0) (Aa (evv 1) (Aa Ab Ac))) ⟨ps,c,1,rfl,hp,by decide,by decide,rfl⟩))
theorem Kh {f:Addr} {fd:FuncData} (D_has_right:DFn P w K mg base 2 "has_right" BX) (F:Fun K "may_run" "may_run" DX f fd) (hm:mg "may_run"=some (.ref f)):DFn P w K mg base 3 "may_run" (EK 2):=by
 refine F.data hm (F.binds fun _ _ _ _ _ _ us hl=>match us,hl with | [_,_],_=>rfl) Im (fun ds d ⟨_,_,e,_⟩=>by rw [e];rfl) fun cdv A outer s H E ds d hr ⟨ps,c,e,hp,e2⟩=>?_
 subst e e2
 exact Ah (Ap (Af D_has_right (by walk_at "rm") rfl (Aa (evv 0) (Aa (evv 1) (Aa Ab Ac))) ⟨ps,c,2,rfl,hp,by decide,by decide,rfl⟩))
local macro_rules | `(tactic| walk_at "nk")=>`(tactic| first | decide | (simp only [List.map_append,List.map_cons,List.map_nil,List.nil_append,List.cons_append,List.length_append,List.length_cons,List.length_nil];decide))
def okW (l:List Int):Bool:=l.all fun i=>decide (0≤i) && decide (i < 4096)
def NT (ds:List PyData) (d:PyData):Prop:=∃(l:List Int) (m:Int),l.length≤100000∧ds=[.list (l.map PyData.int),.int m]∧d=.bool (decide ((l.length:Int)=m) && okW l)
theorem Gj (i j:Int):PyData.eqv (.int i) (.int j)=decide (i=j):=by
 simp only [PyData.eqv]
 rfl
theorem He (T:Txt mg) {f:Addr} {fd:FuncData} (D_is_word:DFn P w K mg base 2 "is_word" CU) (F:Fun K "are_words" "are_words" C5 f fd) (hm:mg "are_words"=some (.ref f)):DFn P w K mg base 3 "are_words" NT:=by
 refine F.data hm (F.binds fun _ _ _ _ _ _ us hl=>match us,hl with | [_,_],_=>rfl) GE (fun ds d ⟨_,_,_,e,_⟩=>by rw [e];rfl) fun cdv A outer s H E ds d hr ⟨l,m,hl,e,e2⟩=>?_
 subst e e2
 refine Ah (Ap (B5 (k:=decide ((l.length:Int)=m)) (Av (Bf (Aw "len" (Aa (evv 0) Ac) (by walk_at "cd") rfl T.b_len (by decide +kernel)) (evv 1) (by walk_at "od") (Ak _)) (by rw [Gj,List.length_map])) (fun h=>C3 (Av (Aw "all" (ds:=[.list ((l.map fun i=>decide (0≤i) && decide (i < 4096)).map PyData.bool)]) (Aa (Av (Dz (ix:=[]) (N:=["thing"]) (B:=bind1) (as:=l) (D:=PyData.int) (fun _=>true) (fun i=>PyData.bool (decide (0≤i) && decide (i < 4096))) rfl (of_decide_eq_true (by kernel_rfl)) (Bd (by decide)) (J3 (evv 0)) (by rw [sizeLine_eq];omega) (fun _ _=>D_ _) (fun _ _ _ _ _=>Au (i:=0) (show List.Nodup (["thing"]:List Str) by decide +kernel) rfl (Or.inl rfl)) (fun a ha cl C s H fp=>Er) (fun a ha hP cl C s H fp=>Af D_is_word (by walk_at "rm") rfl (Aa (evv 0) Ac) ⟨a,rfl,rfl⟩)) (by rw [Bg,List.map_map];rfl)) Ac) (IF rfl) rfl T.b_all (by decide +kernel)) ?_)) ?_))
 ·rw [h,Bool.true_and,List.all_map]
  rfl
 ·intro h
  rw [h]
  rfl
theorem HC (n:Nat):(decide ((1:Int)≤(n:Int)) && decide ((n:Int)≤8))=decide (1≤n∧n≤8):=by
 by_cases h1:1≤n <;> by_cases h2:n≤8 <;> simp [h1,h2] <;> omega
structure MS where
 pg:List (Bool×Bool×Bool)
 mem:List Int
 bx:List Int
 here:Int
 tz:Bool
 tl:Bool
 told:List Int
 sto:List Int
 done:Int
structure MsOk (S:MS):Prop where
 p1:1≤S.pg.length
 p8:S.pg.length≤8
 ml:S.mem.length=16 * S.pg.length
 mw:∀z∈S.mem,0≤z∧z < 4096
 bl:S.bx.length=4
 bw:∀z∈S.bx,0≤z∧z < 4096
 h:0≤S.here∧S.here < 4096
def lfM (S:MS):LF:=[("rights",S.pg.map By),("memory",S.mem.map PyData.int),("box_words",S.bx.map PyData.int),("told_words",S.told.map PyData.int),("stored_cells",S.sto.map PyData.int)]
def dfM (S:MS):DF:=[("here",.int S.here),("truth_pair",.tuple [.bool S.tz,.bool S.tl]),("done_count",.int S.done)]
abbrev mcD (C:Addr) (S:MS):PyData:=objD C (fldD (lfM S) (dfM S))
theorem LH {l:List Int} (h:∀z∈l,0≤z∧z < 4096):okW l=true:=by
 unfold okW
 rw [List.all_eq_true]
 intro z hz
 rw [Bool.and_eq_true,decide_eq_true_iff,decide_eq_true_iff]
 exact h z hz
theorem Fv (T:Txt mg) {f:Addr} {fd:FuncData} (F:Fun K "check_pages" "check_pages" Cg f fd) (hm:mg "check_pages"=some (.ref f)):DFn P w K mg base 1 "check_pages" (fun ds d=>(∃ps:List PyData,1≤ps.length∧ps.length≤8∧ds=[.list ps])∧d=.none):=by
 refine F.dataN hm (F.binds fun _ _ _ _ _ _ us hl=>match us,hl with | [_],_=>rfl) Fh (fun ds ⟨_,_,_,e⟩=>by rw [e];rfl) fun cdv A outer s H E ds hr ⟨ps,h1,h8,e⟩=>?_
 subst e
 refine ⟨_,Ag (A0 (k:=false) (AL (k:=true) (Al (JC K1 K1 Ab (Aw "len" (Aa (evv 0) Ac) (by walk_at "cd") rfl T.b_len (by decide +kernel)) Ab) ?_)) (fun h=>by cases h) (fun _=>Ar)) Ar⟩
 rw [HC]
 exact decide_eq_true ⟨h1,h8⟩
def NL (ds:List PyData):Prop:=∃S:MS,MsOk S∧ds=[.list (S.pg.map By),.list (S.mem.map PyData.int),.list (S.bx.map PyData.int),.int S.here]
theorem Fu (T:Txt mg) (D_check_pages:DFn P w K mg base 1 "check_pages" (fun ds d=>(∃ps:List PyData,1≤ps.length∧ps.length≤8∧ds=[.list ps])∧d=.none)) (D_are_words:DFn P w K mg base 3 "are_words" NT) (D_is_word:DFn P w K mg base 2 "is_word" CU) {f:Addr} {fd:FuncData} (F:Fun K "check_state" "check_state" Ca f fd) (hm:mg "check_state"=some (.ref f)):DFn P w K mg base 4 "check_state" (fun ds d=>NL ds∧d=.none):=by
 refine F.dataN hm (F.binds fun _ _ _ _ _ _ us hl=>match us,hl with | [_,_,_,_],_=>rfl) EZ (fun ds ⟨_,_,e⟩=>by rw [e];rfl) fun cdv A outer s H E ds hr ⟨S,ok,e⟩=>?_
 subst e
 have hlm:((S.pg.map By).length:Int)=S.pg.length:=by rw [List.length_map]
 have h1:(decide ((S.mem.length:Int)=16 * ((S.pg.map By).length:Int)) && okW S.mem)=true:=by rw [hlm,LH ok.mw,decide_eq_true (by have:=ok.ml;omega)];rfl
 have h2:(decide ((S.bx.length:Int)=4) && okW S.bx)=true:=by rw [LH ok.bw,decide_eq_true (by have:=ok.bl;omega)];rfl
 have h3:CI (.int S.here) 4096=true:=by simpa [CI] using ok.h
 have l1:S.mem.length≤100000:=by have:=ok.ml;have:=ok.p8;omega
 have l2:S.bx.length≤100000:=by have:=ok.bl;omega
 refine ⟨AO ["pages","cells","boxes","place"] [.list (S.pg.map By),.list (S.mem.map PyData.int),.list (S.bx.map PyData.int),.int S.here],Ag (Mm (Af D_check_pages (d:=.none) (by walk_at "rm") rfl (Aa (evv 0) Ac) ⟨⟨_,by rw [List.length_map];exact ok.p1,by rw [List.length_map];exact ok.p8,rfl⟩,rfl⟩)) ?_⟩
 refine Ag (A0 (k:=false) (AL (k:=true) (AI (Af D_are_words (by walk_at "rm") rfl (Aa (evv 1) (Aa (Ad (T.g_page_cells rfl) (Aw "len" (Aa (evv 0) Ac) (by walk_at "cd") rfl T.b_len (by decide +kernel)) (by walk_at "od")) Ac)) ⟨S.mem,_,l1,rfl,by rw [h1]⟩))) (fun h=>by cases h) (fun _=>Ar)) ?_
 refine Ag (A0 (k:=false) (AL (k:=true) (AI (Af D_are_words (by walk_at "rm") rfl (Aa (evv 2) (Aa Ab Ac)) ⟨S.bx,_,l2,rfl,by rw [h2]⟩))) (fun h=>by cases h) (fun _=>Ar)) ?_
 exact Ag (A0 (k:=false) (AL (k:=true) (AI (Af D_is_word (by walk_at "rm") rfl (Aa (evv 3) Ac) ⟨_,rfl,by rw [h3]⟩))) (fun h=>by cases h) (fun _=>Ar)) Ar
structure ClsM (K:PySem.W.Frag) (mg:Str→Option Value) (C:Addr):Prop where
 cl:Cls K C
 n0:NoAttr K C "rights"
 n1:NoAttr K C "memory"
 n2:NoAttr K C "box_words"
 n3:NoAttr K C "here"
 n4:NoAttr K C "truth_pair"
 n5:NoAttr K C "told_words"
 n6:NoAttr K C "stored_cells"
 n7:NoAttr K C "done_count"
 at_:mg "Machine"=some (.ref C)
theorem C7:∀l:List Int,noLs (l.map PyData.int)=true
 | []=>rfl
 | x::r=>by rw [List.map_cons];unfold noLs;rw [C7 r];rfl
theorem FH:∀l:List (Bool×Bool×Bool),noLs (l.map By)=true
 | []=>rfl
 | x::r=>by rw [List.map_cons];unfold noLs;rw [FH r];rfl
def Qi (ds:List PyData) (lf:LF) (df:DF):Prop:=∃S:MS,MsOk S∧S.tz=false∧S.tl=false∧S.told=[]∧S.sto=[]∧S.done=0∧ds=[.list (S.pg.map By),.list (S.mem.map PyData.int),.list (S.bx.map PyData.int),.int S.here]∧lf=lfM S∧df=dfM S
theorem NZ (T:Txt mg) {C:Addr} (CM:ClsM K mg C) (D_check_state:DFn P w K mg base 4 "check_state" (fun ds d=>NL ds∧d=.none)) {f:Addr} {fd:FuncData} (F:Fun K "__init__" "Machine.__init__" BP f fd) (hm:Mk K C f):OIFn P w K mg base 5 C Qi:=by
 refine F.objI hm (F.binds fun _ _ _ _ _ _ us hl=>match us,hl with | [_,_,_,_,_],_=>rfl) Ez (fun ds lf df ⟨_,_,_,_,_,_,_,e,_⟩=>by rw [e];rfl) fun cdv A outer s H E a dx H0 ds lf df hr ⟨S,ok,e1,e2,e3,e4,e5,e,e6,e7⟩=>?_
 subst e e6 e7
 have ef:lfM S=([("rights",S.pg.map By),("memory",S.mem.map PyData.int),("box_words",S.bx.map PyData.int),("told_words",[]),("stored_cells",[])]:LF):=by unfold lfM;rw [e3,e4];rfl
 have ed:dfM S=([("here",.int S.here),("truth_pair",.tuple [.bool false,.bool false]),("done_count",.int 0)]:DF):=by unfold dfM;rw [e1,e2,e5]
 rw [ef,ed]
 have l1:S.mem.length≤100000:=by have:=ok.ml;have:=ok.p8;omega
 refine Bp (ME (Af D_check_state (d:=.none) (by walk_at "rm") rfl (Aa (evv 1) (Aa (evv 2) (Aa (evv 3) (Aa (evv 4) Ac)))) ⟨⟨S,ok,rfl⟩,rfl⟩)) ?_
 refine Bp (ET CM.cl CM.n0 (pv 0) (Bh (evv 1) rfl T.b_list) (FH _) (by walk_at "nk") (by walk_at "nk") (by decide) (by walk_at "nk")) ?_
 refine Bp (ET CM.cl CM.n1 (pv 0) (Bh (evv 2) rfl T.b_list) (C7 _) (by walk_at "nk") (by walk_at "nk") (by decide) (by walk_at "nk")) ?_
 refine Bp (ET CM.cl CM.n2 (pv 0) (Bh (evv 3) rfl T.b_list) (C7 _) (by walk_at "nk") (by walk_at "nk") (by decide) (by walk_at "nk")) ?_
 refine Bp (IJ CM.cl CM.n3 (pv 0) (evv 4) rfl (by walk_at "nk") (by walk_at "nk") (by decide) (by walk_at "nk")) ?_
 refine Bp (IJ CM.cl CM.n4 (pv 0) (AR (ds:=[.bool false,.bool false]) (Aa FZ (Aa FZ Ac)) (by walk_at "sz")) rfl (by walk_at "nk") (by walk_at "nk") (by decide) (by walk_at "nk")) ?_
 refine Bp (ET CM.cl CM.n5 (pv 0) (Jb (ws:=[]) Ac (by walk_at "sz")) rfl (by walk_at "nk") (by walk_at "nk") (by decide) (by walk_at "nk")) ?_
 refine Bp (ET CM.cl CM.n6 (pv 0) (Jb (ws:=[]) Ac (by walk_at "sz")) rfl (by walk_at "nk") (by walk_at "nk") (by decide) (by walk_at "nk")) ?_
 exact Bp (IJ CM.cl CM.n7 (pv 0) Ab rfl (by walk_at "nk") (by walk_at "nk") (by decide) (by walk_at "nk")) No
end
section
variable {P:Program} {w:World} {K:PySem.W.Frag} {mg:Str→Option Value} {base:Heap}
theorem Oy {X:Cx} {i j:Int}:OD X (binaryOp .BitAnd) (.int i) (.int j) (.int (Builtin.bitAnd i j)):=CO Om fun H=>.int _
theorem EF {α:Type} (l:List Nat) (g:Nat→α) (p:Nat×α→Bool):(l.zip (l.map g)).all p=l.all fun c=>p (c,g c):=by
 induction l with
 | nil=>rfl
 | cons x r ih=>rw [List.map_cons,List.zip_cons_cons,List.all_cons,List.all_cons,ih]
theorem Hn {α β:Type} (l:List Nat) (g:Nat→α) (p:Nat×α→β):(l.zip (l.map g)).map p=l.map fun c=>p (c,g c):=by
 induction l with
 | nil=>rfl
 | cons x r ih=>rw [List.map_cons,List.zip_cons_cons,List.map_cons,List.map_cons,ih]
theorem En {f s:Int} (s0:0≤s) (s1:s < 4096) (h:BS f 0):BS f s:=by
 obtain ⟨h1,h2⟩:=h
 refine ⟨?_,?_⟩
 ·rw [←h1]
  unfold BG numsOf
  rw [EF,EF]
  congr 1
  funext c
  by_cases hc:c=110
  ·subst hc
   show (decide (0≤s) && decide (s < 4096))=(decide ((0:Int)≤0) && decide ((0:Int) < 4096))
   rw [decide_eq_true s0,decide_eq_true s1]
   rfl
  ·show (decide (0≤AH c f s) && decide (AH c f s < Ba c))=(decide (0≤AH c f 0) && decide (AH c f 0 < Ba c))
   unfold AH
   rw [if_neg hc,if_neg hc]
 ·have e:A9 (kindOf f).2 (numsOf f s)=A9 (kindOf f).2 (numsOf f 0):=by
   unfold A9 numsOf
   rw [Hn,Hn]
   congr 1
   refine List.map_congr_left fun c _=>?_
   by_cases hc:c=110
   ·subst hc
    show (0:Int) * s=0 * 0
    omega
   ·show Bj c * AH c f s=Bj c * AH c f 0
    unfold AH
    rw [if_neg hc,if_neg hc]
  rw [e]
  exact h2
def Ao (m:List Int) (p:Int):Int:=m.getD p.toNat 0
def AU (pg:List (Bool×Bool×Bool)) (m:List Int) (p:Int):PyData:=
 if Ax pg p 2=false then .tuple [.str "run",.none]
 else if Bs (Ao m p)=0 then .tuple [.str "row",.none]
 else if Bs (Ao m p)=1 then .tuple [.str "",BQ (Ao m p) 0]
 else if Ax pg ((p + 1) % 4096) 2=false then .tuple [.str "run",.none]
 else .tuple [.str "",BQ (Ao m p) (Ao m ((p + 1) % 4096))]
theorem DH {pg:List (Bool×Bool×Bool)} {c r:Int} (h:Ax pg c r=true):0≤c∧c < 16 * (pg.length:Int):=by
 unfold Ax at h
 rw [Bool.and_eq_true,Bool.and_eq_true,decide_eq_true_iff,decide_eq_true_iff] at h
 exact h.1
theorem GR {S:MS} (ok:MsOk S) (p:Int):0≤Ao S.mem p∧Ao S.mem p < 4096:=by
 unfold Ao
 rw [List.getD_eq_getElem?_getD]
 cases e:S.mem[p.toNat]? with
 | none=>exact show (0:Int)≤0∧(0:Int) < 4096 by decide
 | some y=>exact ok.mw y (List.mem_of_getElem? e)
theorem JP {f:Int} (h:Bs f≠0):0≤f∧f < 4096∧BS f 0:=by
 unfold Bs at h
 by_cases g:0≤f∧f < 4096∧BS f 0
 ·exact g
 ·rw [if_neg g] at h;exact absurd rfl h
def IsRow (q:Str×Str) (nums:List Int) (j:Nat):Prop:=kinds[j]?=some q∧nums.length=q.2.cps.size∧BG q.2 nums=true
theorem FW {S:MS} (ok:MsOk S) (p:Int):(∃wd:Str,(wd="run"∨wd="row")∧AU S.pg S.mem p=.tuple [.str wd,.none])∨∃j q nums,IsRow q nums j∧AU S.pg S.mem p=.tuple [.str "",rowD q.1 nums]:=by
 unfold AU
 split
 ·exact .inl ⟨_,.inl rfl,rfl⟩
 ·split
  ·exact .inl ⟨_,.inr rfl,rfl⟩
  ·rename_i hm
   obtain ⟨f0,f1,fg⟩:=JP hm
   have row:∀s,0≤s→s < 4096→∃j q nums,IsRow q nums j∧PyData.tuple [.str "",BQ (Ao S.mem p) s]=.tuple [.str "",rowD q.1 nums]:=fun s s0 s1=>by
    have g:=En s0 s1 fg
    exact ⟨_,_,_,⟨Du f0 f1,by unfold numsOf;rw [List.length_map,Array.length_toList],g.1⟩,by rw [Dm f0 f1 g]⟩
   split
   ·exact .inr (row 0 (by decide) (by decide))
   ·split
    ·exact .inl ⟨_,.inl rfl,rfl⟩
    ·exact .inr (row _ (GR ok _).1 (GR ok _).2)
def N9 (ds:List PyData) (d:PyData):Prop:=∃S:MS,MsOk S∧ds=[.list (S.pg.map By),.list (S.mem.map PyData.int),.int S.here]∧d=AU S.pg S.mem S.here
theorem LY (T:Txt mg) (D_may_run:DFn P w K mg base 3 "may_run" (EK 2)) (D_cells_from:DFn P w K mg base 4 "cells_from" L5) (D_row_in:DFn P w K mg base 3 "row_in" EY) {f:Addr} {fd:FuncData} (F:Fun K "row_at" "row_at" DL f fd) (hm:mg "row_at"=some (.ref f)):DFn P w K mg base 5 "row_at" N9:=by
 refine F.data hm (F.binds fun _ _ _ _ _ _ us hl=>match us,hl with | [_,_,_],_=>rfl) sc_row_at (fun ds d ⟨_,_,e,_⟩=>by rw [e];rfl) fun cdv A outer s H E ds d hr ⟨S,ok,e,e2⟩=>?_
 subst e
 have at_:∀{c:Int},Ax S.pg c 2=true→atI (S.mem.map PyData.int) c=some (.int (Ao S.mem c)):=fun {c} h=>by
  have hh:=DH h
  exact BA hh.1 (by have:=ok.ml;omega)
 have may:∀c:Int,∀b:Bool,Ax S.pg c 2=b→EK 2 [.list (S.pg.map By),.int c] (.bool b):=fun c b h=>⟨S.pg,c,rfl,ok.p8,by rw [h]⟩
 unfold AU at e2
 cases hr1:Ax S.pg S.here 2 with
 | false=>
   rw [if_pos hr1] at e2
   subst e2
   exact Ah (A0 (k:=true) (AL (k:=false) (AI (Af D_may_run (by walk_at "rm") rfl (Aa (evv 0) (Aa (evv 2) Ac)) (may _ _ hr1)))) (fun _=>Ah (Ap (AR (ds:=[.str "run",.none]) (Aa Ai (Aa El Ac)) (by walk_at "sz")))) (fun h=>by cases h))
 | true=>
   rw [if_neg (by rw [hr1];decide)] at e2
   refine Ag (A0 (k:=false) (AL (k:=true) (AI (Af D_may_run (by walk_at "rm") rfl (Aa (evv 0) (Aa (evv 2) Ac)) (may _ _ hr1)))) (fun h=>by cases h) (fun _=>Ar)) ?_
   refine Ag (AQ (i:=3) (d:=.int (Bs (Ao S.mem S.here))) sc_row_at.nd rfl (Or.inl rfl) (Af D_cells_from (by walk_at "rm") rfl (Aa (AC (evv 1) (evv 2) (at_ hr1)) Ac) ⟨_,rfl,rfl⟩)) ?_
   have eqz:∀n m:Int,OD (cxOf CX0 P w K mg base ["pages","cells","place","many","second"] "row_at" (Ae DL) f cdv A outer s H E).nox (compareOp .Eq) (.int n) (.int m) (.bool (decide (n=m))):=fun n m=>Cy (by walk_at "un") rfl rfl (by walk_at "dp") (Gj n m)
   by_cases h0:Bs (Ao S.mem S.here)=0
   ·rw [if_pos h0] at e2
    subst e2
    exact Ah (A0 (k:=true) (Al (An (evv 3) Ab (eqz _ _) (Ak _)) (decide_eq_true h0)) (fun _=>Ah (Ap (AR (ds:=[.str "row",.none]) (Aa Ai (Aa El Ac)) (by walk_at "sz")))) (fun h=>by cases h))
   ·rw [if_neg h0] at e2
    refine Ag (A0 (k:=false) (Al (An (evv 3) Ab (eqz _ _) (Ak _)) (decide_eq_false h0)) (fun h=>by cases h) (fun _=>Ar)) ?_
    by_cases h1:Bs (Ao S.mem S.here)=1
    ·rw [if_pos h1] at e2
     subst e2
     exact Ah (A0 (k:=true) (Al (An (evv 3) Ab (eqz _ _) (Ak _)) (decide_eq_true h1)) (fun _=>Ah (Ap (AR (ds:=[.str "",BQ (Ao S.mem S.here) 0]) (Aa Ai (Aa (Af D_row_in (by walk_at "rm") rfl (Aa (AC (evv 1) (evv 2) (at_ hr1)) (Aa Ab Ac)) ⟨_,_,rfl,rfl⟩) Ac)) (by walk_at "sz")))) (fun h=>by cases h))
    ·rw [if_neg h1] at e2
     refine Ag (A0 (k:=false) (Al (An (evv 3) Ab (eqz _ _) (Ak _)) (decide_eq_false h1)) (fun h=>by cases h) (fun _=>Ar)) ?_
     refine Ag (AQ (i:=4) (d:=.int ((S.here + 1) % 4096)) sc_row_at.nd rfl (Or.inl rfl) (Ad (Ad (evv 2) Ab (by walk_at "od")) Ab (by walk_at "od"))) ?_
     cases hr2:Ax S.pg ((S.here + 1) % 4096) 2 with
     | false=>
       rw [if_pos hr2] at e2
       subst e2
       exact Ah (A0 (k:=true) (AL (k:=false) (AI (Af D_may_run (by walk_at "rm") rfl (Aa (evv 0) (Aa (evv 4) Ac)) (may _ _ hr2)))) (fun _=>Ah (Ap (AR (ds:=[.str "run",.none]) (Aa Ai (Aa El Ac)) (by walk_at "sz")))) (fun h=>by cases h))
     | true=>
       rw [if_neg (by rw [hr2];decide)] at e2
       subst e2
       exact Ag (A0 (k:=false) (AL (k:=true) (AI (Af D_may_run (by walk_at "rm") rfl (Aa (evv 0) (Aa (evv 4) Ac)) (may _ _ hr2)))) (fun h=>by cases h) (fun _=>Ar)) (Ah (Ap (AR (ds:=[.str "",BQ (Ao S.mem S.here) (Ao S.mem ((S.here + 1) % 4096))]) (Aa Ai (Aa (Af D_row_in (by walk_at "rm") rfl (Aa (AC (evv 1) (evv 2) (at_ hr1)) (Aa (AC (evv 1) (evv 4) (at_ hr2)) Ac)) ⟨_,_,rfl,rfl⟩) Ac)) (by walk_at "sz"))))
def rnames:List Str:=["add","sub","mul","and","xor","cmp"]
def resI (nm:Str) (x y:Int):Int:=if nm="add" then x + y else if nm="mul" then x * y else if nm="and" then Builtin.bitAnd x y else if nm="xor" then Builtin.bitXor x y else x - y
def lesI (nm:Str) (x y:Int):Bool:=if nm="add" then decide (x + y > 4095) else (if nm="sub"∨nm="cmp" then decide (x < y) else false)
theorem CH (a b:Str):PyData.eqv (.str a) (.str b)=decide (a=b):=by
 simp only [PyData.eqv]
 by_cases h:a=b
 ·rw [decide_eq_true h,h];exact beq_self_eq_true b
 ·rw [decide_eq_false h];exact beq_eq_false_iff_ne.mpr h
def KG (ds:List PyData) (d:PyData):Prop:=∃(nm:Str) (x y:Int),PyData.canLay0 (.str nm)=true∧0≤x∧x < 4096∧0≤y∧y < 4096∧ds=[.str nm,.int x,.int y]∧d=.int (resI nm x y)
theorem HM {f:Addr} {fd:FuncData} (F:Fun K "result_of" "result_of" BT f fd) (hm:mg "result_of"=some (.ref f)):DFn P w K mg base 1 "result_of" KG:=by
 refine F.data hm (F.binds fun _ _ _ _ _ _ us hl=>match us,hl with | [_,_,_],_=>rfl) GM (fun ds d ⟨_,_,_,_,_,_,_,_,e,_⟩=>by rw [e];rfl) fun cdv A outer s H E ds d hr ⟨nm,x,y,hcl,x0,x1,y0,y1,e,e2⟩=>?_
 subst e
 unfold resI at e2
 have eqz:∀m:Str,PyData.canLay0 (.str m)=true→OD (cxOf CX0 P w K mg base ["name","x","y"] "result_of" (Ae BT) f cdv A outer s H E).nox (compareOp .Eq) (.str nm) (.str m) (.bool (decide (nm=m))):=fun m hm=>Cy (by walk_at "un") hcl hm (by walk_at "dp") (CH nm m)
 by_cases h1:nm="add"
 ·rw [if_pos h1] at e2
  subst e2
  exact Ah (A0 (k:=true) (Al (An (evv 0) Ai (eqz _ (by decide +kernel)) (Ak _)) (decide_eq_true h1)) (fun _=>Ah (Ap (Ad (evv 1) (evv 2) (by walk_at "od")))) (fun h=>by cases h))
 rw [if_neg h1] at e2
 refine Ag (A0 (k:=false) (Al (An (evv 0) Ai (eqz _ (by decide +kernel)) (Ak _)) (decide_eq_false h1)) (fun h=>by cases h) (fun _=>Ar)) ?_
 by_cases h2:nm="mul"
 ·rw [if_pos h2] at e2
  subst e2
  exact Ah (A0 (k:=true) (Al (An (evv 0) Ai (eqz _ (by decide +kernel)) (Ak _)) (decide_eq_true h2)) (fun _=>Ah (Ap (Ad (evv 1) (evv 2) (ER (Or.inl ⟨by omega,by omega⟩))))) (fun h=>by cases h))
 rw [if_neg h2] at e2
 refine Ag (A0 (k:=false) (Al (An (evv 0) Ai (eqz _ (by decide +kernel)) (Ak _)) (decide_eq_false h2)) (fun h=>by cases h) (fun _=>Ar)) ?_
 by_cases h3:nm="and"
 ·rw [if_pos h3] at e2
  subst e2
  exact Ah (A0 (k:=true) (Al (An (evv 0) Ai (eqz _ (by decide +kernel)) (Ak _)) (decide_eq_true h3)) (fun _=>Ah (Ap (Ad (evv 1) (evv 2) Oy))) (fun h=>by cases h))
 rw [if_neg h3] at e2
 refine Ag (A0 (k:=false) (Al (An (evv 0) Ai (eqz _ (by decide +kernel)) (Ak _)) (decide_eq_false h3)) (fun h=>by cases h) (fun _=>Ar)) ?_
 by_cases h4:nm="xor"
 ·rw [if_pos h4] at e2
  subst e2
  exact Ah (A0 (k:=true) (Al (An (evv 0) Ai (eqz _ (by decide +kernel)) (Ak _)) (decide_eq_true h4)) (fun _=>Ah (Ap (Ad (evv 1) (evv 2) (by walk_at "od")))) (fun h=>by cases h))
 rw [if_neg h4] at e2
 subst e2
 exact Ag (A0 (k:=false) (Al (An (evv 0) Ai (eqz _ (by decide +kernel)) (Ak _)) (decide_eq_false h4)) (fun h=>by cases h) (fun _=>Ar)) (Ah (Ap (Ad (evv 1) (evv 2) (by walk_at "od"))))
def L8 (ds:List PyData) (d:PyData):Prop:=∃(nm:Str) (x y:Int),PyData.canLay0 (.str nm)=true∧ds=[.str nm,.int x,.int y]∧d=.bool (lesI nm x y)
theorem MV (nm:Str):([PyData.str "sub",.str "cmp"].any fun e=>PyData.eqv e (.str nm))=decide (nm="sub"∨nm="cmp"):=by
 simp only [List.any_cons,List.any_nil,Bool.or_false,CH]
 by_cases h1:nm="sub" <;> by_cases h2:nm="cmp" <;> simp [h1,h2,eq_comm]
theorem JN {f:Addr} {fd:FuncData} (F:Fun K "less_of" "less_of" Ci f fd) (hm:mg "less_of"=some (.ref f)):DFn P w K mg base 1 "less_of" L8:=by
 refine F.data hm (F.binds fun _ _ _ _ _ _ us hl=>match us,hl with | [_,_,_],_=>rfl) IA (fun ds d ⟨_,_,_,_,e,_⟩=>by rw [e];rfl) fun cdv A outer s H E ds d hr ⟨nm,x,y,hcl,e,e2⟩=>?_
 subst e
 unfold lesI at e2
 have eqz:∀m:Str,PyData.canLay0 (.str m)=true→OD (cxOf CX0 P w K mg base ["name","x","y"] "less_of" (Ae Ci) f cdv A outer s H E).nox (compareOp .Eq) (.str nm) (.str m) (.bool (decide (nm=m))):=fun m hm=>Cy (by walk_at "un") hcl hm (by walk_at "dp") (CH nm m)
 by_cases h1:nm="add"
 ·rw [if_pos h1] at e2
  subst e2
  exact Ah (A0 (k:=true) (Al (An (evv 0) Ai (eqz _ (by decide +kernel)) (Ak _)) (decide_eq_true h1)) (fun _=>Ah (Ap (Bf (Ad (evv 1) (evv 2) (by walk_at "od")) Ab (by walk_at "od") (Ak _)))) (fun h=>by cases h))
 rw [if_neg h1] at e2
 refine Ag (A0 (k:=false) (Al (An (evv 0) Ai (eqz _ (by decide +kernel)) (Ak _)) (decide_eq_false h1)) (fun h=>by cases h) (fun _=>Ar)) ?_
 have hin:OD (cxOf CX0 P w K mg base ["name","x","y"] "less_of" (Ae Ci) f cdv A outer s H E).nox (compareOp .In) (.str nm) (.tuple [.str "sub",.str "cmp"]) (.bool (decide (nm="sub"∨nm="cmp"))):=MV nm ▸ FA (.inr rfl) rfl rfl rfl
 by_cases h2:nm="sub"∨nm="cmp"
 ·rw [if_pos h2] at e2
  subst e2
  exact Ah (Ap (B5 (k:=true) (Av (Bf (evv 0) (AR (ds:=[.str "sub",.str "cmp"]) (Aa Ai (Aa Ai Ac)) (by walk_at "sz")) hin (by with_unfolding_all rfl)) (by rw [decide_eq_true h2])) (fun _=>C3 (Bf (evv 1) (evv 2) (by walk_at "od") (Ak _))) (fun h=>by cases h)))
 ·rw [if_neg h2] at e2
  subst e2
  exact Ah (Ap (B5 (k:=false) (Av (Bf (evv 0) (AR (ds:=[.str "sub",.str "cmp"]) (Aa Ai (Aa Ai Ac)) (by walk_at "sz")) hin (by with_unfolding_all rfl)) (by rw [decide_eq_false h2])) (fun h=>by cases h) (fun _=>rfl)))
def brB (k:Int) (z l:Bool):Bool:=if k=0 then z else if k=1 then !z else if k=2 then l else !l
def ON (ds:List PyData) (d:PyData):Prop:=∃(k:Int) (z l:Bool),0≤k∧k < 4∧ds=[.int k,.tuple [.bool z,.bool l]]∧d=.bool (brB k z l)
theorem Qx {k:Int} {z l:Bool} (h0:0≤k) (h1:k < 4):atI [PyData.bool z,.bool (!z),.bool l,.bool (!l)] k=some (.bool (brB k z l)):=by
 have h:k=0∨k=1∨k=2∨k=3:=by omega
 rcases h with rfl | rfl | rfl | rfl <;> rfl
theorem Fy {f:Addr} {fd:FuncData} (F:Fun K "branch_goes" "branch_goes" Ce f fd) (hm:mg "branch_goes"=some (.ref f)):DFn P w K mg base 1 "branch_goes" ON:=by
 refine F.data hm (F.binds fun _ _ _ _ _ _ us hl=>match us,hl with | [_,_],_=>rfl) sc_branch_goes (fun ds d ⟨_,_,_,_,_,e,_⟩=>by rw [e];rfl) fun cdv A outer s H E ds d hr ⟨k,z,l,k0,k1,e,e2⟩=>?_
 subst e e2
 refine Ag (G1:=[some (.int k),some (.tuple [.bool z,.bool l]),some (.bool z),some (.bool l)]) (OH (k:=0) (B:=NC [2,3]) (evv 1) (B_ rfl (A5 (Au (i:=2) sc_branch_goes.nd rfl (by first | exact Or.inl rfl | exact Or.inr rfl)) (A5 (Au (i:=3) sc_branch_goes.nd rfl (by first | exact Or.inl rfl | exact Or.inr rfl)) Bw))) (Oo [2,3] _ rfl) rfl) ?_
 exact Ah (Ap (AE (AR (ds:=[.bool z,.bool (!z),.bool l,.bool (!l)]) (Aa (evv 2) (Aa (Id (evv 2)) (Aa (evv 3) (Aa (Id (evv 3)) Ac)))) (by walk_at "sz")) (evv 0) (Qx k0 k1)))
theorem Di {nm:Str} {nums:List Int} {i:Nat} {k:Int} (hk:k=(i:Int) + 1) (h:i < nums.length):atI (PyData.str nm::nums.map PyData.int) k=some (.int (nums.getD i 0)):=by
 subst hk
 refine Bl (by omega) ?_
 rw [show ((i:Int) + 1).toNat=i + 1 by omega,List.getElem?_cons_succ,List.getElem?_map,List.getD_eq_getElem?_getD,List.getElem?_eq_getElem h]
 rfl
theorem OJ {ps:Str} {nums:List Int} {i c:Nat} (h:BG ps nums=true) (hl:nums.length=ps.cps.size) (hc:ps.cps.toList[i]?=some c):i < nums.length∧0≤nums.getD i 0∧nums.getD i 0 < Ba c:=by
 have hi:i < ps.cps.toList.length:=(List.getElem?_eq_some_iff.mp hc).1
 have hi2:i < nums.length:=by rw [hl,←Array.length_toList];exact hi
 refine ⟨hi2,?_⟩
 unfold BG at h
 rw [List.all_eq_true] at h
 have hm:(c,nums.getD i 0)∈ps.cps.toList.zip nums:=by
  refine List.mem_of_getElem? (i:=i) ?_
  rw [List.getElem?_zip_eq_some]
  refine ⟨hc,?_⟩
  rw [List.getD_eq_getElem?_getD,List.getElem?_eq_getElem hi2]
  rfl
 have:=h _ hm
 rw [Bool.and_eq_true,decide_eq_true_iff,decide_eq_true_iff] at this
 exact this
theorem GB:∀q∈kinds,(q.1="load"∨q.1="store")→q.2="xym":=by decide +kernel
theorem Hq:∀q∈kinds,(q.1="set"∨q.1="call")→q.2="xn":=by decide +kernel
theorem J4:∀q∈kinds,q.1="jump"→q.2="n":=by decide +kernel
theorem Gc:∀q∈kinds,q.1="branch"→q.2="kn":=by decide +kernel
theorem PN:∀q∈kinds,(q.1="back"∨q.1="out")→q.2="x":=by decide +kernel
theorem NF:∀q∈kinds,(q.1="move"∨q.1∈rnames)→q.2="xy":=by decide +kernel
theorem EI:∀q∈kinds,PyData.canLay0 (.str q.1)=true:=by decide +kernel
theorem IsRow.mem {q:Str×Str} {nums:List Int} {j:Nat} (h:IsRow q nums j):q∈kinds:=List.mem_of_getElem? h.1
theorem IsRow.num {q:Str×Str} {nums:List Int} {j i c:Nat} {ps:Str} (h:IsRow q nums j) (e:q.2=ps) (hc:ps.cps.toList[i]?=some c):i < nums.length∧0≤nums.getD i 0∧nums.getD i 0 < Ba c:=OJ (e ▸ h.2.2) (e ▸ h.2.1) hc
def boxM (S:MS) (x:Int):Int:=S.bx.getD x.toNat 0
def AS (S:MS) (nums:List Int):Int:=(boxM S (nums.getD 1 0) + nums.getD 2 0) % 4096
def AX (S:MS) (nm:Str) (nums:List Int):Str:=if nm="stop" then "stop" else if nm="load"∧Ax S.pg (AS S nums) 0=false then "read" else if nm="store"∧Ax S.pg (AS S nums) 1=false then "write" else ""
def nextM (S:MS) (nm:Str) (nums:List Int) (b:Int):Int:=if nm="jump"∨nm="call" then nums.getLastD 0 else if nm="branch"∧brB (nums.getD 0 0) S.tz S.tl=true then nums.getD 1 0 else if nm="back" then boxM S (nums.getD 0 0) else b
section
variable {X:Cx} {G:Gam} {C:Addr} {S:MS} {x:Str} {pos pos2:Pos} {e:Expr}
theorem Ji (S:MS):((.str "memory",.list (S.mem.map PyData.int)):PyData×PyData)∈fldD (lfM S) (dfM S):=List.mem_of_getElem? (i:=1) rfl
theorem Eo (S:MS):((.str "box_words",.list (S.bx.map PyData.int)):PyData×PyData)∈fldD (lfM S) (dfM S):=List.mem_of_getElem? (i:=2) rfl
theorem Of (S:MS):((.str "told_words",.list (S.told.map PyData.int)):PyData×PyData)∈fldD (lfM S) (dfM S):=List.mem_of_getElem? (i:=3) rfl
theorem Ql (S:MS):((.str "stored_cells",.list (S.sto.map PyData.int)):PyData×PyData)∈fldD (lfM S) (dfM S):=List.mem_of_getElem? (i:=4) rfl
theorem FU (S:MS):((.str "rights",.list (S.pg.map By)):PyData×PyData)∈fldD (lfM S) (dfM S):=List.mem_of_getElem? (i:=0) rfl
theorem GQ (S:MS):((.str "here",.int S.here):PyData×PyData)∈fldD (lfM S) (dfM S):=List.mem_of_getElem? (i:=5) rfl
theorem N7 (S:MS):((.str "truth_pair",.tuple [.bool S.tz,.bool S.tl]):PyData×PyData)∈fldD (lfM S) (dfM S):=List.mem_of_getElem? (i:=6) rfl
theorem Ds (ok:MsOk S) {z:Int} (h0:0≤z) (h1:z < 4):atI (S.bx.map PyData.int) z=some (.int (boxM S z)):=BA h0 (by have:=ok.bl;omega)
theorem BE (ok:MsOk S) (z:Int):0≤boxM S z∧boxM S z < 4096:=by
 unfold boxM
 rw [List.getD_eq_getElem?_getD]
 cases e:S.bx[z.toNat]? with
 | none=>exact show (0:Int)≤0∧(0:Int) < 4096 by decide
 | some y=>exact ok.bw y (List.mem_of_getElem? e)
end
theorem AB {X:Cx} {G:Gam} {e:Expr} {nm m:Str} {nums:List Int} {p2 p3 p4 pos:Pos} {k0 ci:Nat} (hu:X.A.units + 64 < cLine) (he:EV X G e (rowD nm nums)) (hcl:PyData.canLay0 (.str nm)=true) (hm:PyData.canLay0 (.str m)=true):TV X G (.Compare (.Subscript e (.Constant (.int 0) k0 p2) p3) [.Eq] [.Constant (.str m) ci p4] pos) (decide (nm=m)):=
 An (AE (ds:=.str nm::nums.map PyData.int) he Ab (Bl (by decide) rfl)) Ai (Cy hu hcl hm (by walk_at "dp") (CH nm m)) (Ak _)
def Hf (C:Addr) (ds:List PyData) (d:PyData):Prop:=∃(S:MS) (q:Str×Str) (nums:List Int) (j:Nat),MsOk S∧IsRow q nums j∧q.2="xym"∧ds=[mcD C S,rowD q.1 nums]∧d=.int (AS S nums)
theorem JQ {C:Addr} (CM:ClsM K mg C) {f:Addr} {fd:FuncData} (F:Fun K "address" "Machine.address" Bn f fd) (hm:Meth K C "address" f):MFn P w K mg base 1 C "address" (Hf C):=by
 refine F.dataM hm (F.binds fun _ _ _ _ _ _ us hl=>match us,hl with | [_,_],_=>rfl) Dq (fun ds d ⟨_,_,_,_,_,_,_,e,_⟩=>by rw [e];rfl) fun cdv A outer s H E ds d hr ⟨S,q,nums,j,ok,hr2,e0,e,e2⟩=>?_
 subst e e2
 have n1:=hr2.num (i:=1) (c:=121) e0 rfl
 have n2:=hr2.num (i:=2) (c:=109) e0 rfl
 exact Ah (Ap (Ad (Ad (AC (A7 CM.cl CM.n2 (evv 0) (Eo S)) (AE (evv 1) Ab (Di (i:=1) rfl n1.1)) (Ds ok n1.2.1 n1.2.2)) (AE (evv 1) Ab (Di (i:=2) rfl n2.1)) Co) Ab (Be (by decide))))
theorem MD (S:MS) (nums:List Int):0≤AS S nums∧AS S nums < 4096:=by
 unfold AS
 omega
def Nv (C:Addr) (ds:List PyData) (d:PyData):Prop:=∃(S:MS) (q:Str×Str) (nums:List Int) (j:Nat),MsOk S∧IsRow q nums j∧ds=[mcD C S,rowD q.1 nums]∧d=.str (AX S q.1 nums)
theorem Ho {C:Addr} (CM:ClsM K mg C) (D_may_read:DFn P w K mg base 3 "may_read" (EK 0)) (D_may_write:DFn P w K mg base 3 "may_write" (EK 1)) (D_address:MFn P w K mg base 1 C "address" (Hf C)) {f:Addr} {fd:FuncData} (F:Fun K "hindrance" "Machine.hindrance" Bb f fd) (hm:Meth K C "hindrance" f):MFn P w K mg base 4 C "hindrance" (Nv C):=by
 refine F.dataM hm (F.binds fun _ _ _ _ _ _ us hl=>match us,hl with | [_,_],_=>rfl) CG (fun ds d ⟨_,_,_,_,_,_,e,_⟩=>by rw [e];rfl) fun cdv A outer s H E ds d hr ⟨S,q,nums,j,ok,hr2,e,e2⟩=>?_
 subst e
 have hcl:=EI q hr2.mem
 unfold AX at e2
 by_cases h1:q.1="stop"
 ·rw [if_pos h1] at e2
  subst e2
  exact Ah (A0 (k:=true) (Al (AB (by walk_at "un") (evv 1) hcl (by decide +kernel)) (decide_eq_true h1)) (fun _=>Ah (Ap Ai)) (fun h=>by cases h))
 rw [if_neg h1] at e2
 refine Ag (A0 (k:=false) (Al (AB (by walk_at "un") (evv 1) hcl (by decide +kernel)) (decide_eq_false h1)) (fun h=>by cases h) (fun _=>Ar)) ?_
 by_cases h2:q.1="load"
 ·have e0:=GB q hr2.mem (.inl h2)
  have hns:¬(q.1="store"∧Ax S.pg (AS S nums) 1=false):=fun z=>by have:=z.1;rw [h2] at this;exact absurd this (by decide)
  cases hb:Ax S.pg (AS S nums) 0 with
  | false=>
    rw [if_pos ⟨h2,hb⟩] at e2
    subst e2
    exact Ah (A0 (k:=true) (Al (B3 (Bc (k:=true) (k':=true) (Al (AB (by walk_at "un") (evv 1) hcl (by decide +kernel)) (decide_eq_true h2)) (fun _=>Bx (AL (k:=false) (AI (Af D_may_read (by walk_at "rm") rfl (Aa (A7 CM.cl CM.n0 (evv 0) (FU S)) (Aa (Bm CM.cl D_address (by walk_at "rm") (evv 0) (Aa (evv 1) Ac) ⟨S,q,nums,j,ok,hr2,e0,rfl,rfl⟩) Ac)) ⟨S.pg,_,rfl,ok.p8,by rw [hb]⟩)))))) rfl) (fun _=>Ah (Ap Ai)) (fun h=>by cases h))
  | true=>
    rw [if_neg (fun z=>by rw [hb] at z;exact absurd z.2 (by decide)),if_neg hns] at e2
    subst e2
    refine Ag (A0 (k:=false) (Al (B3 (Bc (k:=true) (k':=false) (Al (AB (by walk_at "un") (evv 1) hcl (by decide +kernel)) (decide_eq_true h2)) (fun _=>Bx (AL (k:=true) (AI (Af D_may_read (by walk_at "rm") rfl (Aa (A7 CM.cl CM.n0 (evv 0) (FU S)) (Aa (Bm CM.cl D_address (by walk_at "rm") (evv 0) (Aa (evv 1) Ac) ⟨S,q,nums,j,ok,hr2,e0,rfl,rfl⟩) Ac)) ⟨S.pg,_,rfl,ok.p8,by rw [hb]⟩)))))) rfl) (fun h=>by cases h) (fun _=>Ar)) ?_
    have h3:¬q.1="store":=fun z=>by rw [h2] at z;exact absurd z (by decide)
    exact Ag (A0 (k:=false) (Al (B3 (Bc (k:=false) (k':=false) (Al (AB (by walk_at "un") (evv 1) hcl (by decide +kernel)) (decide_eq_false h3)) (fun h=>by cases h))) rfl) (fun h=>by cases h) (fun _=>Ar)) (Ah (Ap Ai))
 rw [if_neg (fun z=>h2 z.1)] at e2
 refine Ag (A0 (k:=false) (Al (B3 (Bc (k:=false) (k':=false) (Al (AB (by walk_at "un") (evv 1) hcl (by decide +kernel)) (decide_eq_false h2)) (fun h=>by cases h))) rfl) (fun h=>by cases h) (fun _=>Ar)) ?_
 by_cases h3:q.1="store"
 ·have e0:=GB q hr2.mem (.inr h3)
  cases hb:Ax S.pg (AS S nums) 1 with
  | false=>
    rw [if_pos ⟨h3,hb⟩] at e2
    subst e2
    exact Ah (A0 (k:=true) (Al (B3 (Bc (k:=true) (k':=true) (Al (AB (by walk_at "un") (evv 1) hcl (by decide +kernel)) (decide_eq_true h3)) (fun _=>Bx (AL (k:=false) (AI (Af D_may_write (by walk_at "rm") rfl (Aa (A7 CM.cl CM.n0 (evv 0) (FU S)) (Aa (Bm CM.cl D_address (by walk_at "rm") (evv 0) (Aa (evv 1) Ac) ⟨S,q,nums,j,ok,hr2,e0,rfl,rfl⟩) Ac)) ⟨S.pg,_,rfl,ok.p8,by rw [hb]⟩)))))) rfl) (fun _=>Ah (Ap Ai)) (fun h=>by cases h))
  | true=>
    rw [if_neg (fun z=>by rw [hb] at z;exact absurd z.2 (by decide))] at e2
    subst e2
    exact Ag (A0 (k:=false) (Al (B3 (Bc (k:=true) (k':=false) (Al (AB (by walk_at "un") (evv 1) hcl (by decide +kernel)) (decide_eq_true h3)) (fun _=>Bx (AL (k:=true) (AI (Af D_may_write (by walk_at "rm") rfl (Aa (A7 CM.cl CM.n0 (evv 0) (FU S)) (Aa (Bm CM.cl D_address (by walk_at "rm") (evv 0) (Aa (evv 1) Ac) ⟨S,q,nums,j,ok,hr2,e0,rfl,rfl⟩) Ac)) ⟨S.pg,_,rfl,ok.p8,by rw [hb]⟩)))))) rfl) (fun h=>by cases h) (fun _=>Ar)) (Ah (Ap Ai))
 rw [if_neg (fun z=>h3 z.1)] at e2
 subst e2
 exact Ag (A0 (k:=false) (Al (B3 (Bc (k:=false) (k':=false) (Al (AB (by walk_at "un") (evv 1) hcl (by decide +kernel)) (decide_eq_false h3)) (fun h=>by cases h))) rfl) (fun h=>by cases h) (fun _=>Ar)) (Ah (Ap Ai))
theorem Kt (nm:Str):([PyData.str "jump",.str "call"].any fun e=>PyData.eqv e (.str nm))=decide (nm="jump"∨nm="call"):=by
 simp only [List.any_cons,List.any_nil,Bool.or_false,CH]
 by_cases h1:nm="jump" <;> by_cases h2:nm="call" <;> simp [h1,h2,eq_comm]
def N8 (C:Addr) (ds:List PyData) (d:PyData):Prop:=∃(S:MS) (q:Str×Str) (nums:List Int) (j:Nat) (b:Int),MsOk S∧IsRow q nums j∧ds=[mcD C S,rowD q.1 nums,.int b]∧d=.int (nextM S q.1 nums b)
theorem Gw {C:Addr} (CM:ClsM K mg C) (D_branch_goes:DFn P w K mg base 1 "branch_goes" ON) {f:Addr} {fd:FuncData} (F:Fun K "next_place" "Machine.next_place" AY f fd) (hm:Meth K C "next_place" f):MFn P w K mg base 2 C "next_place" (N8 C):=by
 refine F.dataM hm (F.binds fun _ _ _ _ _ _ us hl=>match us,hl with | [_,_,_],_=>rfl) C1 (fun ds d ⟨_,_,_,_,_,_,_,e,_⟩=>by rw [e];rfl) fun cdv A outer s H E ds d hr ⟨S,q,nums,j,b,ok,hr2,e,e2⟩=>?_
 subst e
 have hcl:=EI q hr2.mem
 unfold nextM at e2
 by_cases h1:q.1="jump"∨q.1="call"
 ·rw [if_pos h1] at e2
  subst e2
  have hp:0 < nums.length:=by
   rcases h1 with h1 | h1
   ·exact (hr2.num (i:=0) (c:=110) (J4 q hr2.mem h1) rfl).1
   ·exact (hr2.num (i:=0) (c:=120) (Hq q hr2.mem (.inr h1)) rfl).1
  exact Ah (A0 (k:=true) (Al (An (AE (ds:=.str q.1::nums.map PyData.int) (evv 1) Ab (Bl (by decide) rfl)) (AR (ds:=[.str "jump",.str "call"]) (Aa Ai (Aa Ai Ac)) (by walk_at "sz")) (Kt q.1 ▸ FA (.inr rfl) rfl rfl rfl) (by with_unfolding_all rfl)) (decide_eq_true h1)) (fun _=>Ah (Ap (AE (ds:=.str q.1::nums.map PyData.int) (evv 1) (KN Ab) (GF hp)))) (fun h=>by cases h))
 rw [if_neg h1] at e2
 refine Ag (A0 (k:=false) (Al (An (AE (ds:=.str q.1::nums.map PyData.int) (evv 1) Ab (Bl (by decide) rfl)) (AR (ds:=[.str "jump",.str "call"]) (Aa Ai (Aa Ai Ac)) (by walk_at "sz")) (Kt q.1 ▸ FA (.inr rfl) rfl rfl rfl) (by with_unfolding_all rfl)) (decide_eq_false h1)) (fun h=>by cases h) (fun _=>Ar)) ?_
 by_cases h2:q.1="branch"
 ·have e0:=Gc q hr2.mem h2
  have n0:=hr2.num (i:=0) (c:=107) e0 rfl
  have n1:=hr2.num (i:=1) (c:=110) e0 rfl
  have hnb:¬q.1="back":=fun z=>by rw [h2] at z;exact absurd z (by decide)
  cases hb:brB (nums.getD 0 0) S.tz S.tl with
  | true=>
    rw [if_pos ⟨h2,hb⟩] at e2
    subst e2
    exact Ah (A0 (k:=true) (Al (B3 (Bc (k:=true) (k':=true) (Al (AB (by walk_at "un") (evv 1) hcl (by decide +kernel)) (decide_eq_true h2)) (fun _=>Bx (Al (AI (Af D_branch_goes (by walk_at "rm") rfl (Aa (AE (ds:=.str q.1::nums.map PyData.int) (evv 1) Ab (Di (i:=0) rfl n0.1)) (Aa (A7 CM.cl CM.n4 (evv 0) (N7 S)) Ac)) ⟨_,_,_,n0.2.1,n0.2.2,rfl,rfl⟩)) hb)))) rfl) (fun _=>Ah (Ap (AE (ds:=.str q.1::nums.map PyData.int) (evv 1) Ab (Di (i:=1) rfl n1.1)))) (fun h=>by cases h))
  | false=>
    rw [if_neg (fun z=>by rw [hb] at z;exact absurd z.2 (by decide)),if_neg hnb] at e2
    subst e2
    refine Ag (A0 (k:=false) (Al (B3 (Bc (k:=true) (k':=false) (Al (AB (by walk_at "un") (evv 1) hcl (by decide +kernel)) (decide_eq_true h2)) (fun _=>Bx (Al (AI (Af D_branch_goes (by walk_at "rm") rfl (Aa (AE (ds:=.str q.1::nums.map PyData.int) (evv 1) Ab (Di (i:=0) rfl n0.1)) (Aa (A7 CM.cl CM.n4 (evv 0) (N7 S)) Ac)) ⟨_,_,_,n0.2.1,n0.2.2,rfl,rfl⟩)) hb)))) rfl) (fun h=>by cases h) (fun _=>Ar)) ?_
    exact Ag (A0 (k:=false) (Al (AB (by walk_at "un") (evv 1) hcl (by decide +kernel)) (decide_eq_false hnb)) (fun h=>by cases h) (fun _=>Ar)) (Ah (Ap (evv 2)))
 rw [if_neg (fun z=>h2 z.1)] at e2
 refine Ag (A0 (k:=false) (Al (B3 (Bc (k:=false) (k':=false) (Al (AB (by walk_at "un") (evv 1) hcl (by decide +kernel)) (decide_eq_false h2)) (fun h=>by cases h))) rfl) (fun h=>by cases h) (fun _=>Ar)) ?_
 by_cases h3:q.1="back"
 ·have n0:=hr2.num (i:=0) (c:=120) (PN q hr2.mem (.inl h3)) rfl
  rw [if_pos h3] at e2
  subst e2
  exact Ah (A0 (k:=true) (Al (AB (by walk_at "un") (evv 1) hcl (by decide +kernel)) (decide_eq_true h3)) (fun _=>Ah (Ap (AC (A7 CM.cl CM.n2 (evv 0) (Eo S)) (AE (ds:=.str q.1::nums.map PyData.int) (evv 1) Ab (Di (i:=0) rfl n0.1)) (Ds ok n0.2.1 n0.2.2)))) (fun h=>by cases h))
 rw [if_neg h3] at e2
 subst e2
 exact Ag (A0 (k:=false) (Al (AB (by walk_at "un") (evv 1) hcl (by decide +kernel)) (decide_eq_false h3)) (fun h=>by cases h) (fun _=>Ar)) (Ah (Ap (evv 2)))
def L_ (C:Addr) (ds:List PyData) (d:PyData):Prop:=∃(S:MS) (c:Int),0≤c∧c < S.mem.length∧ds=[mcD C S,.int c]∧d=.int (Ao S.mem c)
theorem Pu {C:Addr} (CM:ClsM K mg C) {f:Addr} {fd:FuncData} (F:Fun K "peek" "Machine.peek" BN f fd) (hm:Meth K C "peek" f):MFn P w K mg base 1 C "peek" (L_ C):=by
 refine F.dataM hm (F.binds fun _ _ _ _ _ _ us hl=>match us,hl with | [_,_],_=>rfl) Ev (fun ds d ⟨_,_,_,_,e,_⟩=>by rw [e];rfl) fun cdv A outer s H E ds d hr ⟨S,c,c0,c1,e,e2⟩=>?_
 subst e e2
 exact Ah (Ap (AC (A7 CM.cl CM.n1 (evv 0) (Ji S)) (evv 1) (BA c0 c1)))
def Jc (C:Addr) (ds:List PyData) (d:PyData):Prop:=∃S:MS,ds=[mcD C S]∧d=.list (S.sto.map PyData.int)
theorem LN (T:Txt mg) {C:Addr} (CM:ClsM K mg C) {f:Addr} {fd:FuncData} (F:Fun K "stored" "Machine.stored" Bu f fd) (hm:Meth K C "stored" f):MFn P w K mg base 1 C "stored" (Jc C):=by
 refine F.dataM hm (F.binds fun _ _ _ _ _ _ us hl=>match us,hl with | [_],_=>rfl) DB (fun ds d ⟨_,e,_⟩=>by rw [e];rfl) fun cdv A outer s H E ds d hr ⟨S,e,e2⟩=>?_
 subst e e2
 exact Ah (Ap (Dr (Bh (A7 CM.cl CM.n6 (evv 0) (Ql S)) rfl T.b_list)))
section
variable (S:MS)
theorem Nm (v:Int):upD "here" (.int v) (dfM S)=dfM {S with here:=v}:=by
 unfold upD dfM
 simp only [List.map_cons,List.map_nil]
 rw [if_pos True.intro,if_neg (by decide),if_neg (by decide)]
theorem Po (z l:Bool):upD "truth_pair" (.tuple [.bool z,.bool l]) (dfM S)=dfM {S with tz:=z,tl:=l}:=by
 unfold upD dfM
 simp only [List.map_cons,List.map_nil]
 rw [if_neg (by decide),if_pos True.intro,if_neg (by decide)]
theorem M_ (v:Int):upD "done_count" (.int v) (dfM S)=dfM {S with done:=v}:=by
 unfold upD dfM
 simp only [List.map_cons,List.map_nil]
 rw [if_neg (by decide),if_neg (by decide),if_pos True.intro]
theorem Pl (l:List Int):upL "memory" (l.map PyData.int) (lfM S)=lfM {S with mem:=l}:=by
 unfold upL lfM
 simp only [List.map_cons,List.map_nil]
 rw [if_neg (by decide),if_pos True.intro,if_neg (by decide),if_neg (by decide),if_neg (by decide)]
theorem Fe (l:List Int):upL "box_words" (l.map PyData.int) (lfM S)=lfM {S with bx:=l}:=by
 unfold upL lfM
 simp only [List.map_cons,List.map_nil]
 rw [if_neg (by decide),if_neg (by decide),if_pos True.intro,if_neg (by decide),if_neg (by decide)]
theorem MR (l:List Int):upL "told_words" (l.map PyData.int) (lfM S)=lfM {S with told:=l}:=by
 unfold upL lfM
 simp only [List.map_cons,List.map_nil]
 rw [if_neg (by decide),if_neg (by decide),if_neg (by decide),if_pos True.intro,if_neg (by decide)]
theorem PB (l:List Int):upL "stored_cells" (l.map PyData.int) (lfM S)=lfM {S with sto:=l}:=by
 unfold upL lfM
 simp only [List.map_cons,List.map_nil]
 rw [if_neg (by decide),if_neg (by decide),if_neg (by decide),if_neg (by decide),if_pos True.intro]
theorem Qr:(("memory":Str),S.mem.map PyData.int)∈lfM S:=List.mem_of_getElem? (i:=1) rfl
theorem Ht:(("box_words":Str),S.bx.map PyData.int)∈lfM S:=List.mem_of_getElem? (i:=2) rfl
theorem Ou:(("told_words":Str),S.told.map PyData.int)∈lfM S:=List.mem_of_getElem? (i:=3) rfl
theorem PY:(("stored_cells":Str),S.sto.map PyData.int)∈lfM S:=List.mem_of_getElem? (i:=4) rfl
theorem O3:(("done_count":Str),PyData.int S.done)∈dfM S:=List.mem_of_getElem? (i:=2) rfl
theorem OW:("here":Str)∈(dfM S).map (·.1):=List.mem_of_getElem? (i:=0) rfl
theorem PU:("truth_pair":Str)∈(dfM S).map (·.1):=List.mem_of_getElem? (i:=1) rfl
end
theorem BJ (l:List Int) (n:Nat) (v:Int):(l.map PyData.int).set n (.int v)=(l.set n v).map PyData.int:=by rw [List.map_set]
theorem HN (l:List Int) (v:Int):l.map PyData.int++[PyData.int v]=(l++[v]).map PyData.int:=by rw [List.map_append];rfl
def EQ (S:MS) (c v:Int):MS:={S with mem:=S.mem.set c.toNat v,sto:=S.sto++[c]}
def Hu (S:MS) (v:Int):MS:={S with told:=S.told++[v]}
def setB (S:MS) (x v:Int):MS:={S with bx:=S.bx.set x.toNat v}
def HQ (S:MS) (nm:Str) (nums:List Int):MS:=
 {S with tz:=decide (resI nm (boxM S (nums.getD 0 0)) (boxM S (nums.getD 1 0)) % 4096=0),tl:=lesI nm (boxM S (nums.getD 0 0)) (boxM S (nums.getD 1 0)),bx:=if nm="cmp" then S.bx else S.bx.set (nums.getD 0 0).toNat (resI nm (boxM S (nums.getD 0 0)) (boxM S (nums.getD 1 0)) % 4096)}
def Fa (S:MS) (nm:Str) (nums:List Int) (b:Int):MS:=if nm="set" then setB S (nums.getD 0 0) (nums.getD 1 0) else if nm="move" then setB S (nums.getD 0 0) (boxM S (nums.getD 1 0)) else if nm="load" then setB S (nums.getD 0 0) (Ao S.mem (AS S nums)) else if nm="call" then setB S (nums.getD 0 0) b else S
abbrev FewM (S:MS):Prop:=S.sto.length < 100000∧S.told.length < 100000
def Lm (lf:LF) (df:DF) (ds:List PyData) (lf':LF) (df':DF):Prop:=∃(S:MS) (c v:Int),0≤c∧c < S.mem.length∧FewM S∧lf=lfM S∧df=dfM S∧ds=[.int c,.int v]∧lf'=lfM (EQ S c v)∧df'=dfM (EQ S c v)
abbrev C0 (F:LF→DF→List PyData→LF→DF→Prop):LF→DF→List PyData→PyData→LF→DF→Prop:=fun lf df ds d lf' df'=>F lf df ds lf' df'∧d=.none
abbrev MZ (K:PySem.W.Frag) (R:OR) (S:MS):Hp→Prop:=Oz K R (lfM S) (dfM S)
theorem CK {X:Cx} {L:List Addr} {I I1 I2:Hp→Prop} {rs:List (Nat×Addr)} {G G1:Gam} {st:Stmt} (h:PS X st (zN X.K L I rs G G1 I1)) (e:I1=I2):PS X st (zN X.K L I rs G G1 I2):=e ▸ h
theorem P1 {C:Addr} (CM:ClsM K mg C) {f:Addr} {fd:FuncData} (F:Fun K "poke" "Machine.poke" BF f fd) (hm:Meth K C "poke" f):OFn P w K mg base 1 C "poke" (C0 Lm):=by
 refine F.objN hm (F.binds fun _ _ _ _ _ _ us hl=>match us,hl with | [_,_,_],_=>rfl) Ex (fun lf df ds lf' df' ⟨_,_,_,_,_,_,_,_,e,_⟩=>by rw [e];rfl) fun cdv A outer s H E R lf df ds lf' df' hr hC ⟨S,c,v,c0,c1,few,e1,e2,e3,e4,e5⟩=>?_
 subst hC e1 e2 e3 e4 e5
 refine ⟨none::AO ["cell","word"] [.int c,.int v],Aq (CK (I2:=MZ K R {S with mem:=S.mem.set c.toNat v}) (Cj CM.cl CM.n1 List.mem_cons_self (pv 0) (evv 2) rfl (evv 1) (Qr S) c0 (by rw [List.length_map];exact c1)) (by rw [BJ,Pl];rfl)) ?_⟩
 exact Aq (CK (I2:=MZ K R (EQ S c v)) (Gb CM.cl CM.n6 List.mem_cons_self (pv 0) (evv 1) rfl (PY {S with mem:=S.mem.set c.toNat v}) (by rw [List.length_map,sizeLine_eq];have:=few.1;show S.sto.length < _;omega)) (by rw [HN,PB];rfl)) AA
def Ll (lf:LF) (df:DF) (ds:List PyData) (lf':LF) (df':DF):Prop:=∃(S:MS) (v:Int),FewM S∧lf=lfM S∧df=dfM S∧ds=[.int v]∧lf'=lfM (Hu S v)∧df'=dfM (Hu S v)
theorem Pt {C:Addr} (CM:ClsM K mg C) {f:Addr} {fd:FuncData} (F:Fun K "tell" "Machine.tell" BL f fd) (hm:Meth K C "tell" f):OFn P w K mg base 1 C "tell" (C0 Ll):=by
 refine F.objN hm (F.binds fun _ _ _ _ _ _ us hl=>match us,hl with | [_,_],_=>rfl) Ey (fun lf df ds lf' df' ⟨_,_,_,_,_,e,_⟩=>by rw [e];rfl) fun cdv A outer s H E R lf df ds lf' df' hr hC ⟨S,v,few,e1,e2,e3,e4,e5⟩=>?_
 subst hC e1 e2 e3 e4 e5
 exact ⟨none::AO ["word"] [.int v],Aq (CK (I2:=MZ K R (Hu S v)) (Gb CM.cl CM.n5 List.mem_cons_self (pv 0) (evv 1) rfl (Ou S) (by rw [List.length_map,sizeLine_eq];have:=few.2;omega)) (by rw [HN,MR];rfl)) AA⟩
theorem row3 {q:Str×Str} {nums:List Int} {j:Nat} (h:IsRow q nums j) (e:q.2="xy"):rowD q.1 nums=.tuple [.str q.1,.int (nums.getD 0 0),.int (nums.getD 1 0)]:=by
 have hl:nums.length=2:=by rw [h.2.1,e];rfl
 match nums,hl with
 | [a,b],_=>rfl
theorem MQ (nm:Str):((rnames.map PyData.str).any fun e=>PyData.eqv e (.str nm))=decide (nm∈rnames):=by
 rw [List.any_map]
 have:(fun s:Str=>PyData.eqv (.str s) (.str nm))=fun s=>decide (s=nm):=by funext s;exact CH s nm
 show rnames.any (fun s=>PyData.eqv (.str s) (.str nm))=_
 rw [this]
 induction rnames with
 | nil=>rfl
 | cons x r ih=>
   rw [List.any_cons,ih]
   by_cases h:x=nm
   ·rw [decide_eq_true h,Bool.true_or,decide_eq_true (by rw [h];exact List.mem_cons_self)]
   ·rw [decide_eq_false h,Bool.false_or]
    congr 1
    exact propext ⟨fun z=>List.mem_cons_of_mem _ z,fun z=>(List.mem_cons.mp z).resolve_left (fun w=>h w.symm)⟩
theorem CP {q:Str×Str} {nums:List Int} {j i c:Nat} {ps:Str} {k:Int} (row:IsRow q nums j) (e0:q.2=ps) (hc:ps.cps.toList[i]?=some c) (hk:k=(i:Int) + 1) {X:Cx} {G:Gam} {e:Expr} {k0:Nat} {p2 p3:Pos} (he:EV X G e (rowD q.1 nums)):EV X G (.Subscript e (.Constant (.int k) k0 p2) p3) (.int (nums.getD i 0)):=
 AE (ds:=.str q.1::nums.map PyData.int) he Ab (Di hk (row.num e0 hc).1)
def Nr (lf:LF) (df:DF) (ds:List PyData) (lf':LF) (df':DF):Prop:=∃(S:MS) (q:Str×Str) (nums:List Int) (j:Nat),MsOk S∧IsRow q nums j∧q.1∈rnames∧lf=lfM S∧df=dfM S∧ds=[rowD q.1 nums]∧lf'=lfM (HQ S q.1 nums)∧df'=dfM (HQ S q.1 nums)
theorem Ln {C:Addr} (CM:ClsM K mg C) (D_result_of:DFn P w K mg base 1 "result_of" KG) (D_less_of:DFn P w K mg base 1 "less_of" L8) {f:Addr} {fd:FuncData} (F:Fun K "reckon" "Machine.reckon" Bt f fd) (hm:Meth K C "reckon" f):OFn P w K mg base 2 C "reckon" (C0 Nr):=by
 refine F.objN hm (F.binds fun _ _ _ _ _ _ us hl=>match us,hl with | [_,_],_=>rfl) sc_Machine_reckon (fun lf df ds lf' df' ⟨_,_,_,_,_,_,_,_,_,e,_⟩=>by rw [e];rfl) fun cdv A outer s H E R lf df ds lf' df' hr hC ⟨S,q,nums,j,ok,row,hq,e1,e2,e3,e4,e5⟩=>?_
 subst hC e1 e2 e3 e4 e5
 have e0:=NF q row.mem (.inr hq)
 have n0:=row.num (i:=0) (c:=120) e0 rfl
 have n1:=row.num (i:=1) (c:=121) e0 rfl
 have hcl:=EI q row.mem
 have b0:=BE ok (nums.getD 0 0)
 have b1:=BE ok (nums.getD 1 0)
 have ne0:∀i:Nat,0 < i→∀z∈[(0,R.a)],z.1≠i:=fun i hi z hz=>by rw [List.mem_singleton.mp hz];exact Nat.ne_of_lt hi
 rw [row3 row e0]
 unfold HQ
 generalize nums.getD 0 0=x at n0 b0 ⊢
 generalize nums.getD 1 0=y at n1 b1 ⊢
 generalize q.1=nm at hcl ⊢
 generalize hrs:resI nm (boxM S x) (boxM S y) % 4096=rs
 refine ⟨[none,some (.tuple [.str nm,.int x,.int y]),some (.str nm),some (.int x),some (.int y),some (.int (boxM S x)),some (.int (boxM S y)),some (.int rs)],Aq (M8 (i:=2) (j:=3) (l:=4) (BW oz_ok (evv 1) rfl) (B_ rfl (A5 (Au (i:=2) sc_Machine_reckon.nd rfl (Or.inl rfl)) (A5 (Au (i:=3) sc_Machine_reckon.nd rfl (Or.inl rfl)) (A5 (Au (i:=4) sc_Machine_reckon.nd rfl (Or.inl rfl)) Bw)))) (ne0 2 (by decide)) (ne0 3 (by decide)) (ne0 4 (by decide))) ?_⟩
 refine Aq (Cp (i:=5) (d:=.int (boxM S x)) sc_Machine_reckon.nd rfl (by show 5∉[0];decide) (Or.inl rfl) (CZ List.mem_cons_self (AC (A7 CM.cl CM.n2 (evv 0) (Eo S)) (evv 3) (Ds ok n0.2.1 n0.2.2)) rfl)) ?_
 refine Aq (Cp (i:=6) (d:=.int (boxM S y)) sc_Machine_reckon.nd rfl (by show 6∉[0];decide) (Or.inl rfl) (CZ List.mem_cons_self (AC (A7 CM.cl CM.n2 (evv 0) (Eo S)) (evv 4) (Ds ok n1.2.1 n1.2.2)) rfl)) ?_
 refine Aq (Cp (i:=7) (d:=.int rs) sc_Machine_reckon.nd rfl (by show 7∉[0];decide) (Or.inl rfl) (BW oz_ok (Av (Ad (Af D_result_of (by walk_at "rm") rfl (Aa (evv 2) (Aa (evv 5) (Aa (evv 6) Ac))) ⟨nm,_,_,hcl,b0.1,b0.2,b1.1,b1.2,rfl,rfl⟩) Ab (Be (by decide))) (by rw [hrs])) rfl)) ?_
 refine Aq (CK (I2:=MZ K R {S with tz:=decide (rs=0),tl:=lesI nm (boxM S x) (boxM S y)}) (J8 CM.cl CM.n4 List.mem_cons_self (pv 0) (AR (ds:=[.bool (decide (rs=0)),.bool (lesI nm (boxM S x) (boxM S y))]) (Aa (Bf (evv 7) Ab (Cy (by walk_at "un") rfl rfl (by walk_at "dp") (Gj rs 0)) (Ak _)) (Aa (Af D_less_of (by walk_at "rm") rfl (Aa (evv 2) (Aa (evv 5) (Aa (evv 6) Ac))) ⟨nm,_,_,hcl,rfl,rfl⟩) Ac)) (by walk_at "sz")) rfl (PU S) (by decide)) (by rw [Po];rfl)) ?_
 by_cases hc:nm="cmp"
 ·rw [if_pos hc]
  exact Aq (GU oz_ok (AW oz_ok (Al (An (evv 2) Ai (C_ (by walk_at "un") hcl (by decide +kernel) (by walk_at "dp") (by rw [CH])) (Ak _)) (by rw [decide_eq_true hc];rfl)))) AA
 ·rw [if_neg hc]
  refine Aq (B8 (k:=true) (AW oz_ok (Al (An (evv 2) Ai (C_ (by walk_at "un") hcl (by decide +kernel) (by walk_at "dp") (by rw [CH])) (Ak _)) (by rw [decide_eq_false hc];rfl))) (fun _=>Aq (CK (I2:=MZ K R {S with tz:=decide (rs=0),tl:=lesI nm (boxM S x) (boxM S y),bx:=S.bx.set x.toNat rs}) (Cj CM.cl CM.n2 List.mem_cons_self (pv 0) (evv 7) rfl (evv 3) (Ht {S with tz:=decide (rs=0),tl:=lesI nm (boxM S x) (boxM S y)}) n0.2.1 (by rw [List.length_map];have:=ok.bl;have:=n0.2.2;show x < (S.bx.length:Int);have h4:Ba 120=4:=rfl;omega)) (by rw [BJ,Fe];rfl)) AA) (fun h=>by cases h)) AA
def N0 (lf:LF) (df:DF) (ds:List PyData) (lf':LF) (df':DF):Prop:=∃(S:MS) (q:Str×Str) (nums:List Int) (j:Nat) (b:Int),MsOk S∧IsRow q nums j∧(q.1="load"→Ax S.pg (AS S nums) 0=true)∧lf=lfM S∧df=dfM S∧ds=[rowD q.1 nums,.int b]∧lf'=lfM (Fa S q.1 nums b)∧df'=dfM (Fa S q.1 nums b)
theorem N_ {C:Addr} (CM:ClsM K mg C) (D_peek:MFn P w K mg base 1 C "peek" (L_ C)) (D_address:MFn P w K mg base 1 C "address" (Hf C)) {f:Addr} {fd:FuncData} (F:Fun K "fill" "Machine.fill" BI f fd) (hm:Meth K C "fill" f):OFn P w K mg base 2 C "fill" (C0 N0):=by
 refine F.objN hm (F.binds fun _ _ _ _ _ _ us hl=>match us,hl with | [_,_,_],_=>rfl) Ew (fun lf df ds lf' df' ⟨_,_,_,_,_,_,_,_,_,_,e,_⟩=>by rw [e];rfl) fun cdv A outer s H E R lf df ds lf' df' hr hC ⟨S,q,nums,j,b,ok,row,hld,e1,e2,e3,e4,e5⟩=>?_
 subst hC e1 e2 e3 e4 e5
 have hcl:=EI q row.mem
 have bl:=ok.bl
 have h4:Ba 120=4:=rfl
 refine ⟨none::AO ["row","behind"] [rowD q.1 nums,.int b],?_⟩
 unfold Fa
 by_cases h1:q.1="set"
 ·rw [if_pos h1]
  have e0:=Hq q row.mem (.inl h1)
  have n0:=row.num (i:=0) (c:=120) e0 rfl
  refine Aq (B8 (k:=true) (AW oz_ok (Al (AB (by walk_at "un") (evv 1) hcl (by decide +kernel)) (decide_eq_true h1))) (fun _=>Aq (CK (I2:=MZ K R (setB S (nums.getD 0 0) (nums.getD 1 0))) (Cj CM.cl CM.n2 List.mem_cons_self (pv 0) (CP row (i:=1) (c:=110) e0 rfl rfl (evv 1)) rfl (CP row (i:=0) (c:=120) e0 rfl rfl (evv 1)) (Ht S) n0.2.1 (by rw [List.length_map];omega)) (by rw [BJ,Fe];rfl)) AA) (fun h=>by cases h)) AA
 rw [if_neg h1]
 refine Aq (B8 (k:=false) (AW oz_ok (Al (AB (by walk_at "un") (evv 1) hcl (by decide +kernel)) (decide_eq_false h1))) (fun h=>by cases h) (fun _=>?_)) AA
 by_cases h2:q.1="move"
 ·rw [if_pos h2]
  have e0:=NF q row.mem (.inl h2)
  have n0:=row.num (i:=0) (c:=120) e0 rfl
  have n1:=row.num (i:=1) (c:=121) e0 rfl
  refine Aq (B8 (k:=true) (AW oz_ok (Al (AB (by walk_at "un") (evv 1) hcl (by decide +kernel)) (decide_eq_true h2))) (fun _=>Aq (CK (I2:=MZ K R (setB S (nums.getD 0 0) (boxM S (nums.getD 1 0)))) (Cj CM.cl CM.n2 List.mem_cons_self (pv 0) (AC (A7 CM.cl CM.n2 (evv 0) (Eo S)) (CP row (i:=1) (c:=121) e0 rfl rfl (evv 1)) (Ds ok n1.2.1 n1.2.2)) rfl (CP row (i:=0) (c:=120) e0 rfl rfl (evv 1)) (Ht S) n0.2.1 (by rw [List.length_map];omega)) (by rw [BJ,Fe];rfl)) AA) (fun h=>by cases h)) AA
 rw [if_neg h2]
 refine Aq (B8 (k:=false) (AW oz_ok (Al (AB (by walk_at "un") (evv 1) hcl (by decide +kernel)) (decide_eq_false h2))) (fun h=>by cases h) (fun _=>?_)) AA
 by_cases h3:q.1="load"
 ·rw [if_pos h3]
  have e0:=GB q row.mem (.inl h3)
  have n0:=row.num (i:=0) (c:=120) e0 rfl
  have ra:=DH (hld h3)
  have ml:=ok.ml
  refine Aq (B8 (k:=true) (AW oz_ok (Al (AB (by walk_at "un") (evv 1) hcl (by decide +kernel)) (decide_eq_true h3))) (fun _=>Aq (CK (I2:=MZ K R (setB S (nums.getD 0 0) (Ao S.mem (AS S nums)))) (Cj CM.cl CM.n2 List.mem_cons_self (pv 0) (Bm CM.cl D_peek (by walk_at "rm") (evv 0) (Aa (Bm CM.cl D_address (by walk_at "rm") (evv 0) (Aa (evv 1) Ac) ⟨S,q,nums,j,ok,row,e0,rfl,rfl⟩) Ac) ⟨S,_,ra.1,by omega,rfl,rfl⟩) rfl (CP row (i:=0) (c:=120) e0 rfl rfl (evv 1)) (Ht S) n0.2.1 (by rw [List.length_map];omega)) (by rw [BJ,Fe];rfl)) AA) (fun h=>by cases h)) AA
 rw [if_neg h3]
 refine Aq (B8 (k:=false) (AW oz_ok (Al (AB (by walk_at "un") (evv 1) hcl (by decide +kernel)) (decide_eq_false h3))) (fun h=>by cases h) (fun _=>?_)) AA
 by_cases h4':q.1="call"
 ·rw [if_pos h4']
  have e0:=Hq q row.mem (.inr h4')
  have n0:=row.num (i:=0) (c:=120) e0 rfl
  exact Aq (B8 (k:=true) (AW oz_ok (Al (AB (by walk_at "un") (evv 1) hcl (by decide +kernel)) (decide_eq_true h4'))) (fun _=>Aq (CK (I2:=MZ K R (setB S (nums.getD 0 0) b)) (Cj CM.cl CM.n2 List.mem_cons_self (pv 0) (evv 2) rfl (CP row (i:=0) (c:=120) e0 rfl rfl (evv 1)) (Ht S) n0.2.1 (by rw [List.length_map];omega)) (by rw [BJ,Fe];rfl)) AA) (fun h=>by cases h)) AA
 rw [if_neg h4']
 exact Aq (GU oz_ok (AW oz_ok (Al (AB (by walk_at "un") (evv 1) hcl (by decide +kernel)) (decide_eq_false h4')))) AA
def behM (S:MS) (q:Str×Str) (nums:List Int) (j:Nat):Int:=(S.here + (((wordsOf j q.2 nums).map PyData.int).length:Int)) % 4096
def goM (S:MS) (q:Str×Str) (nums:List Int) (j:Nat):MS:={S with here:=nextM S q.1 nums (behM S q nums j)}
def effM (S:MS) (q:Str×Str) (nums:List Int) (b:Int):MS:=if q.1∈rnames then HQ S q.1 nums else if q.1="store" then EQ S (AS S nums) (boxM S (nums.getD 0 0)) else if q.1="out" then Hu S (boxM S (nums.getD 0 0)) else Fa S q.1 nums b
def doM (S:MS) (q:Str×Str) (nums:List Int) (j:Nat):MS:={effM (goM S q nums j) q nums (behM S q nums j) with done:=(effM (goM S q nums j) q nums (behM S q nums j)).done + 1}
theorem E6 (nm:Str) (nums:List Int):noL (rowD nm nums)=true:=by
 show (noL (.str nm) && noLs (nums.map PyData.int))=true
 rw [C7]
 rfl
theorem J5 {nums:List Int} {n:Nat} (h:nums.length=n + 1):nums.getLastD 0=nums.getD n 0:=by
 have h2:nums≠[]:=fun z=>by rw [z] at h;cases h
 rw [List.getLastD_eq_getLast?,List.getLast?_eq_getElem?,List.getD_eq_getElem?_getD,h]
 rfl
theorem Nd {S:MS} {q:Str×Str} {nums:List Int} {j:Nat} (ok:MsOk S) (row:IsRow q nums j) {b:Int} (hb:0≤b∧b < 4096):0≤nextM S q.1 nums b∧nextM S q.1 nums b < 4096:=by
 unfold nextM
 have h4:Ba 110=4096:=rfl
 split
 ·rename_i h
  rcases h with h | h
  ·have e0:=J4 q row.mem h
   have n:=row.num (i:=0) (c:=110) e0 rfl
   rw [J5 (n:=0) (by rw [row.2.1,e0];rfl)]
   omega
  ·have e0:=Hq q row.mem (.inr h)
   have n:=row.num (i:=1) (c:=110) e0 rfl
   rw [J5 (n:=1) (by rw [row.2.1,e0];rfl)]
   omega
 ·split
  ·rename_i h
   have n:=row.num (i:=1) (c:=110) (Gc q row.mem h.1) rfl
   omega
  ·split
   ·exact BE ok _
   ·exact hb
theorem Lj (S:MS) (q:Str×Str) (nums:List Int) (j:Nat):0≤behM S q nums j∧behM S q nums j < 4096:=by
 unfold behM
 omega
theorem NP {S:MS} {q:Str×Str} {nums:List Int} {j:Nat} (ok:MsOk S) (row:IsRow q nums j):MsOk (goM S q nums j):=⟨ok.p1,ok.p8,ok.ml,ok.mw,ok.bl,ok.bw,Nd ok row (Lj S q nums j)⟩
theorem Ki {S:MS} {nm:Str} {nums:List Int} (h:AX S nm nums="") (e:nm="load"):Ax S.pg (AS S nums) 0=true:=by
 unfold AX at h
 rw [if_neg (fun z=>by rw [e] at z;exact absurd z (by decide))] at h
 cases hb:Ax S.pg (AS S nums) 0 with
 | true=>rfl
 | false=>rw [if_pos ⟨e,hb⟩] at h;exact absurd h (by decide)
theorem Ib {S:MS} {nm:Str} {nums:List Int} (h:AX S nm nums="") (e:nm="store"):Ax S.pg (AS S nums) 1=true:=by
 unfold AX at h
 rw [if_neg (fun z=>by rw [e] at z;exact absurd z (by decide)),if_neg (fun z=>by have:=z.1;rw [e] at this;exact absurd this (by decide))] at h
 cases hb:Ax S.pg (AS S nums) 1 with
 | true=>rfl
 | false=>rw [if_pos ⟨e,hb⟩] at h;exact absurd h (by decide)
theorem IQ {X:Cx} {G:Gam} {e:Expr} {nm:Str} {nums:List Int} {p2 p3 p4 pos:Pos} {k0:Nat} (T:GTup X.K X.mg "RECKONING" ["add","sub","mul","and","xor","cmp"]) (hg:Gl X "RECKONING") (he:EV X G e (rowD nm nums)):TV X G (.Compare (.Subscript e (.Constant (.int 0) k0 p2) p3) [.In] [.Name "RECKONING" p4] pos) (decide (nm∈rnames)):=
 An (AE (ds:=.str nm::nums.map PyData.int) he Ab (Bl (by decide) rfl)) (G5 T hg) (FA (.inr rfl) rfl rfl (MQ nm)) (by with_unfolding_all rfl)
def Qq (lf:LF) (df:DF) (ds:List PyData) (lf':LF) (df':DF):Prop:=∃(S:MS) (q:Str×Str) (nums:List Int) (j:Nat),MsOk S∧FewM S∧IsRow q nums j∧AX S q.1 nums=""∧lf=lfM S∧df=dfM S∧ds=[rowD q.1 nums]∧lf'=lfM (doM S q nums j)∧df'=dfM (doM S q nums j)
theorem QI (T:TxtR K mg w.params) {C:Addr} (CM:ClsM K mg C) (D_cells_of:DFn P w K mg base 3 "cells_of" (fun ds d=>∃ws,Gq ds ws∧d=.list ws)) (D_next:MFn P w K mg base 2 C "next_place" (N8 C)) (D_address:MFn P w K mg base 1 C "address" (Hf C)) (D_reckon:OFn P w K mg base 2 C "reckon" (C0 Nr)) (D_poke:OFn P w K mg base 1 C "poke" (C0 Lm)) (D_tell:OFn P w K mg base 1 C "tell" (C0 Ll)) (D_fill:OFn P w K mg base 2 C "fill" (C0 N0)) {f:Addr} {fd:FuncData} (F:Fun K "do" "Machine.do" Cl f fd) (hm:Meth K C "do" f):OFn P w K mg base 4 C "do" (C0 Qq):=by
 refine F.objN hm (F.binds fun _ _ _ _ _ _ us hl=>match us,hl with | [_,_],_=>rfl) sc_Machine_do (fun lf df ds lf' df' ⟨_,_,_,_,_,_,_,_,_,_,e,_⟩=>by rw [e];rfl) fun cdv A outer s H E R lf df ds lf' df' hr hC ⟨S,q,nums,j,ok,few,row,hh,e1,e2,e3,e4,e5⟩=>?_
 subst hC e1 e2 e3 e4 e5
 have hcl:=EI q row.mem
 have ok1:=NP ok row
 have ml:=ok.ml
 refine ⟨[none,some (rowD q.1 nums),some (.int (behM S q nums j))],Aq (Cp (i:=2) (d:=.int (behM S q nums j)) sc_Machine_do.nd rfl (by show 2∉[0];decide) (Or.inl rfl) (CZ List.mem_cons_self (Ad (Ad (A7 CM.cl CM.n3 (evv 0) (GQ S)) (Aw "len" (Aa (Af D_cells_of (by walk_at "rm") rfl (Aa (evv 1) Ac) ⟨_,⟨j,q,nums,row.1,row.2.1,row.2.2,rfl,rfl⟩,rfl⟩) Ac) GI rfl T.b_len (by decide +kernel)) Co) Ab (Be (by decide))) rfl)) ?_⟩
 refine Aq (CK (I2:=MZ K R (goM S q nums j)) (J8 CM.cl CM.n3 List.mem_cons_self (pv 0) (Bm CM.cl D_next (by walk_at "rm") (evv 0) (Aa (evv 1) (Aa (evv 2) Ac)) ⟨S,q,nums,j,_,ok,row,rfl,rfl⟩) rfl (OW S) (by decide)) (by rw [Nm];rfl)) ?_
 have few1:FewM (goM S q nums j):=few
 have ea:AS (goM S q nums j) nums=AS S nums:=rfl
 have eb:∀x,boxM (goM S q nums j) x=boxM S x:=fun _=>rfl
 refine Aq (I1:=MZ K R (effM (goM S q nums j) q nums (behM S q nums j))) ?mid (Aq (CK (I2:=MZ K R (doM S q nums j)) (OO CM.cl CM.n7 List.mem_cons_self (pv 0) Ab (O3 _) (by decide)) (by rw [M_];rfl)) AA)
 unfold effM
 generalize hS:goM S q nums j=S1 at ok1 few1 ea eb
 have hpg:S1.pg=S.pg:=by rw [←hS];rfl
 have hml:S1.mem.length=16 * S1.pg.length:=ok1.ml
 by_cases h1:q.1∈rnames
 ·rw [if_pos h1]
  exact B8 (k:=true) (AW oz_ok (Al (IQ T.t_reck rfl (evv 1)) (decide_eq_true h1))) (fun _=>Aq (DC (Dy CM.cl D_reckon (by walk_at "rm") List.mem_cons_self (pv 0) (E9 (BW oz_ok (evv 1) (E6 _ _)) IB) ⟨⟨S1,q,nums,j,ok1,row,h1,rfl,rfl,rfl,rfl,rfl⟩,rfl⟩)) AA) (fun h=>by cases h)
 rw [if_neg h1]
 refine B8 (k:=false) (AW oz_ok (Al (IQ T.t_reck rfl (evv 1)) (decide_eq_false h1))) (fun h=>by cases h) (fun _=>?_)
 by_cases h2:q.1="store"
 ·rw [if_pos h2]
  have e0:=GB q row.mem (.inr h2)
  have n0:=row.num (i:=0) (c:=120) e0 rfl
  have ra:=DH (Ib hh h2)
  exact Aq (B8 (k:=true) (AW oz_ok (Al (AB (by walk_at "un") (evv 1) hcl (by decide +kernel)) (decide_eq_true h2))) (fun _=>Aq (DC (Dy CM.cl D_poke (by walk_at "rm") List.mem_cons_self (pv 0) (Jh (ds:=[.int (AS S1 nums),.int (boxM S1 (nums.getD 0 0))]) List.mem_cons_self (Aa (Bm CM.cl D_address (by walk_at "rm") (evv 0) (Aa (evv 1) Ac) ⟨S1,q,nums,j,ok1,row,e0,rfl,rfl⟩) (Aa (AC (A7 CM.cl CM.n2 (evv 0) (Eo S1)) (CP row (i:=0) (c:=120) e0 rfl rfl (evv 1)) (Ds ok1 n0.2.1 n0.2.2)) Ac)) rfl) ⟨⟨S1,AS S1 nums,boxM S1 (nums.getD 0 0),by rw [ea];exact ra.1,by rw [ea,hml,hpg];omega,few1,rfl,rfl,rfl,rfl,rfl⟩,rfl⟩)) AA) (fun h=>by cases h)) AA
 rw [if_neg h2]
 refine Aq (B8 (k:=false) (AW oz_ok (Al (AB (by walk_at "un") (evv 1) hcl (by decide +kernel)) (decide_eq_false h2))) (fun h=>by cases h) (fun _=>?_)) AA
 by_cases h3:q.1="out"
 ·rw [if_pos h3]
  have e0:=PN q row.mem (.inr h3)
  have n0:=row.num (i:=0) (c:=120) e0 rfl
  exact Aq (B8 (k:=true) (AW oz_ok (Al (AB (by walk_at "un") (evv 1) hcl (by decide +kernel)) (decide_eq_true h3))) (fun _=>Aq (DC (Dy CM.cl D_tell (by walk_at "rm") List.mem_cons_self (pv 0) (Jh (ds:=[.int (boxM S1 (nums.getD 0 0))]) List.mem_cons_self (Aa (AC (A7 CM.cl CM.n2 (evv 0) (Eo S1)) (CP row (i:=0) (c:=120) e0 rfl rfl (evv 1)) (Ds ok1 n0.2.1 n0.2.2)) Ac) rfl) ⟨⟨S1,boxM S1 (nums.getD 0 0),few1,rfl,rfl,rfl,rfl,rfl⟩,rfl⟩)) AA) (fun h=>by cases h)) AA
 rw [if_neg h3]
 exact Aq (B8 (k:=false) (AW oz_ok (Al (AB (by walk_at "un") (evv 1) hcl (by decide +kernel)) (decide_eq_false h3))) (fun h=>by cases h) (fun _=>Aq (DC (Dy CM.cl D_fill (by walk_at "rm") List.mem_cons_self (pv 0) (E9 (BW oz_ok (evv 1) (E6 _ _)) (E9 (BW oz_ok (evv 2) rfl) IB)) ⟨⟨S1,q,nums,j,behM S q nums j,ok1,row,fun z=>by rw [ea,hpg];exact Ki hh z,rfl,rfl,rfl,rfl,rfl⟩,rfl⟩)) AA)) AA
def Cz (S:MS) (wd:Str) (S':MS):Prop:=(AU S.pg S.mem S.here=.tuple [.str wd,.none]∧S'=S)∨∃j q nums,IsRow q nums j∧AU S.pg S.mem S.here=.tuple [.str "",rowD q.1 nums]∧wd=AX S q.1 nums∧S'=if AX S q.1 nums="" then doM S q nums j else S
theorem Nq {S:MS} (ok:MsOk S):∃wd S',Cz S wd S':=by
 rcases FW ok S.here with ⟨wd,_,e⟩ | ⟨j,q,nums,row,e⟩
 ·exact ⟨wd,S,.inl ⟨e,rfl⟩⟩
 ·exact ⟨_,_,.inr ⟨j,q,nums,row,e,rfl,rfl⟩⟩
theorem Hh (S:MS) (nm:Str) (nums:List Int):PyData.canLay0 (.str (AX S nm nums))=true:=by
 unfold AX
 repeat' split
 all_goals decide +kernel
def ND (lf:LF) (df:DF) (ds:List PyData) (d:PyData) (lf':LF) (df':DF):Prop:=∃(S:MS) (wd:Str) (S':MS),MsOk S∧FewM S∧Cz S wd S'∧lf=lfM S∧df=dfM S∧ds=[]∧d=.str wd∧lf'=lfM S'∧df'=dfM S'
theorem OF {C:Addr} (CM:ClsM K mg C) (D_row_at:DFn P w K mg base 5 "row_at" N9) (D_hind:MFn P w K mg base 4 C "hindrance" (Nv C)) (D_do:OFn P w K mg base 4 C "do" (C0 Qq)) {f:Addr} {fd:FuncData} (F:Fun K "step" "Machine.step" BD f fd) (hm:Meth K C "step" f):OFn P w K mg base 6 C "step" ND:=by
 refine F.objM hm (F.binds fun _ _ _ _ _ _ us hl=>match us,hl with | [_],_=>rfl) sc_Machine_step (fun lf df ds d lf' df' ⟨_,_,_,_,_,_,_,_,e,_⟩=>by rw [e];rfl) fun cdv A outer s H E R lf df ds d lf' df' hr hC ⟨S,wd,S',ok,few,st,e1,e2,e3,e4,e5,e6⟩=>?_
 subst hC e1 e2 e3 e4 e5 e6
 have ne0:∀i:Nat,0 < i→∀z∈[(0,R.a)],z.1≠i:=fun i hi z hz=>by rw [List.mem_singleton.mp hz];exact Nat.ne_of_lt hi
 rcases st with ⟨e,e'⟩ | ⟨j,q,nums,row,e,ew,e'⟩
 ·subst e'
  refine Cv (Jq (i:=1) (j:=2) (CZ (d:=.tuple [.str wd,.none]) List.mem_cons_self (Af D_row_at (by walk_at "rm") rfl (Aa (A7 CM.cl CM.n0 (evv 0) (FU S')) (Aa (A7 CM.cl CM.n1 (evv 0) (Ji S')) (Aa (A7 CM.cl CM.n3 (evv 0) (GQ S')) Ac))) ⟨S',ok,rfl,e.symm⟩) rfl) (B_ rfl (A5 (Au (i:=1) sc_Machine_step.nd rfl (Or.inl rfl)) (A5 (Au (i:=2) sc_Machine_step.nd rfl (Or.inl rfl)) Bw))) (ne0 1 (by decide)) (ne0 2 (by decide))) ?_
  exact LM (k:=true) (AW oz_ok (Gz (evv 2) rfl)) (fun _=>Fg (BW oz_ok (evv 1) rfl)) (fun h=>by cases h)
 ·subst ew
  refine Cv (Jq (i:=1) (j:=2) (CZ (d:=.tuple [.str "",rowD q.1 nums]) List.mem_cons_self (Af D_row_at (by walk_at "rm") rfl (Aa (A7 CM.cl CM.n0 (evv 0) (FU S)) (Aa (A7 CM.cl CM.n1 (evv 0) (Ji S)) (Aa (A7 CM.cl CM.n3 (evv 0) (GQ S)) Ac))) ⟨S,ok,rfl,e.symm⟩) (by show (noL (.str "") && (noL (rowD q.1 nums) && true))=true;rw [E6];rfl)) (B_ rfl (A5 (Au (i:=1) sc_Machine_step.nd rfl (Or.inl rfl)) (A5 (Au (i:=2) sc_Machine_step.nd rfl (Or.inl rfl)) Bw))) (ne0 1 (by decide)) (ne0 2 (by decide))) ?_
  refine LM (k:=false) (AW oz_ok (Gz (evv 2) rfl)) (fun h=>by cases h) (fun _=>?_)
  refine Cv (Cp (i:=1) (d:=.str (AX S q.1 nums)) sc_Machine_step.nd rfl (by show 1∉[0];decide) (Or.inl rfl) (CZ List.mem_cons_self (Bm CM.cl D_hind (by walk_at "rm") (evv 0) (Aa (evv 2) Ac) ⟨S,q,nums,j,ok,row,rfl,rfl⟩) rfl)) ?_
  have hly:=Hh S q.1 nums
  by_cases hh:AX S q.1 nums=""
  ·rw [if_pos hh] at e'
   subst e'
   exact Cv (B8 (k:=true) (AW oz_ok (Al (An (evv 1) Ai (Cy (by walk_at "un") hly (by decide +kernel) (by walk_at "dp") (CH _ _)) (Ak _)) (decide_eq_true hh))) (fun _=>Aq (DC (Dy CM.cl D_do (by walk_at "rm") List.mem_cons_self (pv 0) (E9 (BW oz_ok (evv 2) (E6 _ _)) IB) ⟨⟨S,q,nums,j,ok,few,row,hh,rfl,rfl,rfl,rfl,rfl⟩,rfl⟩)) AA) (fun h=>by cases h)) (Fg (BW oz_ok (evv 1) rfl))
  ·rw [if_neg hh] at e'
   subst e'
   exact Cv (GU oz_ok (AW oz_ok (Al (An (evv 1) Ai (Cy (by walk_at "un") hly (by decide +kernel) (by walk_at "dp") (CH _ _)) (Ak _)) (decide_eq_false hh)))) (Fg (BW oz_ok (evv 1) rfl))
def P_ (many:Nat) (d:PyData):Prop:=∃rs:List Int,rs.length=many∧(∀r∈rs,0≤r∧r < 1000000)∧d=.list (rs.map .int)
def Iq (ds:List PyData):Prop:=∃(ns:List Int) (a:Int) (many:Nat),ns.length≤63∧many≤1000∧ds=[.list (ns.map .int),.int a,.int many]
def numF (ds:List PyData) (d:PyData):Prop:=∃(s a:PyData) (many:Nat),ds=[s,a,.int many]∧P_ many d
theorem LQ {α:Type} (f:α→PyData) (l:List α) (o u:Option Int):∃c:List α,c.length≤l.length∧cutD (l.map f) o u=c.map f:=by
 refine ⟨(l.drop (HT.sIx l.length 0 o)).take (HT.sIx l.length l.length u - HT.sIx l.length 0 o),by rw [List.length_take,List.length_drop];omega,?_⟩
 unfold cutD
 rw [List.length_map,List.map_take,List.map_drop]
def someInts (lo hi:Int) (ds:List PyData) (n:Nat):Prop:=∃rs:List Int,rs.length=n∧(∀r∈rs,lo≤r∧r < hi)∧ds=rs.map PyData.int
theorem someInts.snoc {lo hi r:Int} {ds:List PyData} {n:Nat} (h:someInts lo hi ds n) (h1:lo≤r) (h2:r < hi):someInts lo hi (ds++[.int r]) (n + 1):=by
 obtain ⟨rs,e1,e2,e3⟩:=h
 refine ⟨rs++[r],by simp [e1],fun x hx=>?_,by simp [e3]⟩
 rcases List.mem_append.mp hx with z | z
 ·exact e2 x z
 ·have:=List.mem_singleton.mp z
  subst this
  exact ⟨h1,h2⟩
theorem someInts.len {lo hi:Int} {ds:List PyData} {n:Nat} (h:someInts lo hi ds n):ds.length=n:=by
 obtain ⟨rs,e1,e2,e3⟩:=h
 rw [e3,List.length_map,e1]
theorem JG {k:Int} (h0:0≤k) (h1:k≤1000):0≤1009 * k * k∧1009 * k * k≤1009000000:=by
 have a:0≤1009 * k:=by omega
 have b:1009 * k≤1009000:=by omega
 refine ⟨Int.mul_nonneg a h0,?_⟩
 have c:1009 * k * k≤1009000 * 1000:=Int.mul_le_mul b h1 h0 (by decide)
 exact c
def GN (s a:Option PyData) (many:Nat) (zs:List Int) (G:Gam) (c r t k n:Option PyData):Prop:=G=[s,a,some (.int many),some (.list (zs.map PyData.int)),none,c,r,t,k,n]
theorem Fz (T:Txt mg) {f:Addr} {fd:FuncData} (F:Fun K "_law_numbers" "_law_numbers" Cf f fd) (hm:mg "_law_numbers"=some (.ref f)):RFn P w K mg base 1 "_law_numbers" numF Iq:=by
 refine F.dataR hm (F.binds fun _ _ _ _ _ _ us hl=>match us,hl with | [_,_,_],_=>rfl) sc_law_numbers (fun ds ⟨ns,a,many,_,_,e⟩=>by rw [e];rfl) fun cdv A outer s H E ds hr ⟨ns,a,many,hns,hmany,e⟩=>?_
 subst e
 obtain ⟨cs,hcs,ecs⟩:=LQ PyData.int ns (some a) none
 refine Mc (Do (ix:=[]) (N:=["cell"]) (B:=bind1) (as:=cs) (D:=PyData.int) (fun _=>true) (fun z=>PyData.int (z % 10 ^ 60)) rfl sc_law_numbers.nd (i:=3) rfl rfl (of_decide_eq_true (by kernel_rfl)) (Bd (by decide))
  (J3 (Av (by first | exact P9 (evv 0) (EC (evv 1)) EA | exact Ig (evv 0) (EC (evv 1)) EA (by walk_at "sl")) (congrArg PyData.list ecs))) (by rw [sizeLine_eq];omega) (fun _ _=>D_ _) (fun _ _ _ _ _=>Au (i:=0) (show List.Nodup (["cell"]:List Str) by decide +kernel) rfl (Or.inl rfl)) (fun a ha cl C s H fp=>Er)
  (fun a ha hP cl C s H fp=>(Ad (evv 0) (Ad Ab Ab (by walk_at "od")) (by walk_at "od")))) ?_
 rw [Bg]
 have ez:cs.map (fun z=>PyData.int (z % 10 ^ 60))=(cs.map fun z=>z % 10 ^ 60).map PyData.int:=by rw [List.map_map];rfl
 rw [ez]
 have hzl:(cs.map fun z=>z % 10 ^ 60).length≤63:=by rw [List.length_map];omega
 generalize (cs.map fun z=>z % 10 ^ 60)=zs at hzl
 refine Np (i:=4) sc_law_numbers.nd rfl (Or.inl rfl) (by simp [AO]) fun H0 p=>?_
 refine HS (Mid:=fun G ds=>∃c r t k n m,GN (some (.list (ns.map PyData.int))) (some (.int a)) many zs G c r t k n∧m≤many∧someInts 0 1000000 ds m) ?_ ?_
 ·
  refine KZ (PreA:=fun G ds=>GN (some (.list (ns.map PyData.int))) (some (.int a)) many zs G none none none none none∧ds=[]) (PreB:=fun G ds=>GN (some (.list (ns.map PyData.int))) (some (.int a)) many zs G none none none none none∧ds=[]) ?_ ?_ (BB ?_)
  ·rintro G ds ⟨rfl,rfl⟩
   cases zs with
   | nil=>exact .inr ⟨Al (B3 (Bc (k':=false) (An (Aw "len" (Aa (evv 3) Ac) (by walk_at "cd") rfl T.b_len (by decide +kernel)) Ab (by walk_at "od") (Ak _)) (fun h=>by simp at h))) (by simp),rfl,rfl⟩
   | cons z zs=>
     cases hq:(z % 2==0) with
     | true=>exact .inl ⟨Al (B3 (Bc (An (Aw "len" (Aa (evv 3) Ac) (by walk_at "cd") rfl T.b_len (by decide +kernel)) Ab (by walk_at "od") (Ak _)) (fun _=>(Bx (An (Ad (by first | exact AC (evv 3) Ab (by walk_at "at") | exact AE (evv 3) Ab (by walk_at "at")) Ab (by walk_at "od")) Ab (by walk_at "od") (Ak _)))))) (by rw [show (PyData.int (z % 2)).eqv (.int 0)=(z % 2==0) from rfl,hq];simp),rfl,rfl⟩
     | false=>exact .inr ⟨Al (B3 (Bc (An (Aw "len" (Aa (evv 3) Ac) (by walk_at "cd") rfl T.b_len (by decide +kernel)) Ab (by walk_at "od") (Ak _)) (fun _=>(Bx (An (Ad (by first | exact AC (evv 3) Ab (by walk_at "at") | exact AE (evv 3) Ab (by walk_at "at")) Ab (by walk_at "od")) Ab (by walk_at "od") (Ak _)))))) (by rw [show (PyData.int (z % 2)).eqv (.int 0)=(z % 2==0) from rfl,hq];simp),rfl,rfl⟩
  ·
   refine AT (Mid:=fun G ds=>∃c r t k n m,GN (some (.list (ns.map PyData.int))) (some (.int a)) many zs G c r t k n∧m≤many∧someInts 0 1000000 ds m) ?_ (BB fun _ _ h=>h)
   refine Nn (j:=5) (m:=3) (xs:=zs.map PyData.int) (fun _ G ds=>∃c r t k n m,GN (some (.list (ns.map PyData.int))) (some (.int a)) many zs G c r t k n∧m≤many∧someInts 0 1000000 ds m) PassesOwn.never rfl (by decide) (Au (i:=5) sc_law_numbers.nd rfl (Or.inl rfl)) (pv 3) ?_ ?_ fun _ _ h=>h
   ·rintro G ds ⟨rfl,rfl⟩
    exact ⟨⟨_,_,_,_,_,0,rfl,Nat.zero_le _,[],rfl,by simp,rfl⟩,rfl⟩
   ·intro H1 i d hd
    obtain ⟨z,rfl⟩:∃z,d=PyData.int z:=by
     rw [List.getElem?_map] at hd
     cases q:zs[i]? with
     | none=>rw [q] at hd;cases hd
     | some z=>rw [q] at hd;exact ⟨z,(Option.some.inj hd).symm⟩
    refine AT (Mid:=fun G ds=>∃r t k n m,GN (some (.list (ns.map PyData.int))) (some (.int a)) many zs G (some (.int z)) (some (.int r)) t k n∧m≤many∧someInts 0 1000000 ds m) (Ec (j:=6) sc_law_numbers.nd rfl (by decide) (Or.inl rfl) ?_) ?_
    ·rintro G ds ⟨G',⟨c,r,t,k,n,m,rfl,hm,hd⟩,rfl⟩
     exact ⟨_,(Ad (evv 5) Ab (by walk_at "od")),rfl,_,_,_,_,m,rfl,hm,hd⟩
    ·refine AT (Mid:=fun G ds=>∃c r t k n m,GN (some (.list (ns.map PyData.int))) (some (.int a)) many zs G c r t k n∧m≤many∧someInts 0 1000000 ds m) ?_ (BB fun _ _ h=>h)
     refine Jz (j:=7) (lo:=0) (n:=(10:Int).toNat) (fun _ G ds=>∃r t k n m,GN (some (.list (ns.map PyData.int))) (some (.int a)) many zs G (some (.int z)) (some (.int r)) t k n∧m≤many∧someInts 0 1000000 ds m) PassesOwn.never rfl (by decide) (Au (i:=7) sc_law_numbers.nd rfl (Or.inl rfl)) ?_ ?_ ?_
     ·rintro G ds ⟨r,t,k,n,m,rfl,hm,hd⟩
      exact ⟨⟨r,t,k,n,m,rfl,hm,hd⟩,Qg Ab (by decide) (by decide) rfl T.b_range⟩
     ·intro j hj
      refine AT (Mid:=fun G ds=>∃r t k n m,GN (some (.list (ns.map PyData.int))) (some (.int a)) many zs G (some (.int z)) (some (.int r)) t k n∧m≤many∧someInts 0 1000000 ds m) ?_ (BB fun _ _ h=>h)
      refine KZ (PreA:=fun G ds=>∃r t k n m,GN (some (.list (ns.map PyData.int))) (some (.int a)) many zs G (some (.int z)) (some (.int r)) t k n∧m < many∧someInts 0 1000000 ds m) (PreB:=fun G ds=>∃r t k n m,GN (some (.list (ns.map PyData.int))) (some (.int a)) many zs G (some (.int z)) (some (.int r)) t k n∧m≤many∧someInts 0 1000000 ds m) ?_ ?_ (BB fun _ _ h=>h)
      ·rintro G ds ⟨G',⟨r,t,k,n,m,rfl,hm,hd⟩,rfl⟩
       have hl:=hd.len
       by_cases hlt:m < many
       ·by_cases hor:(0:Int) + (j:Nat)=0∨0 < r
        ·exact .inl ⟨Al (B3 (Bc (An (Aw "len" (Aa (evv 4) Ac) (by walk_at "cd") rfl T.b_len (by decide +kernel)) (evv 2) (by walk_at "od") (Ak _)) (fun _=>(Bx (B3 (DK (An (evv 7) Ab (by walk_at "od") (Ak _)) (fun _=>(C8 (An (evv 6) Ab (by walk_at "od") (Ak _)))))))))) (by
          rw [show (PyData.int (0 + (j:Nat))).eqv (.int 0)=((0:Int) + (j:Nat)==0) from rfl]
          have e1:decide ((ds.length:Int) < (many:Nat))=true:=by simp;omega
          rw [e1]
          rcases hor with z | z
          ·rw [z];rfl
          ·rw [decide_eq_true z];simp),_,_,_,_,m,rfl,hlt,hd⟩
        ·exact .inr ⟨Al (B3 (Bc (An (Aw "len" (Aa (evv 4) Ac) (by walk_at "cd") rfl T.b_len (by decide +kernel)) (evv 2) (by walk_at "od") (Ak _)) (fun _=>(Bx (B3 (DK (An (evv 7) Ab (by walk_at "od") (Ak _)) (fun _=>(C8 (An (evv 6) Ab (by walk_at "od") (Ak _)))))))))) (by
          rw [show (PyData.int (0 + (j:Nat))).eqv (.int 0)=((0:Int) + (j:Nat)==0) from rfl]
          have e1:((0:Int) + (j:Nat)==0)=false:=by simp;omega
          have e2:decide (0 < r)=false:=by simp;omega
          rw [e1,e2];simp),_,_,_,_,m,rfl,hm,hd⟩
       ·exact .inr ⟨Al (B3 (Bc (k':=false) (An (Aw "len" (Aa (evv 4) Ac) (by walk_at "cd") rfl T.b_len (by decide +kernel)) (evv 2) (by walk_at "od") (Ak _)) (fun h=>by simp at h;omega))) (by simp),_,_,_,_,m,rfl,hm,hd⟩
      ·
       refine AT (Mid:=fun G ds=>∃r t k n m,GN (some (.list (ns.map PyData.int))) (some (.int a)) many zs G (some (.int z)) (some (.int r)) t k n∧m≤many∧someInts 0 1000000 ds m) (FG ?_ (pv 4)) (AT (Ec (j:=6) sc_law_numbers.nd rfl (by decide) (Or.inl rfl) ?_) (BB fun _ _ h=>h))
       ·rintro G ds ⟨r,t,k,n,m,rfl,hlt,hd⟩
        have hl:=hd.len
        exact ⟨.int (r % 1000000),Av (Ad (evv 6) (Ad Ab Ab (by walk_at "od")) (by walk_at "od")) rfl,rfl,by rw [hl,sizeLine_eq];omega,_,_,_,_,m + 1,rfl,hlt,hd.snoc (by omega) (by omega)⟩
       ·rintro G ds ⟨r,t,k,n,m,rfl,hm,hd⟩
        exact ⟨_,(Ad (evv 6) (Ad Ab Ab (by walk_at "od")) (by walk_at "od")),rfl,_,_,_,_,m,rfl,hm,hd⟩
     ·rintro G ds ⟨r,t,k,n,m,h,hm,hd⟩
      exact ⟨_,_,_,_,_,m,h,hm,hd⟩
  ·rintro G ds ⟨rfl,rfl⟩
   exact ⟨_,_,_,_,_,0,rfl,Nat.zero_le _,[],rfl,by simp,rfl⟩
 ·
  refine HS (Mid:=fun G ds=>someInts 0 1000000 ds many) ?_ (Nk (pv 4) fun G ds ⟨rs,h1,h2,h3⟩=>⟨_,_,many,rfl,rs,h1,h2,congrArg PyData.list h3⟩)
  refine Qh (Pr:=fun (q:Option PyData×Option PyData×Option PyData×Option PyData×Option PyData×Nat) G ds=>GN (some (.list (ns.map PyData.int))) (some (.int a)) many zs G q.1 q.2.1 q.2.2.1 q.2.2.2.1 q.2.2.2.2.1∧q.2.2.2.2.2≤many∧someInts 0 1000000 ds q.2.2.2.2.2) ?_ |>.imp fun D σ H ⟨⟨G,ds,⟨c,r,t,k,n,m,h⟩,o⟩,q⟩=>⟨⟨G,ds,⟨(c,r,t,k,n,m),h⟩,o⟩,q⟩
  rintro ⟨c,r,t,k,n,m⟩
  refine Jz (j:=8) (lo:=m) (n:=((many:Int) - (m:Int)).toNat) (fun i G ds=>(∃c r t k n,GN (some (.list (ns.map PyData.int))) (some (.int a)) many zs G c r t k n)∧m≤many∧someInts 0 1000000 ds (m + i)) PassesOwn.never rfl (by decide) (Au (i:=8) sc_law_numbers.nd rfl (Or.inl rfl)) ?_ ?_ ?_
  ·rintro G ds ⟨rfl,hm,hd⟩
   have hm:m≤many:=hm
   have hl:ds.length=m:=hd.len
   refine ⟨⟨⟨_,_,_,_,_,rfl⟩,hm,hd⟩,?_⟩
   exact Qu (m:=(m:Int)) (n:=(many:Int)) (Av (Aw "len" (Aa (evv 4) Ac) (by walk_at "cd") rfl T.b_len (by decide +kernel)) (by rw [hl])) (evv 2) ⟨by omega,by omega,by omega,by omega⟩ rfl T.b_range
  ·intro i hi
   refine AT (Mid:=fun G ds=>(∃c r t v,GN (some (.list (ns.map PyData.int))) (some (.int a)) many zs G c r t (some (.int ((m:Int) + (i:Nat)))) (some (.int v))∧0≤v∧v≤1009008000)∧m≤many∧someInts 0 1000000 ds (m + i)) (Ec (j:=9) sc_law_numbers.nd rfl (by decide) (Or.inl rfl) ?_) ?_
   ·rintro G ds ⟨G',⟨⟨c,r,t,k,n,rfl⟩,hm,hd⟩,rfl⟩
    have hk0:0≤(m:Int) + (i:Nat):=by omega
    have hk1:(m:Int) + (i:Nat)≤1000:=by omega
    obtain ⟨q0,q1⟩:=JG hk0 hk1
    exact ⟨_,(Ad (Ad (Ad (Ad Ab (evv 8) (by walk_at "od")) (evv 8) (by walk_at "od")) (Ad Ab (evv 8) (by walk_at "od")) (by walk_at "od")) Ab (by walk_at "od")),rfl,⟨_,_,_,_,rfl,by omega,by omega⟩,hm,hd⟩
   refine AT (Mid:=fun G ds=>(∃c r t v,GN (some (.list (ns.map PyData.int))) (some (.int a)) many zs G c r t (some (.int ((m:Int) + (i:Nat)))) (some (.int v))∧0≤v∧v≤4000000000)∧m≤many∧someInts 0 1000000 ds (m + i)) ?_ ?_
   ·refine KZ (PreA:=fun G ds=>0 < zs.length∧(∃c r t v,GN (some (.list (ns.map PyData.int))) (some (.int a)) many zs G c r t (some (.int ((m:Int) + (i:Nat)))) (some (.int v))∧0≤v∧v≤1009008000)∧m≤many∧someInts 0 1000000 ds (m + i)) (PreB:=fun G ds=>(∃c r t v,GN (some (.list (ns.map PyData.int))) (some (.int a)) many zs G c r t (some (.int ((m:Int) + (i:Nat)))) (some (.int v))∧0≤v∧v≤1009008000)∧m≤many∧someInts 0 1000000 ds (m + i)) ?_ ?_ (BB ?_)
    ·rintro G ds ⟨⟨c,r,t,v,rfl,h1,h2⟩,hm,hd⟩
     by_cases hz:0 < zs.length
     ·exact .inl ⟨Al (An (Aw "len" (Aa (evv 3) Ac) (by walk_at "cd") rfl T.b_len (by decide +kernel)) Ab (by walk_at "od") (Ak _)) (by simp;omega),hz,⟨_,_,_,_,rfl,h1,h2⟩,hm,hd⟩
     ·exact .inr ⟨Al (An (Aw "len" (Aa (evv 3) Ac) (by walk_at "cd") rfl T.b_len (by decide +kernel)) Ab (by walk_at "od") (Ak _)) (by simp;exact List.eq_nil_of_length_eq_zero (by omega)),⟨_,_,_,_,rfl,h1,h2⟩,hm,hd⟩
    ·refine AT (Ec (j:=9) sc_law_numbers.nd rfl (by decide) (Or.inl rfl) ?_) (BB fun _ _ h=>h)
     rintro G ds ⟨hz,⟨c,r,t,v,rfl,h1,h2⟩,hm,hd⟩
     have hlm:((List.map PyData.int zs).length:Int)=zs.length:=by rw [List.length_map]
     have hp:0 < ((List.map PyData.int zs).length:Int):=by omega
     have hi0:0≤((m:Int) + (i:Nat)) % ((List.map PyData.int zs).length:Int):=Int.emod_nonneg _ (by omega)
     have hi1:((m:Int) + (i:Nat)) % ((List.map PyData.int zs).length:Int) < zs.length:=by rw [←hlm];exact Int.emod_lt_of_pos _ hp
     have hz':(0:Int) < zs.length:=by omega
     exact ⟨_,(Ad (Ad (evv 9) (Ad (by first | exact AC (evv 3) (Ad (evv 8) (Aw "len" (Aa (evv 3) Ac) (by walk_at "cd") rfl T.b_len (by decide +kernel)) (by walk_at "od")) (by walk_at "at") | exact AE (evv 3) (Ad (evv 8) (Aw "len" (Aa (evv 3) Ac) (by walk_at "cd") rfl T.b_len (by decide +kernel)) (by walk_at "od")) (by walk_at "at")) Ab (by walk_at "od")) (by walk_at "od")) (Ad (by first | exact AC (evv 3) Ab (by walk_at "at") | exact AE (evv 3) Ab (by walk_at "at")) Ab (by walk_at "od")) (by walk_at "od")),rfl,⟨_,_,_,_,rfl,by omega,by omega⟩,hm,hd⟩
    ·rintro G ds ⟨⟨c,r,t,v,rfl,h1,h2⟩,hm,hd⟩
     exact ⟨⟨_,_,_,_,rfl,h1,by omega⟩,hm,hd⟩
   refine AT (Mid:=fun G ds=>(∃c r t v,GN (some (.list (ns.map PyData.int))) (some (.int a)) many zs G c r t (some (.int ((m:Int) + (i:Nat)))) (some (.int v))∧0≤v∧v≤4000000000)∧m≤many∧someInts 0 1000000 ds (m + i)) (Ec (j:=9) sc_law_numbers.nd rfl (by decide) (Or.inl rfl) ?_) ?_
   ·rintro G ds ⟨⟨c,r,t,v,rfl,h1,h2⟩,hm,hd⟩
    exact ⟨_,(Ad (Ad (evv 9) (evv 9) (by walk_at "od")) Ab (by walk_at "od")),rfl,⟨_,_,_,_,rfl,by omega,by omega⟩,hm,hd⟩
   refine AT (Mid:=fun G ds=>(∃c r t v,GN (some (.list (ns.map PyData.int))) (some (.int a)) many zs G c r t (some (.int ((m:Int) + (i:Nat)))) (some (.int v))∧0≤v∧v≤4000000000)∧m≤many∧someInts 0 1000000 ds (m + i)) (Ec (j:=9) sc_law_numbers.nd rfl (by decide) (Or.inl rfl) ?_) ?_
   ·rintro G ds ⟨⟨c,r,t,v,rfl,h1,h2⟩,hm,hd⟩
    exact ⟨_,(Ad (Ad (Ad (evv 9) Ab (by walk_at "od")) (Ad Ab (evv 8) (by walk_at "od")) (by walk_at "od")) Ab (by walk_at "od")),rfl,⟨_,_,_,_,rfl,by omega,by omega⟩,hm,hd⟩
   refine AT (FG ?_ (pv 4)) (BB fun _ _ h=>h)
   rintro G ds ⟨⟨c,r,t,v,rfl,h1,h2⟩,hm,hd⟩
   have hl:=hd.len
   exact ⟨.int (v * v % 998244353 % 1000000),Av (Ad (Ad (Ad (evv 9) (evv 9) (by walk_at "od")) Ab (by walk_at "od")) (Ad Ab Ab (by walk_at "od")) (by walk_at "od")) rfl,rfl,by rw [hl,sizeLine_eq];omega,⟨_,_,_,_,_,rfl⟩,hm,hd.snoc (by omega) (by omega)⟩
  ·rintro G ds ⟨_,hm,hd⟩
   have e:m + ((many:Int) - (m:Int)).toNat=many:=by omega
   rw [e] at hd
   exact hd
structure Kept (S S':MS):Prop where
 ok:MsOk S'
 pg:S'.pg=S.pg
 sto:S'.sto.length≤S.sto.length + 1
 told:S'.told.length≤S.told.length + 1
 sub:∀c∈S.sto,c∈S'.sto
 mem:∀n:Nat,S'.mem.getD n 0=S.mem.getD n 0∨(n:Int)∈S'.sto
theorem Ff {l:List Int} {n:Nat} {v:Int} (h:∀z∈l,0≤z∧z < 4096) (hv:0≤v∧v < 4096):∀z∈l.set n v,0≤z∧z < 4096:=fun z hz=>by
 rcases List.mem_or_eq_of_mem_set hz with h1 | h1
 ·exact h z h1
 ·rw [h1];exact hv
theorem JB {l:List Int} (h:∀z∈l,0≤z∧z < 4096) (n:Nat):0≤l.getD n 0∧l.getD n 0 < 4096:=by
 rw [List.getD_eq_getElem?_getD]
 cases e:l[n]? with
 | none=>exact ⟨Int.le_refl 0,by decide⟩
 | some v=>exact h v (List.mem_of_getElem? e)
theorem DW {S:MS} (ok:MsOk S):Kept S S:=⟨ok,rfl,Nat.le_succ _,Nat.le_succ _,fun _ h=>h,fun _=>.inl rfl⟩
theorem Ja {S S':MS} (ok:MsOk S) (e1:S'.pg=S.pg) (e2:S'.mem=S.mem) (e3:S'.sto=S.sto) (e4:S'.told=S.told) (bl:S'.bx.length=4) (bw:∀z∈S'.bx,0≤z∧z < 4096) (h:0≤S'.here∧S'.here < 4096):Kept S S':=
 ⟨⟨by rw [e1];exact ok.p1,by rw [e1];exact ok.p8,by rw [e1,e2];exact ok.ml,by rw [e2];exact ok.mw,bl,bw,h⟩,e1,by rw [e3];omega,by rw [e4];omega,fun c hc=>by rw [e3];exact hc,fun n=>.inl (by rw [e2])⟩
theorem CT {S:MS} (ok:MsOk S) {x v:Int} (hv:0≤v∧v < 4096):Kept S (setB S x v):=
 Ja ok rfl rfl rfl rfl (by show (S.bx.set x.toNat v).length=4;rw [List.length_set];exact ok.bl) (Ff ok.bw hv) ok.h
theorem Kg {S:MS} (ok:MsOk S) {c v:Int} (hc:0≤c) (hv:0≤v∧v < 4096):Kept S (EQ S c v):=by
 refine ⟨⟨ok.p1,ok.p8,by show (S.mem.set c.toNat v).length=_;rw [List.length_set];exact ok.ml,Ff ok.mw hv,ok.bl,ok.bw,ok.h⟩,rfl,?_,Nat.le_succ _,fun z hz=>List.mem_append_left _ hz,fun n=>?_⟩
 ·show (S.sto++[c]).length≤_
  rw [List.length_append]
  exact Nat.le_refl _
 ·by_cases e:c.toNat=n
  ·exact .inr (List.mem_append_right _ (by rw [show ((n:Nat):Int)=c by omega];exact List.mem_singleton_self c))
  ·refine .inl ?_
   show (S.mem.set c.toNat v).getD n 0=_
   rw [List.getD_eq_getElem?_getD,List.getD_eq_getElem?_getD,List.getElem?_set_ne e]
theorem Ke {S:MS} (ok:MsOk S) {v:Int}:Kept S (Hu S v):=by
 refine ⟨⟨ok.p1,ok.p8,ok.ml,ok.mw,ok.bl,ok.bw,ok.h⟩,rfl,Nat.le_succ _,?_,fun _ h=>h,fun _=>.inl rfl⟩
 show (S.told++[v]).length≤_
 rw [List.length_append]
 exact Nat.le_refl _
theorem Kl {S:MS} (ok:MsOk S) (nm:Str) (nums:List Int):Kept S (HQ S nm nums):=by
 have hw:∀z:Int,0≤z % 4096∧z % 4096 < 4096:=fun z=>by omega
 refine Ja ok rfl rfl rfl rfl ?_ ?_ ok.h
 ·show (if nm="cmp" then S.bx else S.bx.set _ _).length=4
  split
  ·exact ok.bl
  ·rw [List.length_set];exact ok.bl
 ·show ∀z∈(if nm="cmp" then S.bx else S.bx.set _ _),_
  split
  ·exact ok.bw
  ·exact Ff ok.bw (hw _)
theorem JF {S:MS} {q:Str×Str} {nums:List Int} {j:Nat} (ok:MsOk S) (row:IsRow q nums j) {b:Int} (hb:0≤b∧b < 4096):Kept S (Fa S q.1 nums b):=by
 unfold Fa
 split
 ·rename_i h
  have n1:=row.num (i:=1) (c:=110) (Hq q row.mem (.inl h)) rfl
  have h4:Ba 110=4096:=rfl
  exact CT ok (by omega)
 split
 ·exact CT ok (BE ok _)
 split
 ·exact CT ok (JB ok.mw _)
 split
 ·exact CT ok hb
 ·exact DW ok
theorem Lz {S:MS} {q:Str×Str} {nums:List Int} {j:Nat} (ok:MsOk S) (row:IsRow q nums j) {b:Int} (hb:0≤b∧b < 4096):Kept S (effM S q nums b):=by
 unfold effM
 split
 ·exact Kl ok _ _
 split
 ·exact Kg ok (MD S nums).1 (BE ok _)
 split
 ·exact Ke ok
 ·exact JF ok row hb
theorem Mq {S:MS} {q:Str×Str} {nums:List Int} {j:Nat} (ok:MsOk S) (row:IsRow q nums j):Kept S (doM S q nums j):=by
 have k:=Lz (NP ok row) row (Lj S q nums j)
 exact ⟨⟨k.ok.p1,k.ok.p8,k.ok.ml,k.ok.mw,k.ok.bl,k.ok.bw,k.ok.h⟩,k.pg,k.sto,k.told,k.sub,k.mem⟩
theorem Gh {S S':MS} {wd:Str} (ok:MsOk S) (st:Cz S wd S'):Kept S S':=by
 rcases st with ⟨_,e⟩ | ⟨j,q,nums,row,_,_,e⟩
 ·rw [e];exact DW ok
 ·rw [e]
  split
  ·exact Mq ok row
  ·exact DW ok
theorem Mr (T:Txt mg) {C:Addr} (CM:ClsM K mg C) {f:Addr} {fd:FuncData} (F:Fun K "cells" "Machine.cells" B2 f fd) (hm:Meth K C "cells" f):MFn P w K mg base 1 C "cells" (fun ds d=>∃S:MS,ds=[mcD C S]∧d=.list (S.mem.map PyData.int)):=by
 refine F.dataM hm (F.binds fun _ _ _ _ _ _ us hl=>match us,hl with | [_],_=>rfl) Eg (fun ds d ⟨_,e,_⟩=>by rw [e];rfl) fun cdv A outer s H E ds d hr ⟨S,e,e2⟩=>?_
 subst e e2
 exact Ah (Ap (Dr (Bh (A7 CM.cl CM.n1 (evv 0) (Ji S)) rfl T.b_list)))
theorem MH (T:Txt mg) {C:Addr} (CM:ClsM K mg C) {f:Addr} {fd:FuncData} (F:Fun K "boxes" "Machine.boxes" B6 f fd) (hm:Meth K C "boxes" f):MFn P w K mg base 1 C "boxes" (fun ds d=>∃S:MS,ds=[mcD C S]∧d=.list (S.bx.map PyData.int)):=by
 refine F.dataM hm (F.binds fun _ _ _ _ _ _ us hl=>match us,hl with | [_],_=>rfl) DT (fun ds d ⟨_,e,_⟩=>by rw [e];rfl) fun cdv A outer s H E ds d hr ⟨S,e,e2⟩=>?_
 subst e e2
 exact Ah (Ap (Dr (Bh (A7 CM.cl CM.n2 (evv 0) (Eo S)) rfl T.b_list)))
theorem MM (T:Txt mg) {C:Addr} (CM:ClsM K mg C) {f:Addr} {fd:FuncData} (F:Fun K "place" "Machine.place" B4 f fd) (hm:Meth K C "place" f):MFn P w K mg base 1 C "place" (fun ds d=>∃S:MS,ds=[mcD C S]∧d=.int S.here):=by
 refine F.dataM hm (F.binds fun _ _ _ _ _ _ us hl=>match us,hl with | [_],_=>rfl) Ef (fun ds d ⟨_,e,_⟩=>by rw [e];rfl) fun cdv A outer s H E ds d hr ⟨S,e,e2⟩=>?_
 subst e e2
 exact Ah (Ap (A7 CM.cl CM.n3 (evv 0) (GQ S)))
theorem P3 (T:Txt mg) {C:Addr} (CM:ClsM K mg C) {f:Addr} {fd:FuncData} (F:Fun K "told" "Machine.told" BK f fd) (hm:Meth K C "told" f):MFn P w K mg base 1 C "told" (fun ds d=>∃S:MS,ds=[mcD C S]∧d=.list (S.told.map PyData.int)):=by
 refine F.dataM hm (F.binds fun _ _ _ _ _ _ us hl=>match us,hl with | [_],_=>rfl) Eu (fun ds d ⟨_,e,_⟩=>by rw [e];rfl) fun cdv A outer s H E ds d hr ⟨S,e,e2⟩=>?_
 subst e e2
 exact Ah (Ap (Dr (Bh (A7 CM.cl CM.n5 (evv 0) (Of S)) rfl T.b_list)))
def HX (S:MS):MS:={S with sto:=[]}
theorem LD {S:MS} (ok:MsOk S):MsOk (HX S):=⟨ok.p1,ok.p8,ok.ml,ok.mw,ok.bl,ok.bw,ok.h⟩
def B9 (l:List Int) (S:MS):MS:={S with sto:=l++S.sto}
theorem MX (S:MS) (l:List Int) (q:Str×Str) (nums:List Int) (b:Int):effM (B9 l S) q nums b=B9 l (effM S q nums b):=by
 unfold effM
 by_cases h1:q.1∈rnames
 ·rw [if_pos h1,if_pos h1];rfl
 rw [if_neg h1,if_neg h1]
 by_cases h2:q.1="store"
 ·rw [if_pos h2,if_pos h2]
  show EQ (B9 l S) (AS S nums) (boxM S (nums.getD 0 0))=_
  unfold EQ B9
  rw [List.append_assoc]
 rw [if_neg h2,if_neg h2]
 by_cases h3:q.1="out"
 ·rw [if_pos h3,if_pos h3];rfl
 rw [if_neg h3,if_neg h3]
 unfold Fa
 by_cases h4:q.1="set"
 ·rw [if_pos h4,if_pos h4];rfl
 rw [if_neg h4,if_neg h4]
 by_cases h5:q.1="move"
 ·rw [if_pos h5,if_pos h5];rfl
 rw [if_neg h5,if_neg h5]
 by_cases h6:q.1="load"
 ·rw [if_pos h6,if_pos h6];rfl
 rw [if_neg h6,if_neg h6]
 by_cases h7:q.1="call"
 ·rw [if_pos h7,if_pos h7];rfl
 rw [if_neg h7,if_neg h7]
theorem NX (S:MS) (l:List Int) (q:Str×Str) (nums:List Int) (j:Nat):doM (B9 l S) q nums j=B9 l (doM S q nums j):=by
 have h:=MX (goM S q nums j) l q nums (behM S q nums j)
 show ({effM (B9 l (goM S q nums j)) q nums (behM S q nums j) with done:=(effM (B9 l (goM S q nums j)) q nums (behM S q nums j)).done + 1}:MS)=_
 rw [h]
 rfl
theorem Mb {S S':MS} {wd:Str} (l:List Int) (st:Cz S wd S'):Cz (B9 l S) wd (B9 l S'):=by
 rcases st with ⟨e,e'⟩ | ⟨j,q,nums,row,e,ew,e'⟩
 ·exact .inl ⟨e,by rw [e']⟩
 ·refine .inr ⟨j,q,nums,row,e,ew,?_⟩
  show B9 l S'=if AX S q.1 nums="" then doM (B9 l S) q nums j else B9 l S
  rw [e']
  split
  ·rw [NX]
  ·rfl
theorem QG (S:MS):B9 S.sto (HX S)=S:=by
 unfold B9 HX
 rw [List.append_nil]
open Classical in
noncomputable def Lf (S:MS):Str×MS:=if h:∃p:Str×MS,Cz (HX S) p.1 p.2 then h.choose else ("",S)
noncomputable def AK (S:MS):Str×MS:=((Lf S).1,B9 S.sto (Lf S).2)
theorem DQ {S:MS} (ok:MsOk S):Cz S (AK S).1 (AK S).2:=by
 obtain ⟨wd,S',st⟩:=Nq (LD ok)
 have hx:∃p:Str×MS,Cz (HX S) p.1 p.2:=⟨(wd,S'),st⟩
 have e:Lf S=hx.choose:=dif_pos hx
 have h:=Mb S.sto hx.choose_spec
 rw [QG,←e] at h
 exact h
noncomputable def runF:Nat→MS→Nat×Str×MS
 | 0,S=>(0,"",S)
 | n + 1,S=>if (AK S).1="" then ((runF n (AK S).2).1 + 1,(runF n (AK S).2).2) else (0,(AK S).1,(AK S).2)
end
section
variable {P:Program} {w:World} {K:PySem.W.Frag} {mg:Str→Option Value} {base:Heap}
def fr17 (n k:Nat) (w:Option PyData):Gam:=[none,some (.int n),some (.int k),w]
def Ws (S:MS) (n:Nat) (k:Nat) (G:Gam) (T:MS):Prop:=(∃w,G=fr17 n k w)∧MsOk T∧k≤n∧T.sto.length≤S.sto.length + k∧T.told.length≤S.told.length + k∧runF n S=((runF (n - k) T).1 + k,(runF (n - k) T).2)
def NN (lf:LF) (df:DF) (ds:List PyData) (d:PyData) (lf':LF) (df':DF):Prop:=∃(S:MS) (n:Nat),MsOk S∧S.sto.length + n < 100000∧S.told.length + n < 100000∧lf=lfM S∧df=dfM S∧ds=[.int n]∧d=.tuple [.int (runF n S).1,.str (runF n S).2.1]∧lf'=lfM (runF n S).2.2∧df'=dfM (runF n S).2.2
theorem KH {S S':MS} {wd:Str} (ok:MsOk S) (st:Cz S wd S'):PyData.canLay0 (.str wd)=true:=by
 rcases st with ⟨e,_⟩ | ⟨j,q,nums,row,e,ew,_⟩
 ·rcases FW ok S.here with ⟨w2,hw,e2⟩ | ⟨j,q,nums,row,e2⟩
  ·rw [e] at e2
   cases e2
   first | exact hw | (rcases hw with rfl | rfl | rfl <;> decide +kernel) | (rcases hw with rfl | rfl <;> decide +kernel) | (subst hw;decide +kernel)
  ·rw [e] at e2
   cases e2
 ·rw [ew]
  exact Hh _ _ _
theorem Mz {C:Addr} (CM:ClsM K mg C) (D_step:OFn P w K mg base 6 C "step" ND) {f:Addr} {fd:FuncData} (F:Fun K "steps" "Machine.steps" B7 f fd) (hm:Meth K C "steps" f):OFn P w K mg base 7 C "steps" NN:=by
 refine F.objM hm (F.binds fun _ _ _ _ _ _ us hl=>match us,hl with | [_,_],_=>rfl) sc_Machine_steps (fun lf df ds d lf' df' ⟨_,_,_,_,_,_,_,e,_⟩=>by rw [e];rfl) fun cdv A outer s H E R lf df ds d lf' df' hr hC ⟨S,n,ok,hs,ht,e1,e2,e3,e4,e5,e6⟩=>?_
 subst hC e1 e2 e3 e4 e5 e6
 have ne0:∀i:Nat,0 < i→∀z∈[(0,R.a)],z.1≠i:=fun i hi z hz=>by rw [List.mem_singleton.mp hz];exact Nat.ne_of_lt hi
 refine Cv (Cp (i:=2) (d:=.int 0) sc_Machine_steps.nd rfl (by show 2∉[0];decide) (Or.inl rfl) (BW oz_ok Ab rfl)) ?_
 refine LR (Iv:=fun S=>MZ K R S) (T:=S) (n:=n) (Ws S n) PassesOwn.never ⟨⟨none,rfl⟩,ok,Nat.zero_le _,Nat.le_refl _,Nat.le_refl _,rfl⟩ ?c ?b ?d
 case c=>
  rintro k G T hk ⟨⟨w,rfl⟩,_⟩
  exact AW oz_ok (Al (An (evv 2) (evv 1) NJ (Ak _)) (decide_eq_decide.mpr (by omega)))
 case b=>
  rintro k G T hk ⟨⟨w,rfl⟩,okT,_,hsT,htT,hrun⟩
  have st:=DQ okT
  have kp:=Gh okT st
  have ks:=kp.sto
  have kt:=kp.told
  have hly:=KH okT st
  obtain ⟨m,hm⟩:∃m,n - k=m + 1:=⟨n - k - 1,by omega⟩
  rw [hm] at hrun
  by_cases he:(AK T).1=""
  ·have hr1:runF (m + 1) T=((runF m (AK T).2).1 + 1,(runF m (AK T).2).2):=by
    show (if (AK T).1="" then _ else _)=_
    rw [if_pos he]
   refine .inl ⟨fr17 n (k + 1) (some (.str "")),(AK T).2,⟨⟨_,rfl⟩,kp.ok,hk,by omega,by omega,?_⟩,?_⟩
   ·rw [show n - (k + 1)=m by omega,hrun,hr1]
    show ((runF m (AK T).2).1 + 1 + k,_)=((runF m (AK T).2).1 + (k + 1),_)
    rw [Nat.add_assoc,Nat.add_comm 1 k]
   ·refine Aq (Cp (i:=3) (d:=.str (AK T).1) sc_Machine_steps.nd rfl (by show 3∉[0];decide) (Or.inl rfl) (Hi CM.cl D_step (by walk_at "rm") List.mem_cons_self (pv 0) ⟨T,_,_,okT,⟨by omega,by omega⟩,st,rfl,rfl,rfl,rfl,rfl,rfl⟩)) ?_
    rw [he] at hly ⊢
    refine Aq (GU oz_ok (AW oz_ok (An (evv 3) Ai (C_ (by walk_at "un") hly (by decide +kernel) (by walk_at "dp") (by decide +kernel)) (Ak _)))) ?_
    exact Aq (OA (z:=(k:Int)) (n:=1) oz_ok sc_Machine_steps.nd rfl (ne0 2 (by decide)) (Or.inl rfl) Ab rfl) AA
  ·have hr1:runF (m + 1) T=(0,(AK T).1,(AK T).2):=by
    show (if (AK T).1="" then _ else _)=_
    rw [if_neg he]
   have hr2:runF n S=(k,(AK T).1,(AK T).2):=by
    rw [hrun,hr1]
    show (0 + k,_)=_
    rw [Nat.zero_add]
   refine .inr ?_
   rw [hr2]
   refine Cv (Cp (i:=3) (d:=.str (AK T).1) sc_Machine_steps.nd rfl (by show 3∉[0];decide) (Or.inl rfl) (Hi CM.cl D_step (by walk_at "rm") List.mem_cons_self (pv 0) ⟨T,_,_,okT,⟨by omega,by omega⟩,st,rfl,rfl,rfl,rfl,rfl,rfl⟩)) ?_
   exact LM (k:=true) (AW oz_ok (Al (An (evv 3) Ai (C_ (by walk_at "un") hly (by decide +kernel) (by walk_at "dp") (by rw [CH])) (Ak _)) (by rw [decide_eq_false he];rfl))) (fun _=>Fg (BW oz_ok (AR (ds:=[.int (k:Int),.str (AK T).1]) (Aa (evv 2) (Aa (evv 3) Ac)) (by walk_at "sz")) rfl)) (fun h=>by cases h)
 case d=>
  rintro G T ⟨⟨w,rfl⟩,okT,_,hsT,htT,hrun⟩
  rw [hrun,Nat.sub_self]
  show PSs _ _ (zR _ _ _ _ _ (.tuple [.int ((0 + n:Nat):Int),.str ""]) (MZ K R T))
  rw [Nat.zero_add]
  exact Fg (BW oz_ok (AR (ds:=[.int (n:Int),.str ""]) (Aa (evv 2) (Aa Ai Ac)) (by walk_at "sz")) rfl)
def hasL:List Str:=["","x","xy","xy","xy","xy","xy","xy","xy","xym","xym","","k","x","x","x"]
def hasO (op:Int):Str:=hasL.getD op.toNat ""
def inB (c h:Str):Bool:=!(Builtin.Str.occurrences h c 0 h.length 1).isEmpty
def limO (h:Str):Int:=if inB "k" h=true then 3 else if inB "m" h=true then 15 else 0
def badM (f:Int):Bool:=decide (f % 16 > limO (hasO (f / 256)))
def badX (f:Int):Bool:=(!inB "x" (hasO (f / 256)) && decide (f / 64 % 4 > 0)) || (!inB "y" (hasO (f / 256)) && decide (f / 16 % 4 > 0))
theorem ops {f:Int} (h0:0≤f) (h1:f < 4096):f / 256=0∨f / 256=1∨f / 256=2∨f / 256=3∨f / 256=4∨f / 256=5∨f / 256=6∨f / 256=7∨f / 256=8∨f / 256=9∨f / 256=10∨f / 256=11∨f / 256=12∨f / 256=13∨f / 256=14∨f / 256=15:=by omega
theorem Mx (ps:Str) (f:Int) (h:∀c∈ps.cps.toList,EO c):(ps.cps.toList.zip (ps.cps.toList.map fun c=>AH c f 0)).all (fun q=>decide (0≤q.2) && decide (q.2 < Ba q.1))=true:=by
 rw [EF,List.all_eq_true]
 intro c hc
 rw [Bool.and_eq_true,decide_eq_true_iff,decide_eq_true_iff]
 show 0≤AH c f 0∧AH c f 0 < Ba c
 rcases h c hc with rfl | rfl | rfl | rfl | rfl
 ·show 0≤f / 64 % 4∧f / 64 % 4 < 4;omega
 ·show 0≤f / 16 % 4∧f / 16 % 4 < 4;omega
 ·show 0≤f / 1 % 4∧f / 1 % 4 < 4;omega
 ·show 0≤f / 1 % 16∧f / 1 % 16 < 16;omega
 ·exact show (0:Int)≤0∧(0:Int) < 4096 by decide
theorem B0 {f:Int} {q:Str×Str} (hk:kindOf f=q) (hq:q∈kinds):BS f 0↔(f / 256) * 256 + A9 q.2 (q.2.cps.toList.map fun c=>AH c f 0)=f:=by
 unfold BS numsOf
 rw [hk]
 refine ⟨fun h=>h.2,fun h=>⟨?_,h⟩⟩
 exact Mx q.2 f (BC q hq)
theorem Qb (f:Int):A9 "" (("":Str).cps.toList.map fun c=>AH c f 0)=0:=rfl
theorem Qy (f:Int):A9 "x" (("x":Str).cps.toList.map fun c=>AH c f 0)=64 * (f / 64 % 4):=by
 show 64 * (f / 64 % 4) + 0=_
 omega
theorem Pi (f:Int):A9 "xy" (("xy":Str).cps.toList.map fun c=>AH c f 0)=64 * (f / 64 % 4) + 16 * (f / 16 % 4):=by
 show 64 * (f / 64 % 4) + (16 * (f / 16 % 4) + 0)=_
 omega
theorem MG (f:Int):A9 "xym" (("xym":Str).cps.toList.map fun c=>AH c f 0)=64 * (f / 64 % 4) + 16 * (f / 16 % 4) + f % 16:=by
 show 64 * (f / 64 % 4) + (16 * (f / 16 % 4) + (1 * (f / 1 % 16) + 0))=_
 omega
theorem KP (f:Int):A9 "xn" (("xn":Str).cps.toList.map fun c=>AH c f 0)=64 * (f / 64 % 4):=by
 show 64 * (f / 64 % 4) + (0 * 0 + 0)=_
 omega
theorem PL (f:Int):A9 "n" (("n":Str).cps.toList.map fun c=>AH c f 0)=0:=by
 show (0:Int) * 0 + 0=_
 omega
theorem Oi (f:Int):A9 "kn" (("kn":Str).cps.toList.map fun c=>AH c f 0)=f % 4:=by
 show 1 * (f / 1 % 4) + (0 * 0 + 0)=_
 omega
theorem Qj:inB "x" ""=false∧inB "y" ""=false∧limO ""=0∧inB "x" "x"=true∧inB "y" "x"=false∧limO "x"=0∧inB "x" "xy"=true∧inB "y" "xy"=true∧limO "xy"=0∧inB "x" "xym"=true∧inB "y" "xym"=true∧limO "xym"=15∧inB "x" "k"=false∧inB "y" "k"=false∧limO "k"=3:=by decide +kernel
theorem NY {f:Int} {q:Str×Str} (hk:kindOf f=q) (hq:q∈kinds) (h0:0≤f) (h1:f < 4096) (hb:(badM f || badX f)=false↔BS f 0):Bs f=if (badM f || badX f)=true then 0 else if hasN q.2=true then 2 else 1:=by
 unfold Bs
 cases hb2:(badM f || badX f) with
 | true=>rw [if_neg (fun z=>by have:=hb.mpr z.2.2;rw [hb2] at this;cases this),if_pos rfl]
 | false=>rw [if_pos ⟨h0,h1,hb.mp hb2⟩,hk];exact (if_neg Bool.false_ne_true).symm
theorem Bv {f:Int} {n:Nat} (h:f / 256=(n:Int)):kindOf f=kinds.getD n ("stop",""):=by
 unfold kindOf
 rw [h]
 rfl
theorem HL {f:Int} (h0:0≤f) (h1:f < 4096):(badM f || badX f)=false↔BS f 0:=by
 obtain ⟨a1,a2,a3,b1,b2,b3,c1,c2,c3,d1,d2,d3,e1,e2,e3⟩:=Qj
 rcases ops h0 h1 with h | h | h | h | h | h | h | h | h | h | h | h | h | h | h | h
 ·rw [B0 (Bv (n:=0) h) (by decide +kernel)]
  show _↔f / 256 * 256 + A9 "" (("":Str).cps.toList.map fun c=>AH c f 0)=f
  rw [Qb];unfold badM badX;rw [h];show (decide (f % 16 > limO "") || ((!inB "x" "" && decide (f / 64 % 4 > 0)) || (!inB "y" "" && decide (f / 16 % 4 > 0))))=false↔_
  rw [a1,a2,a3];simp;omega
 ·rw [B0 (Bv (n:=1) h) (by decide +kernel)]
  show _↔f / 256 * 256 + A9 "xn" (("xn":Str).cps.toList.map fun c=>AH c f 0)=f
  rw [KP];unfold badM badX;rw [h];show (decide (f % 16 > limO "x") || ((!inB "x" "x" && decide (f / 64 % 4 > 0)) || (!inB "y" "x" && decide (f / 16 % 4 > 0))))=false↔_
  rw [b1,b2,b3];simp;omega
 iterate 7
  ·rw [B0 (Bv h) (by decide +kernel)]
   show _↔f / 256 * 256 + A9 "xy" (("xy":Str).cps.toList.map fun c=>AH c f 0)=f
   rw [Pi];unfold badM badX;rw [h];show (decide (f % 16 > limO "xy") || ((!inB "x" "xy" && decide (f / 64 % 4 > 0)) || (!inB "y" "xy" && decide (f / 16 % 4 > 0))))=false↔_
   rw [c1,c2,c3];simp;omega
 iterate 2
  ·rw [B0 (Bv h) (by decide +kernel)]
   show _↔f / 256 * 256 + A9 "xym" (("xym":Str).cps.toList.map fun c=>AH c f 0)=f
   rw [MG];unfold badM badX;rw [h];show (decide (f % 16 > limO "xym") || ((!inB "x" "xym" && decide (f / 64 % 4 > 0)) || (!inB "y" "xym" && decide (f / 16 % 4 > 0))))=false↔_
   rw [d1,d2,d3];simp;omega
 ·rw [B0 (Bv (n:=11) h) (by decide +kernel)]
  show _↔f / 256 * 256 + A9 "n" (("n":Str).cps.toList.map fun c=>AH c f 0)=f
  rw [PL];unfold badM badX;rw [h];show (decide (f % 16 > limO "") || ((!inB "x" "" && decide (f / 64 % 4 > 0)) || (!inB "y" "" && decide (f / 16 % 4 > 0))))=false↔_
  rw [a1,a2,a3];simp;omega
 ·rw [B0 (Bv (n:=12) h) (by decide +kernel)]
  show _↔f / 256 * 256 + A9 "kn" (("kn":Str).cps.toList.map fun c=>AH c f 0)=f
  rw [Oi];unfold badM badX;rw [h];show (decide (f % 16 > limO "k") || ((!inB "x" "k" && decide (f / 64 % 4 > 0)) || (!inB "y" "k" && decide (f / 16 % 4 > 0))))=false↔_
  rw [e1,e2,e3];simp;omega
 ·rw [B0 (Bv (n:=13) h) (by decide +kernel)]
  show _↔f / 256 * 256 + A9 "xn" (("xn":Str).cps.toList.map fun c=>AH c f 0)=f
  rw [KP];unfold badM badX;rw [h];show (decide (f % 16 > limO "x") || ((!inB "x" "x" && decide (f / 64 % 4 > 0)) || (!inB "y" "x" && decide (f / 16 % 4 > 0))))=false↔_
  rw [b1,b2,b3];simp;omega
 iterate 2
  ·rw [B0 (Bv h) (by decide +kernel)]
   show _↔f / 256 * 256 + A9 "x" (("x":Str).cps.toList.map fun c=>AH c f 0)=f
   rw [Qy];unfold badM badX;rw [h];show (decide (f % 16 > limO "x") || ((!inB "x" "x" && decide (f / 64 % 4 > 0)) || (!inB "y" "x" && decide (f / 16 % 4 > 0))))=false↔_
   rw [b1,b2,b3];simp;omega
def twoO (op:Int):Bool:=decide (op=1∨op=11∨op=12∨op=13)
theorem K7 {f:Int} (h0:0≤f) (h1:f < 4096):Bs f=if (badM f || badX f)=true then 0 else if twoO (f / 256)=true then 2 else 1:=by
 have key:∀n:Nat,n < 16→(kinds.getD n ("stop",""))∈kinds∧hasN (kinds.getD n ("stop","")).2=twoO (n:Int):=by decide +kernel
 obtain ⟨n,hn,hlt⟩:∃n:Nat,f / 256=(n:Int)∧n < 16:=⟨(f / 256).toNat,by omega,by omega⟩
 obtain ⟨k1,k2⟩:=key n hlt
 rw [NY (Bv hn) k1 h0 h1 (HL h0 h1),k2,hn]
def BY (S:MS) (y m:Int):Int:=(boxM S y + m) % 4096
def BU (S:MS) (op c:Int):Str:=if op=0 then "stop" else if op=9∧Ax S.pg c 0=false then "read" else if op=10∧Ax S.pg c 1=false then "write" else ""
def recL (op a b:Int):Int×Bool:=if op=3 then ((a + b) % 4096,decide (a + b > 4095)) else if op=4∨op=8 then ((a - b) % 4096,decide (a < b)) else if op=5 then (a * b % 4096,false) else if op=6 then (Builtin.bitAnd a b,false) else (Builtin.bitXor a b,false)
def valL (S:MS) (op y m n b:Int):Int:=if op=1 then n else if op=2 then boxM S y else if op=9 then Ao S.mem (BY S y m % (S.mem.length:Int)) else b
def effL (S:MS) (op x y m n b:Int):MS:=
 if 3≤op∧op≤8 then {S with tz:=decide ((recL op (boxM S x) (boxM S y)).1=0),tl:=(recL op (boxM S x) (boxM S y)).2,bx:=if op=8 then S.bx else S.bx.set x.toNat (recL op (boxM S x) (boxM S y)).1}
 else if op=1∨op=2∨op=9∨op=13 then {S with bx:=S.bx.set x.toNat (valL S op y m n b)}
 else if op=10 then {S with mem:=S.mem.set (BY S y m).toNat (boxM S x),sto:=S.sto++[BY S y m]}
 else if op=15 then {S with told:=S.told++[boxM S x]}
 else S
def toL (S:MS) (op x m n b:Int):Int:=if op=13 then n else if op=14 then boxM S x else if op=11∨(op=12∧brB (m % 4) S.tz S.tl=true) then n else b
def lawS (S:MS) (op x y m n b:Int):MS:={effL S op x y m n b with here:=toL S op x m n b,done:=S.done + 1}
theorem LK {a b:Int} (a0:0≤a) (a1:a < 4096) (b0:0≤b) (b1:b < 4096):0≤Builtin.bitAnd a b∧Builtin.bitAnd a b < 4096:=by
 unfold Builtin.bitAnd
 rw [decide_eq_true a0,decide_eq_true b0]
 have h:a.toNat &&& b.toNat < 2 ^ 12:=Nat.and_lt_two_pow _ (by omega)
 show 0≤((a.toNat &&& b.toNat:Nat):Int)∧((a.toNat &&& b.toNat:Nat):Int) < 4096
 omega
theorem Qo {a b:Int} (a0:0≤a) (b0:0≤b):Builtin.bitOr a b=((a.toNat ||| b.toNat:Nat):Int):=by
 have na:¬0≤Builtin.bitNot a:=by unfold Builtin.bitNot;omega
 have nb:¬0≤Builtin.bitNot b:=by unfold Builtin.bitNot;omega
 have bb:∀x:Int,Builtin.bitNot (Builtin.bitNot x)=x:=fun x=>by unfold Builtin.bitNot;omega
 unfold Builtin.bitOr Builtin.bitAnd
 rw [decide_eq_false na,decide_eq_false nb]
 show Builtin.bitNot (Builtin.bitNot _)=_
 rw [bb,bb,bb]
theorem LB {a b:Int} (a0:0≤a) (a1:a < 4096) (b0:0≤b) (b1:b < 4096):0≤Builtin.bitXor a b∧Builtin.bitXor a b < 4096:=by
 unfold Builtin.bitXor
 rw [Qo a0 b0]
 unfold Builtin.bitAnd
 rw [decide_eq_true a0,decide_eq_true b0]
 have h:a.toNat ||| b.toNat < 2 ^ 12:=Nat.or_lt_two_pow (by omega) (by omega)
 have h2:a.toNat &&& b.toNat≤a.toNat:=Nat.and_le_left
 have h3:a.toNat≤a.toNat ||| b.toNat:=Nat.left_le_or
 show 0≤((a.toNat ||| b.toNat:Nat):Int) - ((a.toNat &&& b.toNat:Nat):Int)∧((a.toNat ||| b.toNat:Nat):Int) - ((a.toNat &&& b.toNat:Nat):Int) < 4096
 omega
theorem Nf (S:MS) (nums:List Int):AX S "load" nums=if Ax S.pg (AS S nums) 0=false then "read" else "":=by
 unfold AX
 rw [if_neg (by decide)]
 cases Ax S.pg (AS S nums) 0 with
 | true=>rw [if_neg (fun z=>by cases z.2),if_neg (fun z=>absurd z.1 (by decide))];rfl
 | false=>rw [if_pos ⟨rfl,rfl⟩];rfl
theorem Le (S:MS) (nums:List Int):AX S "store" nums=if Ax S.pg (AS S nums) 1=false then "write" else "":=by
 unfold AX
 rw [if_neg (by decide),if_neg (fun z=>absurd z.1 (by decide))]
 cases Ax S.pg (AS S nums) 1 with
 | true=>rw [if_neg (fun z=>by cases z.2)];rfl
 | false=>rw [if_pos ⟨rfl,rfl⟩];rfl
theorem Pn (S:MS) (c:Int):BU S 9 c=if Ax S.pg c 0=false then "read" else "":=by
 unfold BU
 rw [if_neg (by decide)]
 cases Ax S.pg c 0 with
 | true=>rw [if_neg (fun z=>by cases z.2),if_neg (fun z=>absurd z.1 (by decide))];rfl
 | false=>rw [if_pos ⟨rfl,rfl⟩];rfl
theorem LA (S:MS) (c:Int):BU S 10 c=if Ax S.pg c 1=false then "write" else "":=by
 unfold BU
 rw [if_neg (by decide),if_neg (fun z=>absurd z.1 (by decide))]
 cases Ax S.pg c 1 with
 | true=>rw [if_neg (fun z=>by cases z.2)];rfl
 | false=>rw [if_pos ⟨rfl,rfl⟩];rfl
def behL (S:MS) (op:Int):Int:=if twoO op=true then ((S.here + 1) % 4096 + 1) % 4096 else (S.here + 1) % 4096
def secL (op s:Int):Int:=if twoO op=true then s else 0
theorem A3 {f s:Int} {n:Nat} {q:Str×Str} (h:f / 256=(n:Int)) (hq:kinds.getD n ("stop","")=q):kindOf f=q∧numsOf f s=q.2.cps.toList.map fun c=>AH c f s:=by
 have hk:kindOf f=q:=(Bv h).trans hq
 exact ⟨hk,by unfold numsOf;rw [hk]⟩
theorem IE (S:MS) {f s:Int} (h0:0≤f) (h1:f < 4096):AX S (kindOf f).1 (numsOf f s)=BU S (f / 256) (BY S (f / 16 % 4) (f % 16)):=by
 have e1:f / 1 % 16=f % 16:=by omega
 rcases ops h0 h1 with h | h | h | h | h | h | h | h | h | h | h | h | h | h | h | h
 ·obtain ⟨k1,k2⟩:=A3 (s:=s) (n:=0) h rfl
  rw [k1,k2,h];rfl
 ·obtain ⟨k1,k2⟩:=A3 (s:=s) (n:=1) h rfl
  rw [k1,k2,h];rfl
 ·obtain ⟨k1,k2⟩:=A3 (s:=s) (n:=2) h rfl
  rw [k1,k2,h];rfl
 ·obtain ⟨k1,k2⟩:=A3 (s:=s) (n:=3) h rfl
  rw [k1,k2,h];rfl
 ·obtain ⟨k1,k2⟩:=A3 (s:=s) (n:=4) h rfl
  rw [k1,k2,h];rfl
 ·obtain ⟨k1,k2⟩:=A3 (s:=s) (n:=5) h rfl
  rw [k1,k2,h];rfl
 ·obtain ⟨k1,k2⟩:=A3 (s:=s) (n:=6) h rfl
  rw [k1,k2,h];rfl
 ·obtain ⟨k1,k2⟩:=A3 (s:=s) (n:=7) h rfl
  rw [k1,k2,h];rfl
 ·obtain ⟨k1,k2⟩:=A3 (s:=s) (n:=8) h rfl
  rw [k1,k2,h];rfl
 ·obtain ⟨k1,k2⟩:=A3 (s:=s) (n:=9) h rfl
  rw [k1,k2,h]
  show AX S "load" [f / 64 % 4,f / 16 % 4,f / 1 % 16]=_
  rw [e1,Nf,Pn]
  rfl
 ·obtain ⟨k1,k2⟩:=A3 (s:=s) (n:=10) h rfl
  rw [k1,k2,h]
  show AX S "store" [f / 64 % 4,f / 16 % 4,f / 1 % 16]=_
  rw [e1,Le,LA]
  rfl
 ·obtain ⟨k1,k2⟩:=A3 (s:=s) (n:=11) h rfl
  rw [k1,k2,h];rfl
 ·obtain ⟨k1,k2⟩:=A3 (s:=s) (n:=12) h rfl
  rw [k1,k2,h];rfl
 ·obtain ⟨k1,k2⟩:=A3 (s:=s) (n:=13) h rfl
  rw [k1,k2,h];rfl
 ·obtain ⟨k1,k2⟩:=A3 (s:=s) (n:=14) h rfl
  rw [k1,k2,h];rfl
 ·obtain ⟨k1,k2⟩:=A3 (s:=s) (n:=15) h rfl
  rw [k1,k2,h];rfl
theorem Kr {S:MS} (ok:MsOk S) {c:Int} (h:Ax S.pg c 0=true):c % (S.mem.length:Int)=c:=by
 have r:=DH h
 have:=ok.ml
 exact Int.emod_eq_of_lt r.1 (by omega)
theorem La {S:MS} (ok:MsOk S) {f s:Int} (h0:0≤f) (h1:f < 4096) (hh:BU S (f / 256) (BY S (f / 16 % 4) (f % 16))=""):doM S (kindOf f) (numsOf f s) (f / 256).toNat=lawS S (f / 256) (f / 64 % 4) (f / 16 % 4) (f % 16) (secL (f / 256) s) (behL S (f / 256)):=by
 have e1:f / 1 % 16=f % 16:=by omega
 have e4:f / 1 % 4=f % 16 % 4:=by omega
 have bx:=BE ok (f / 64 % 4)
 have by_:=BE ok (f / 16 % 4)
 have b2:∀n:Int,n=2→(S.here + n) % 4096=((S.here + 1) % 4096 + 1) % 4096:=fun n hn=>by subst hn;omega
 rcases ops h0 h1 with h | h | h | h | h | h | h | h | h | h | h | h | h | h | h | h
 ·obtain ⟨k1,k2⟩:=A3 (s:=s) (n:=0) h rfl
  rw [h] at hh
  exact absurd hh (by show ¬("stop":Str)="";decide)
 ·obtain ⟨k1,k2⟩:=A3 (s:=s) (n:=1) h rfl
  have hb:behM S ("set","xn") [f / 64 % 4,s] 1=behL S 1:=b2 _ rfl
  rw [k1,k2,h]
  show doM S ("set","xn") [f / 64 % 4,s] 1=_
  unfold doM goM
  rw [hb]
  rfl
 ·obtain ⟨k1,k2⟩:=A3 (s:=s) (n:=2) h rfl
  have hb:behM S ("move","xy") [f / 64 % 4,f / 16 % 4] 2=behL S 2:=rfl
  rw [k1,k2,h]
  show doM S ("move","xy") [f / 64 % 4,f / 16 % 4] 2=_
  unfold doM goM
  rw [hb]
  rfl
 ·obtain ⟨k1,k2⟩:=A3 (s:=s) (n:=3) h rfl
  have hb:behM S ("add","xy") [f / 64 % 4,f / 16 % 4] 3=behL S 3:=rfl
  rw [k1,k2,h]
  show doM S ("add","xy") [f / 64 % 4,f / 16 % 4] 3=_
  unfold doM goM
  rw [hb]
  rfl
 ·obtain ⟨k1,k2⟩:=A3 (s:=s) (n:=4) h rfl
  have hb:behM S ("sub","xy") [f / 64 % 4,f / 16 % 4] 4=behL S 4:=rfl
  rw [k1,k2,h]
  show doM S ("sub","xy") [f / 64 % 4,f / 16 % 4] 4=_
  unfold doM goM
  rw [hb]
  rfl
 ·obtain ⟨k1,k2⟩:=A3 (s:=s) (n:=5) h rfl
  have hb:behM S ("mul","xy") [f / 64 % 4,f / 16 % 4] 5=behL S 5:=rfl
  rw [k1,k2,h]
  show doM S ("mul","xy") [f / 64 % 4,f / 16 % 4] 5=_
  unfold doM goM
  rw [hb]
  rfl
 ·obtain ⟨k1,k2⟩:=A3 (s:=s) (n:=6) h rfl
  have hb:behM S ("and","xy") [f / 64 % 4,f / 16 % 4] 6=behL S 6:=rfl
  rw [k1,k2,h]
  show doM S ("and","xy") [f / 64 % 4,f / 16 % 4] 6=_
  unfold doM goM
  rw [hb]
  have hw:=LK bx.1 bx.2 by_.1 by_.2
  have hm:Builtin.bitAnd (boxM S (f / 64 % 4)) (boxM S (f / 16 % 4)) % 4096=Builtin.bitAnd (boxM S (f / 64 % 4)) (boxM S (f / 16 % 4)):=Int.emod_eq_of_lt hw.1 hw.2
  show ({S with here:=behL S 6,tz:=decide (Builtin.bitAnd (boxM S (f / 64 % 4)) (boxM S (f / 16 % 4)) % 4096=0),tl:=false,bx:=S.bx.set (f / 64 % 4).toNat (Builtin.bitAnd (boxM S (f / 64 % 4)) (boxM S (f / 16 % 4)) % 4096),done:=S.done + 1}:MS)=_
  rw [hm]
  rfl
 ·obtain ⟨k1,k2⟩:=A3 (s:=s) (n:=7) h rfl
  have hb:behM S ("xor","xy") [f / 64 % 4,f / 16 % 4] 7=behL S 7:=rfl
  rw [k1,k2,h]
  show doM S ("xor","xy") [f / 64 % 4,f / 16 % 4] 7=_
  unfold doM goM
  rw [hb]
  have hw:=LB bx.1 bx.2 by_.1 by_.2
  have hm:Builtin.bitXor (boxM S (f / 64 % 4)) (boxM S (f / 16 % 4)) % 4096=Builtin.bitXor (boxM S (f / 64 % 4)) (boxM S (f / 16 % 4)):=Int.emod_eq_of_lt hw.1 hw.2
  show ({S with here:=behL S 7,tz:=decide (Builtin.bitXor (boxM S (f / 64 % 4)) (boxM S (f / 16 % 4)) % 4096=0),tl:=false,bx:=S.bx.set (f / 64 % 4).toNat (Builtin.bitXor (boxM S (f / 64 % 4)) (boxM S (f / 16 % 4)) % 4096),done:=S.done + 1}:MS)=_
  rw [hm]
  rfl
 ·obtain ⟨k1,k2⟩:=A3 (s:=s) (n:=8) h rfl
  have hb:behM S ("cmp","xy") [f / 64 % 4,f / 16 % 4] 8=behL S 8:=rfl
  rw [k1,k2,h]
  show doM S ("cmp","xy") [f / 64 % 4,f / 16 % 4] 8=_
  unfold doM goM
  rw [hb]
  rfl
 ·obtain ⟨k1,k2⟩:=A3 (s:=s) (n:=9) h rfl
  have hb:behM S ("load","xym") [f / 64 % 4,f / 16 % 4,f / 1 % 16] 9=behL S 9:=rfl
  rw [h,Pn] at hh
  rw [k1,k2,h]
  show doM S ("load","xym") [f / 64 % 4,f / 16 % 4,f / 1 % 16] 9=_
  unfold doM goM
  rw [hb]
  have hr:Ax S.pg (BY S (f / 16 % 4) (f % 16)) 0=true:=by
   cases hr:Ax S.pg (BY S (f / 16 % 4) (f % 16)) 0 with
   | true=>rfl
   | false=>rw [hr,if_pos rfl] at hh;exact absurd hh (by decide)
  have hc:=Kr ok hr
  rw [e1]
  show ({S with here:=behL S 9,bx:=S.bx.set (f / 64 % 4).toNat (Ao S.mem (BY S (f / 16 % 4) (f % 16))),done:=S.done + 1}:MS)={S with here:=behL S 9,bx:=S.bx.set (f / 64 % 4).toNat (Ao S.mem (BY S (f / 16 % 4) (f % 16) % (S.mem.length:Int))),done:=S.done + 1}
  rw [hc]
 ·obtain ⟨k1,k2⟩:=A3 (s:=s) (n:=10) h rfl
  have hb:behM S ("store","xym") [f / 64 % 4,f / 16 % 4,f / 1 % 16] 10=behL S 10:=rfl
  rw [k1,k2,h]
  show doM S ("store","xym") [f / 64 % 4,f / 16 % 4,f / 1 % 16] 10=_
  unfold doM goM
  rw [hb]
  rw [e1]
  rfl
 ·obtain ⟨k1,k2⟩:=A3 (s:=s) (n:=11) h rfl
  have hb:behM S ("jump","n") [s] 11=behL S 11:=b2 _ rfl
  rw [k1,k2,h]
  show doM S ("jump","n") [s] 11=_
  unfold doM goM
  rw [hb]
  rfl
 ·obtain ⟨k1,k2⟩:=A3 (s:=s) (n:=12) h rfl
  have hb:behM S ("branch","kn") [f / 1 % 4,s] 12=behL S 12:=b2 _ rfl
  rw [k1,k2,h]
  show doM S ("branch","kn") [f / 1 % 4,s] 12=_
  unfold doM goM
  rw [hb]
  rw [e4]
  show ({S with here:=nextM S "branch" [f % 16 % 4,s] (behL S 12),done:=S.done + 1}:MS)={S with here:=toL S 12 (f / 64 % 4) (f % 16) s (behL S 12),done:=S.done + 1}
  have ht:nextM S "branch" [f % 16 % 4,s] (behL S 12)=toL S 12 (f / 64 % 4) (f % 16) s (behL S 12):=by
   unfold nextM toL
   rw [if_neg (by decide)]
   by_cases hbr:brB (f % 16 % 4) S.tz S.tl=true
   ·exact (if_pos ⟨rfl,hbr⟩).trans (((if_neg (by decide)).trans ((if_neg (by decide)).trans (if_pos (.inr ⟨rfl,hbr⟩)))).symm)
   ·exact ((if_neg (fun z=>hbr z.2)).trans (if_neg (by decide))).trans (((if_neg (by decide)).trans ((if_neg (by decide)).trans (if_neg (fun z=>z.elim (fun w=>absurd w (by decide)) (fun w=>hbr w.2))))).symm)
  rw [ht]
 ·obtain ⟨k1,k2⟩:=A3 (s:=s) (n:=13) h rfl
  have hb:behM S ("call","xn") [f / 64 % 4,s] 13=behL S 13:=b2 _ rfl
  rw [k1,k2,h]
  show doM S ("call","xn") [f / 64 % 4,s] 13=_
  unfold doM goM
  rw [hb]
  rfl
 ·obtain ⟨k1,k2⟩:=A3 (s:=s) (n:=14) h rfl
  have hb:behM S ("back","x") [f / 64 % 4] 14=behL S 14:=rfl
  rw [k1,k2,h]
  show doM S ("back","x") [f / 64 % 4] 14=_
  unfold doM goM
  rw [hb]
  rfl
 ·obtain ⟨k1,k2⟩:=A3 (s:=s) (n:=15) h rfl
  have hb:behM S ("out","x") [f / 64 % 4] 15=behL S 15:=rfl
  rw [k1,k2,h]
  show doM S ("out","x") [f / 64 % 4] 15=_
  unfold doM goM
  rw [hb]
  rfl
def Bo (S:MS):List PyData:=
 if Ax S.pg S.here 2=false then [.str "run"]
 else if (badM (Ao S.mem S.here) || badX (Ao S.mem S.here))=true then [.str "row"]
 else if twoO (Ao S.mem S.here / 256)=false then [.int (Ao S.mem S.here / 256),.int (Ao S.mem S.here / 64 % 4),.int (Ao S.mem S.here / 16 % 4),.int (Ao S.mem S.here % 16),.int 0,.int ((S.here + 1) % 4096)]
 else if Ax S.pg ((S.here + 1) % 4096) 2=false then [.str "run"]
 else [.int (Ao S.mem S.here / 256),.int (Ao S.mem S.here / 64 % 4),.int (Ao S.mem S.here / 16 % 4),.int (Ao S.mem S.here % 16),.int (Ao S.mem ((S.here + 1) % 4096)),.int (((S.here + 1) % 4096 + 1) % 4096)]
theorem Ks {a b:Str} {l r:List Int} (h:rowD a l=rowD b r):a=b∧l=r:=by
 unfold rowD at h
 have h1:=PyData.tuple.inj h
 have h2:=List.cons.inj h1
 exact ⟨PyData.str.inj h2.1,(List.map_inj_right (fun _ _ z=>PyData.int.inj z)).mp h2.2⟩
theorem LU {f s:Int} {q:Str×Str} {nums:List Int} {j:Nat} (h0:0≤f) (h1:f < 4096) (row:IsRow q nums j) (h:rowD q.1 nums=rowD (kindOf f).1 (numsOf f s)):q=kindOf f∧nums=numsOf f s∧j=(f / 256).toNat:=by
 obtain ⟨e1,e2⟩:=Ks h
 have hk:=Du h0 h1
 have a1:=Ck row.1
 have a2:=Ck hk
 rw [e1] at a1
 obtain ⟨l1,g1⟩:=List.getElem?_eq_some_iff.mp a1
 obtain ⟨l2,g2⟩:=List.getElem?_eq_some_iff.mp a2
 have ej:j=(f / 256).toNat:=(List.getElem_inj names_nodup).mp (g1.trans g2.symm)
 have hq:=row.1
 rw [ej,hk] at hq
 exact ⟨(Option.some.inj hq).symm,e2,ej⟩
theorem Fn {S S':MS} {wd w1:Str} (e:AU S.pg S.mem S.here=.tuple [.str w1,.none]) (st:Cz S wd S'):wd=w1∧S'=S:=by
 rcases st with ⟨e1,e'⟩ | ⟨j,q,nums,row,e1,_,_⟩
 ·rw [e] at e1
  have:=PyData.tuple.inj e1
  exact ⟨(PyData.str.inj (List.cons.inj this).1).symm,e'⟩
 ·rw [e] at e1
  have:=(List.cons.inj (List.cons.inj (PyData.tuple.inj e1)).2).1
  cases this
theorem KF {S S':MS} {wd:Str} {f s:Int} (h0:0≤f) (h1:f < 4096) (e:AU S.pg S.mem S.here=.tuple [.str "",rowD (kindOf f).1 (numsOf f s)]) (st:Cz S wd S'):wd=AX S (kindOf f).1 (numsOf f s)∧S'=if AX S (kindOf f).1 (numsOf f s)="" then doM S (kindOf f) (numsOf f s) (f / 256).toNat else S:=by
 rcases st with ⟨e1,e'⟩ | ⟨j,q,nums,row,e1,ew,e'⟩
 ·rw [e] at e1
  have:=(List.cons.inj (List.cons.inj (PyData.tuple.inj e1)).2).1
  cases this
 ·rw [e] at e1
  have:=(List.cons.inj (List.cons.inj (PyData.tuple.inj e1)).2).1
  obtain ⟨a,b,c⟩:=LU h0 h1 row this.symm
  subst a b c
  exact ⟨ew,e'⟩
structure LawR (S:MS) (wd:Str) (S':MS) (op x y m n b:Int):Prop where
 row:Bo S=[.int op,.int x,.int y,.int m,.int n,.int b]
 o0:0≤op
 o1:op < 16
 x0:0≤x
 x1:x < 4
 y0:0≤y
 y1:y < 4
 m0:0≤m
 m1:m < 16
 n0:0≤n
 n1:n < 4096
 b0:0≤b
 b1:b < 4096
 w:wd=BU S op (BY S y m)
 s:S'=if BU S op (BY S y m)="" then lawS S op x y m n b else S
theorem Fc {S S':MS} {wd:Str} (ok:MsOk S) (st:Cz S wd S'):(Bo S=[.str wd]∧S'=S)∨∃op x y m n b,LawR S wd S' op x y m n b:=by
 have hw:=GR ok S.here
 have hs:=GR ok ((S.here + 1) % 4096)
 have hml:=K7 hw.1 hw.2
 have good:(badM (Ao S.mem S.here) || badX (Ao S.mem S.here))=false→BS (Ao S.mem S.here) 0:=(HL hw.1 hw.2).mp
 have fin:∀s:Int,0≤s→s < 4096→BS (Ao S.mem S.here) s→AU S.pg S.mem S.here=.tuple [.str "",BQ (Ao S.mem S.here) s]→Bo S=[.int (Ao S.mem S.here / 256),.int (Ao S.mem S.here / 64 % 4),.int (Ao S.mem S.here / 16 % 4),.int (Ao S.mem S.here % 16),.int (secL (Ao S.mem S.here / 256) s),.int (behL S (Ao S.mem S.here / 256))]→∃op x y m n b,LawR S wd S' op x y m n b:=by
  intro s s0 s1 g er el
  rw [Dm hw.1 hw.2 g] at er
  obtain ⟨a1,a2⟩:=KF hw.1 hw.2 er st
  rw [IE S hw.1 hw.2] at a1 a2
  refine ⟨_,_,_,_,_,_,el,by omega,by omega,by omega,by omega,by omega,by omega,by omega,by omega,?_,?_,?_,?_,a1,?_⟩
  ·unfold secL;split <;> omega
  ·unfold secL;split <;> omega
  ·unfold behL;split <;> omega
  ·unfold behL;split <;> omega
  ·rw [a2]
   split
   ·rename_i hh
    exact La ok hw.1 hw.2 hh
   ·rfl
 generalize hf:Ao S.mem S.here=f0 at *
 cases hr1:Ax S.pg S.here 2 with
 | false=>
   have er:AU S.pg S.mem S.here=.tuple [.str "run",.none]:=by unfold AU;rw [if_pos hr1]
   obtain ⟨a1,a2⟩:=Fn er st
   refine .inl ⟨?_,a2⟩
   unfold Bo
   rw [if_pos hr1,a1]
 | true=>
   have n1:¬Ax S.pg S.here 2=false:=by rw [hr1];decide
   cases hb:(badM f0 || badX f0) with
   | true=>
     rw [hb,if_pos rfl] at hml
     have er:AU S.pg S.mem S.here=.tuple [.str "row",.none]:=by unfold AU;rw [if_neg n1,hf,if_pos hml]
     obtain ⟨a1,a2⟩:=Fn er st
     refine .inl ⟨?_,a2⟩
     unfold Bo
     rw [if_neg n1,hf,if_pos hb,a1]
   | false=>
     rw [hb,if_neg Bool.false_ne_true] at hml
     have n2:¬(badM f0 || badX f0)=true:=by rw [hb];decide
     cases ht:twoO (f0 / 256) with
     | false=>
       rw [ht,if_neg Bool.false_ne_true] at hml
       refine .inr (fin 0 (by decide) (by decide) (good hb) ?_ ?_)
       ·unfold AU
        rw [if_neg n1,hf,if_neg (by rw [hml];decide),if_pos hml]
       ·unfold Bo secL behL
        rw [if_neg n1,hf,if_neg n2,if_pos ht,if_neg (by rw [ht];decide),if_neg (by rw [ht];decide)]
     | true=>
       rw [ht,if_pos rfl] at hml
       have n3:¬twoO (f0 / 256)=false:=by rw [ht];decide
       cases hr2:Ax S.pg ((S.here + 1) % 4096) 2 with
       | false=>
         have er:AU S.pg S.mem S.here=.tuple [.str "run",.none]:=by unfold AU;rw [if_neg n1,hf,if_neg (by rw [hml];decide),if_neg (by rw [hml];decide),if_pos hr2]
         obtain ⟨a1,a2⟩:=Fn er st
         refine .inl ⟨?_,a2⟩
         unfold Bo
         rw [if_neg n1,hf,if_neg n2,if_neg n3,if_pos hr2,a1]
       | true=>
         have n4:¬Ax S.pg ((S.here + 1) % 4096) 2=false:=by rw [hr2];decide
         refine .inr (fin _ hs.1 hs.2 (En hs.1 hs.2 (good hb)) ?_ ?_)
         ·unfold AU
          rw [if_neg n1,hf,if_neg (by rw [hml];decide),if_neg (by rw [hml];decide),if_neg n4]
         ·unfold Bo secL behL
          rw [if_neg n1,hf,if_neg n2,if_neg n3,if_neg n4,if_pos ht,if_pos ht]
def P4:List (Bool×Bool×Bool):=[(true,true,true),(true,true,true),(true,true,true),(true,true,true)]
theorem Dh {c r:Int} (h0:0≤c) (h1:c < 64) (hr:r=0∨r=1∨r=2):Ax P4 c r=true:=by
 have hk:c / 16=0∨c / 16=1∨c / 16=2∨c / 16=3:=by omega
 unfold Ax
 rw [decide_eq_true h0,decide_eq_true (show c < 16 * (P4.length:Int) from h1)]
 rcases hk with k | k | k | k <;> rcases hr with rfl | rfl | rfl <;> rw [k] <;> rfl
def Rn (S:MS) (k:Nat) (T:MS):Prop:=MsOk T∧∀n,runF (k + n) S=((runF n T).1 + k,(runF n T).2)
theorem Rn.refl {S:MS} (ok:MsOk S):Rn S 0 S:=⟨ok,fun n=>by rw [Nat.zero_add];rfl⟩
theorem Rn.trans {S T U:MS} {a b:Nat} (h:Rn S a T) (h2:Rn T b U):Rn S (a + b) U:=⟨h2.1,fun n=>by
 rw [Nat.add_assoc,h.2,h2.2]
 show ((runF n U).1 + b + a,_)=((runF n U).1 + (a + b),_)
 rw [Nat.add_assoc,Nat.add_comm b a]⟩
theorem Rn.one {S T:MS} (ok:MsOk S) (h1:(AK S).1="") (h2:(AK S).2=T):Rn S 1 T:=by
 subst h2
 refine ⟨(Gh ok (DQ ok)).ok,fun n=>?_⟩
 rw [Nat.add_comm 1 n]
 show (if (AK S).1="" then _ else _)=_
 rw [if_pos h1]
theorem Rn.stop {S T:MS} {k m:Nat} (h:Rn S k T) (hw:(AK T).1="stop") (hT:(AK T).2=T) (hk:k + 1≤m):runF m S=(k,("stop":Str),T):=by
 obtain ⟨n,rfl⟩:∃n,m=k + (n + 1):=⟨m - k - 1,by omega⟩
 rw [h.2]
 have e:runF (n + 1) T=(0,("stop":Str),T):=by
  show (if (AK T).1="" then _ else _)=_
  rw [hw,if_neg (by decide +kernel),hT]
 rw [e,Nat.zero_add]
def st (mem:List Int) (b0 b1 b2 b3 p:Int) (z l:Bool) (told sto:List Int) (d:Int):MS:=⟨P4,mem,[b0,b1,b2,b3],p,z,l,told,sto,d⟩
section
variable {mem told sto:List Int} {b0 b1 b2 b3 p d f:Int} {z l:Bool}
theorem go1 (ok:MsOk (st mem b0 b1 b2 b3 p z l told sto d)) (h0:0≤p) (h1:p < 64) (hf:Ao mem p=f) (hg:(badM f || badX f)=false) (ht:twoO (f / 256)=false) (hh:BU (st mem b0 b1 b2 b3 p z l told sto d) (f / 256) (BY (st mem b0 b1 b2 b3 p z l told sto d) (f / 16 % 4) (f % 16))="") {q:Int} (hq:p + 1=q) {T:MS} (hT:lawS (st mem b0 b1 b2 b3 p z l told sto d) (f / 256) (f / 64 % 4) (f / 16 % 4) (f % 16) 0 q=T):Rn (st mem b0 b1 b2 b3 p z l told sto d) 1 T:=by
 subst hT hq
 have er:Bo (st mem b0 b1 b2 b3 p z l told sto d)=[.int (f / 256),.int (f / 64 % 4),.int (f / 16 % 4),.int (f % 16),.int 0,.int (p + 1)]:=by
  unfold Bo
  rw [show (st mem b0 b1 b2 b3 p z l told sto d).pg=P4 from rfl,show (st mem b0 b1 b2 b3 p z l told sto d).here=p from rfl,show (st mem b0 b1 b2 b3 p z l told sto d).mem=mem from rfl,if_neg (by rw [Dh h0 h1 (.inr (.inr rfl))];decide),hf,if_neg (by rw [hg];decide),if_pos ht,show (p + 1) % 4096=p + 1 by omega]
 rcases Fc ok (DQ ok) with ⟨e,_⟩ | ⟨op,x,y,m,n,b,R⟩
 ·rw [er] at e
  cases e
 ·have e:=R.row
  rw [er] at e
  injection e with e1 e
  injection e with e2 e
  injection e with e3 e
  injection e with e4 e
  injection e with e5 e
  injection e with e6 e
  injection e1 with e1;injection e2 with e2;injection e3 with e3;injection e4 with e4;injection e5 with e5;injection e6 with e6
  subst e1 e2 e3 e4 e5 e6
  have w:=R.w
  have s:=R.s
  rw [hh] at w
  rw [hh,if_pos rfl] at s
  exact Rn.one ok w s
theorem go2 (ok:MsOk (st mem b0 b1 b2 b3 p z l told sto d)) (h0:0≤p) (h1:p + 1 < 64) (hf:Ao mem p=f) (hg:(badM f || badX f)=false) (ht:twoO (f / 256)=true) (hh:BU (st mem b0 b1 b2 b3 p z l told sto d) (f / 256) (BY (st mem b0 b1 b2 b3 p z l told sto d) (f / 16 % 4) (f % 16))="") {n q:Int} (hn:Ao mem (p + 1)=n) (hq:p + 2=q) {T:MS} (hT:lawS (st mem b0 b1 b2 b3 p z l told sto d) (f / 256) (f / 64 % 4) (f / 16 % 4) (f % 16) n q=T):Rn (st mem b0 b1 b2 b3 p z l told sto d) 1 T:=by
 subst hT hq
 have er:Bo (st mem b0 b1 b2 b3 p z l told sto d)=[.int (f / 256),.int (f / 64 % 4),.int (f / 16 % 4),.int (f % 16),.int n,.int (p + 2)]:=by
  unfold Bo
  rw [show (st mem b0 b1 b2 b3 p z l told sto d).pg=P4 from rfl,show (st mem b0 b1 b2 b3 p z l told sto d).here=p from rfl,show (st mem b0 b1 b2 b3 p z l told sto d).mem=mem from rfl,show (p + 1) % 4096=p + 1 by omega,if_neg (by rw [Dh h0 (by omega) (.inr (.inr rfl))];decide),hf,if_neg (by rw [hg];decide),if_neg (by rw [ht];decide),if_neg (by rw [Dh (by omega) h1 (.inr (.inr rfl))];decide),hn,show (p + 1 + 1) % 4096=p + 2 by omega]
 rcases Fc ok (DQ ok) with ⟨e,_⟩ | ⟨op,x,y,m,n',b,R⟩
 ·rw [er] at e
  cases e
 ·have e:=R.row
  rw [er] at e
  injection e with e1 e
  injection e with e2 e
  injection e with e3 e
  injection e with e4 e
  injection e with e5 e
  injection e with e6 e
  injection e1 with e1;injection e2 with e2;injection e3 with e3;injection e4 with e4;injection e5 with e5;injection e6 with e6
  subst e1 e2 e3 e4 e5 e6
  have w:=R.w
  have s:=R.s
  rw [hh] at w
  rw [hh,if_pos rfl] at s
  exact Rn.one ok w s
theorem halt (ok:MsOk (st mem b0 b1 b2 b3 p z l told sto d)) (h0:0≤p) (h1:p < 64) (hf:Ao mem p=0):(AK (st mem b0 b1 b2 b3 p z l told sto d)).1="stop"∧(AK (st mem b0 b1 b2 b3 p z l told sto d)).2=st mem b0 b1 b2 b3 p z l told sto d:=by
 have er:Bo (st mem b0 b1 b2 b3 p z l told sto d)=[.int 0,.int 0,.int 0,.int 0,.int 0,.int (p + 1)]:=by
  unfold Bo
  rw [show (st mem b0 b1 b2 b3 p z l told sto d).pg=P4 from rfl,show (st mem b0 b1 b2 b3 p z l told sto d).here=p from rfl,show (st mem b0 b1 b2 b3 p z l told sto d).mem=mem from rfl,if_neg (by rw [Dh h0 h1 (.inr (.inr rfl))];decide),hf,if_neg (by decide +kernel),if_pos (by decide +kernel),show (p + 1) % 4096=p + 1 by omega]
  rfl
 rcases Fc ok (DQ ok) with ⟨e,_⟩ | ⟨op,x,y,m,n,b,R⟩
 ·rw [er] at e
  cases e
 ·have e:=R.row
  rw [er] at e
  injection e with e1 e
  injection e1 with e1
  subst e1
  have w:=R.w
  have s:=R.s
  have hh:BU (st mem b0 b1 b2 b3 p z l told sto d) 0 (BY (st mem b0 b1 b2 b3 p z l told sto d) y m)="stop":=rfl
  rw [hh] at w s
  exact ⟨w,by rw [s,if_neg (by decide +kernel)]⟩
end
def At (mem:List Int) (b:Int) (ws:List Int):Prop:=∀(j:Nat) (v:Int),ws[j]?=some v→Ao mem (b + (j:Int))=v
def w1 (one b:Int):List Int:=[256,0,320,1,384,one,1232,3074,b + 12,800,2816,b + 6,3840,0]
section
variable {mem told sto:List Int} {a c one b d:Int} {z l:Bool}
theorem MJ (ok:MsOk (st mem a 1 one c (b + 6) z l told sto d)) (hb:0≤b∧b < 50) (hc:1≤c∧c < 4096) (A:At mem b (w1 one b)):∃z' l' d',Rn (st mem a 1 one c (b + 6) z l told sto d) 4 (st mem ((a + one) % 4096) 1 one (c - 1) (b + 6) z' l' told sto d'):=by
 have r1:Rn (st mem a 1 one c (b + 6) z l told sto d) 1 (st mem a 1 one ((c - 1) % 4096) (b + 7) (decide ((c - 1) % 4096=0)) (decide (c < 1)) told sto (d + 1)):=go1 ok (by omega) (by omega) (f:=1232) (A 6 _ rfl) (by decide +kernel) (by decide +kernel) rfl (by omega) rfl
 rw [show (c - 1) % 4096=c - 1 by omega,decide_eq_false (show ¬c < 1 by omega)] at r1
 have r2:Rn (st mem a 1 one (c - 1) (b + 7) (decide (c - 1=0)) false told sto (d + 1)) 1 (st mem a 1 one (c - 1) (b + 9) (decide (c - 1=0)) false told sto (d + 1 + 1)):=go2 r1.1 (by omega) (by omega) (f:=3074) (A 7 _ rfl) (by decide +kernel) (by decide +kernel) rfl (n:=b + 12) (by rw [show b + 7 + 1=b + 8 by omega];exact A 8 _ rfl) (by omega) rfl
 have r3:Rn (st mem a 1 one (c - 1) (b + 9) (decide (c - 1=0)) false told sto (d + 1 + 1)) 1 (st mem ((a + one) % 4096) 1 one (c - 1) (b + 10) (decide ((a + one) % 4096=0)) (decide (a + one > 4095)) told sto (d + 1 + 1 + 1)):=go1 r2.1 (by omega) (by omega) (f:=800) (A 9 _ rfl) (by decide +kernel) (by decide +kernel) rfl (by omega) rfl
 have r4:Rn (st mem ((a + one) % 4096) 1 one (c - 1) (b + 10) (decide ((a + one) % 4096=0)) (decide (a + one > 4095)) told sto (d + 1 + 1 + 1)) 1 (st mem ((a + one) % 4096) 1 one (c - 1) (b + 6) (decide ((a + one) % 4096=0)) (decide (a + one > 4095)) told sto (d + 1 + 1 + 1 + 1)):=go2 r3.1 (by omega) (by omega) (f:=2816) (A 10 _ rfl) (by decide +kernel) (by decide +kernel) rfl (n:=b + 6) (by rw [show b + 10 + 1=b + 11 by omega];exact A 11 _ rfl) (q:=b + 12) (by omega) rfl
 exact ⟨_,_,_,((r1.trans r2).trans r3).trans r4⟩
theorem Jk (hb:0≤b∧b < 50) {t:Int} (ht:0≤t∧t < 200) (A:At mem b (w1 one b)) (ok:MsOk (st mem 0 1 one t (b + 6) z l told sto d)):∀k:Nat,(k:Int)≤t→∃z' l' d',Rn (st mem 0 1 one t (b + 6) z l told sto d) (4 * k) (st mem (one * k % 4096) 1 one (t - k) (b + 6) z' l' told sto d')
 | 0,_=>⟨z,l,d,by
   have e1:one * ((0:Nat):Int) % 4096=0:=by rw [show ((0:Nat):Int)=0 from rfl,Int.mul_zero];rfl
   have e2:t - ((0:Nat):Int)=t:=by omega
   rw [e1,e2]
   exact Rn.refl ok⟩
 | k + 1,hk=>by
   obtain ⟨z1,l1,d1,h⟩:=Jk hb ht A ok k (by omega)
   obtain ⟨z2,l2,d2,h2⟩:=MJ h.1 hb (by omega) A
   refine ⟨z2,l2,d2,?_⟩
   have e1:(one * k % 4096 + one) % 4096=one * ((k + 1:Nat):Int) % 4096:=by
    rw [Int.emod_add_emod,show ((k + 1:Nat):Int)=(k:Int) + 1 by omega,Int.mul_add,Int.mul_one]
   have e2:t - (k:Int) - 1=t - ((k + 1:Nat):Int):=by omega
   rw [e1,e2] at h2
   have:=h.trans h2
   rwa [show 4 * k + 4=4 * (k + 1) by omega] at this
theorem OQ (hb:0≤b∧b < 50) {t:Int} (ht:0≤t∧t < 200) (A:At mem b (w1 one b)) (ok:MsOk (st mem 9 9 9 t b false false [] [] 0)):∃x z' l' d',runF 900 (st mem 9 9 9 t b false false [] [] 0)=((6 + 4 * t).toNat,("stop":Str),st mem (one * t % 4096) 1 one x (b + 13) z' l' [one * t % 4096] [] d'):=by
 have r1:Rn (st mem 9 9 9 t b false false [] [] 0) 1 (st mem 0 9 9 t (b + 2) false false [] [] 1):=go2 ok (by omega) (by omega) (f:=256) (by have:=A 0 _ rfl;rwa [show b + ((0:Nat):Int)=b by omega] at this) (by decide +kernel) (by decide +kernel) rfl (n:=0) (A 1 _ rfl) (by omega) rfl
 have r2:Rn (st mem 0 9 9 t (b + 2) false false [] [] 1) 1 (st mem 0 1 9 t (b + 4) false false [] [] 2):=go2 r1.1 (by omega) (by omega) (f:=320) (A 2 _ rfl) (by decide +kernel) (by decide +kernel) rfl (n:=1) (by rw [show b + 2 + 1=b + 3 by omega];exact A 3 _ rfl) (by omega) rfl
 have r3:Rn (st mem 0 1 9 t (b + 4) false false [] [] 2) 1 (st mem 0 1 one t (b + 6) false false [] [] 3):=go2 r2.1 (by omega) (by omega) (f:=384) (A 4 _ rfl) (by decide +kernel) (by decide +kernel) rfl (n:=one) (by rw [show b + 4 + 1=b + 5 by omega];exact A 5 _ rfl) (by omega) rfl
 obtain ⟨z1,l1,d1,h⟩:=Jk hb ht A r3.1 t.toNat (by omega)
 rw [show ((t.toNat:Nat):Int)=t by omega,show t - t=0 by omega] at h
 have r4:Rn (st mem (one * t % 4096) 1 one 0 (b + 6) z1 l1 [] [] d1) 1 (st mem (one * t % 4096) 1 one 4095 (b + 7) false true [] [] (d1 + 1)):=go1 h.1 (by omega) (by omega) (f:=1232) (A 6 _ rfl) (by decide +kernel) (by decide +kernel) rfl (by omega) rfl
 have r5:Rn (st mem (one * t % 4096) 1 one 4095 (b + 7) false true [] [] (d1 + 1)) 1 (st mem (one * t % 4096) 1 one 4095 (b + 12) false true [] [] (d1 + 1 + 1)):=go2 r4.1 (by omega) (by omega) (f:=3074) (A 7 _ rfl) (by decide +kernel) (by decide +kernel) rfl (n:=b + 12) (by rw [show b + 7 + 1=b + 8 by omega];exact A 8 _ rfl) (q:=b + 9) (by omega) rfl
 have r6:Rn (st mem (one * t % 4096) 1 one 4095 (b + 12) false true [] [] (d1 + 1 + 1)) 1 (st mem (one * t % 4096) 1 one 4095 (b + 13) false true [one * t % 4096] [] (d1 + 1 + 1 + 1)):=go1 r5.1 (by omega) (by omega) (f:=3840) (A 12 _ rfl) (by decide +kernel) (by decide +kernel) rfl (by omega) rfl
 obtain ⟨s1,s2⟩:=halt r6.1 (by omega) (by omega) (A 13 _ rfl)
 refine ⟨4095,false,true,d1 + 1 + 1 + 1,?_⟩
 have:=Rn.stop (m:=900) ((((((r1.trans r2).trans r3).trans h).trans r4).trans r5).trans r6) s1 s2 (by omega)
 rwa [show 1 + 1 + 1 + 4 * t.toNat + 1 + 1 + 1=(6 + 4 * t).toNat by omega] at this
end
def w4 (word b:Int):List Int:=[256,word,3520,b + 8,3520,b + 8,3840,0,784,3776]
section
variable {mem told sto:List Int} {a c one b d:Int} {z l:Bool}
theorem OM {word more:Int} (hb:0≤b∧b < 50) (A:At mem b (w4 word b)) (ok:MsOk (st mem 9 more 9 9 b false false [] [] 0)):∃z' l' d',runF 900 (st mem 9 more 9 9 b false false [] [] 0)=(8,("stop":Str),st mem ((word + 2 * more) % 4096) more 9 (b + 6) (b + 7) z' l' [(word + 2 * more) % 4096] [] d'):=by
 have r1:Rn (st mem 9 more 9 9 b false false [] [] 0) 1 (st mem word more 9 9 (b + 2) false false [] [] 1):=go2 ok (by omega) (by omega) (f:=256) (by have:=A 0 _ rfl;rwa [show b + ((0:Nat):Int)=b by omega] at this) (by decide +kernel) (by decide +kernel) rfl (n:=word) (A 1 _ rfl) (by omega) rfl
 have r2:Rn (st mem word more 9 9 (b + 2) false false [] [] 1) 1 (st mem word more 9 (b + 4) (b + 8) false false [] [] 2):=go2 r1.1 (by omega) (by omega) (f:=3520) (A 2 _ rfl) (by decide +kernel) (by decide +kernel) rfl (n:=b + 8) (by rw [show b + 2 + 1=b + 3 by omega];exact A 3 _ rfl) (by omega) rfl
 have r3:Rn (st mem word more 9 (b + 4) (b + 8) false false [] [] 2) 1 (st mem ((word + more) % 4096) more 9 (b + 4) (b + 9) (decide ((word + more) % 4096=0)) (decide (word + more > 4095)) [] [] 3):=go1 r2.1 (by omega) (by omega) (f:=784) (A 8 _ rfl) (by decide +kernel) (by decide +kernel) rfl (by omega) rfl
 have r4:Rn (st mem ((word + more) % 4096) more 9 (b + 4) (b + 9) (decide ((word + more) % 4096=0)) (decide (word + more > 4095)) [] [] 3) 1 (st mem ((word + more) % 4096) more 9 (b + 4) (b + 4) (decide ((word + more) % 4096=0)) (decide (word + more > 4095)) [] [] 4):=go1 r3.1 (by omega) (by omega) (f:=3776) (A 9 _ rfl) (by decide +kernel) (by decide +kernel) rfl (q:=b + 10) (by omega) rfl
 have r5:Rn (st mem ((word + more) % 4096) more 9 (b + 4) (b + 4) (decide ((word + more) % 4096=0)) (decide (word + more > 4095)) [] [] 4) 1 (st mem ((word + more) % 4096) more 9 (b + 6) (b + 8) (decide ((word + more) % 4096=0)) (decide (word + more > 4095)) [] [] 5):=go2 r4.1 (by omega) (by omega) (f:=3520) (A 4 _ rfl) (by decide +kernel) (by decide +kernel) rfl (n:=b + 8) (by rw [show b + 4 + 1=b + 5 by omega];exact A 5 _ rfl) (by omega) rfl
 have r6:Rn (st mem ((word + more) % 4096) more 9 (b + 6) (b + 8) (decide ((word + more) % 4096=0)) (decide (word + more > 4095)) [] [] 5) 1 (st mem (((word + more) % 4096 + more) % 4096) more 9 (b + 6) (b + 9) (decide (((word + more) % 4096 + more) % 4096=0)) (decide ((word + more) % 4096 + more > 4095)) [] [] 6):=go1 r5.1 (by omega) (by omega) (f:=784) (A 8 _ rfl) (by decide +kernel) (by decide +kernel) rfl (by omega) rfl
 have e:((word + more) % 4096 + more) % 4096=(word + 2 * more) % 4096:=by rw [Int.emod_add_emod];congr 1;omega
 generalize decide (((word + more) % 4096 + more) % 4096=0)=z6,decide ((word + more) % 4096 + more > 4095)=l6 at r6
 rw [e] at r6
 have r7:Rn (st mem ((word + 2 * more) % 4096) more 9 (b + 6) (b + 9) z6 l6 [] [] 6) 1 (st mem ((word + 2 * more) % 4096) more 9 (b + 6) (b + 6) z6 l6 [] [] 7):=go1 r6.1 (by omega) (by omega) (f:=3776) (A 9 _ rfl) (by decide +kernel) (by decide +kernel) rfl (q:=b + 10) (by omega) rfl
 have r8:Rn (st mem ((word + 2 * more) % 4096) more 9 (b + 6) (b + 6) z6 l6 [] [] 7) 1 (st mem ((word + 2 * more) % 4096) more 9 (b + 6) (b + 7) z6 l6 [(word + 2 * more) % 4096] [] 8):=go1 r7.1 (by omega) (by omega) (f:=3840) (A 6 _ rfl) (by decide +kernel) (by decide +kernel) rfl (by omega) rfl
 obtain ⟨s1,s2⟩:=halt r8.1 (by omega) (by omega) (A 7 _ rfl)
 exact ⟨z6,l6,8,Rn.stop (m:=900) (((((((r1.trans r2).trans r3).trans r4).trans r5).trans r6).trans r7).trans r8) s1 s2 (by omega)⟩
end
def w3 (v b:Int):List Int:=[320,1,448,b + 5,256,v,3840,784,2608,1168,3073,b + 4,0]
theorem DO {m:List Int} {p q v:Int} (hp:0≤p) (hp2:p < m.length) (hq:0≤q):Ao (m.set p.toNat v) q=if q=p then v else Ao m q:=by
 unfold Ao
 rw [List.getD_eq_getElem?_getD,List.getD_eq_getElem?_getD]
 by_cases h:q=p
 ·subst h
  rw [if_pos rfl,List.getElem?_set_self (by omega)]
  rfl
 ·rw [if_neg h,List.getElem?_set_ne (by omega)]
section
variable {mem told sto:List Int} {a c one b d:Int} {z l:Bool}
theorem HZ {v v':Int} (hb:0≤b∧b < 50) (hl:mem.length=64) (A:At mem b (w3 v b)):At (mem.set (b + 5).toNat v') b (w3 v' b):=fun j w h=>by
 have hj:j < 13:=(List.getElem?_eq_some_iff.mp h).1
 rw [DO (by omega) (by rw [hl];omega) (by omega)]
 by_cases h5:j=5
 ·subst h5
  rw [if_pos (by omega)]
  exact Option.some.inj h
 ·rw [if_neg (by omega)]
  refine A j w ?_
  match j,hj,h5,h with
  | 0,_,_,h=>exact h
  | 1,_,_,h=>exact h
  | 2,_,_,h=>exact h
  | 3,_,_,h=>exact h
  | 4,_,_,h=>exact h
  | 5,_,h5,_=>exact absurd rfl h5
  | 6,_,_,h=>exact h
  | 7,_,_,h=>exact h
  | 8,_,_,h=>exact h
  | 9,_,_,h=>exact h
  | 10,_,_,h=>exact h
  | 11,_,_,h=>exact h
  | 12,_,_,h=>exact h
theorem IU {v n:Int} (hb:0≤b∧b < 50) (hl:mem.length=64) (hn:1≤n∧n≤60) (A:At mem b (w3 v b)) (ok:MsOk (st mem a 1 n (b + 5) (b + 4) z l told sto d)):∃z' l' d',Rn (st mem a 1 n (b + 5) (b + 4) z l told sto d) 6 (st (mem.set (b + 5).toNat ((v + 1) % 4096)) ((v + 1) % 4096) 1 (n - 1) (b + 5) (if n=1 then b + 12 else b + 4) z' l' (told++[v]) (sto++[b + 5]) d'):=by
 have r1:Rn (st mem a 1 n (b + 5) (b + 4) z l told sto d) 1 (st mem v 1 n (b + 5) (b + 6) z l told sto (d + 1)):=go2 ok (by omega) (by omega) (f:=256) (A 4 _ rfl) (by decide +kernel) (by decide +kernel) rfl (n:=v) (by rw [show b + 4 + 1=b + 5 by omega];exact A 5 _ rfl) (by omega) rfl
 have r2:Rn (st mem v 1 n (b + 5) (b + 6) z l told sto (d + 1)) 1 (st mem v 1 n (b + 5) (b + 7) z l (told++[v]) sto (d + 1 + 1)):=go1 r1.1 (by omega) (by omega) (f:=3840) (A 6 _ rfl) (by decide +kernel) (by decide +kernel) rfl (by omega) rfl
 have r3:Rn (st mem v 1 n (b + 5) (b + 7) z l (told++[v]) sto (d + 1 + 1)) 1 (st mem ((v + 1) % 4096) 1 n (b + 5) (b + 8) (decide ((v + 1) % 4096=0)) (decide (v + 1 > 4095)) (told++[v]) sto (d + 1 + 1 + 1)):=go1 r2.1 (by omega) (by omega) (f:=784) (A 7 _ rfl) (by decide +kernel) (by decide +kernel) rfl (by omega) rfl
 generalize decide ((v + 1) % 4096=0)=z3,decide (v + 1 > 4095)=l3 at r3
 have ec:(b + 5 + 0) % 4096=b + 5:=by omega
 have r4:Rn (st mem ((v + 1) % 4096) 1 n (b + 5) (b + 8) z3 l3 (told++[v]) sto (d + 1 + 1 + 1)) 1 (st (mem.set (b + 5).toNat ((v + 1) % 4096)) ((v + 1) % 4096) 1 n (b + 5) (b + 9) z3 l3 (told++[v]) (sto++[b + 5]) (d + 1 + 1 + 1 + 1)):=go1 r3.1 (by omega) (by omega) (f:=2608) (A 8 _ rfl) (by decide +kernel) (by decide +kernel) (by
   show BU _ 10 ((b + 5 + 0) % 4096)=""
   rw [LA,ec,show (st mem ((v + 1) % 4096) 1 n (b + 5) (b + 8) z3 l3 (told++[v]) sto (d + 1 + 1 + 1)).pg=P4 from rfl,Dh (by omega) (by omega) (.inr (.inl rfl))]
   rfl) (q:=b + 9) (by omega) (by
   show st (mem.set ((b + 5 + 0) % 4096).toNat ((v + 1) % 4096)) ((v + 1) % 4096) 1 n (b + 5) (b + 9) z3 l3 (told++[v]) (sto++[(b + 5 + 0) % 4096]) (d + 1 + 1 + 1 + 1)=_
   rw [ec])
 have A2:=HZ (v':=(v + 1) % 4096) hb hl A
 have r5:Rn (st (mem.set (b + 5).toNat ((v + 1) % 4096)) ((v + 1) % 4096) 1 n (b + 5) (b + 9) z3 l3 (told++[v]) (sto++[b + 5]) (d + 1 + 1 + 1 + 1)) 1 (st (mem.set (b + 5).toNat ((v + 1) % 4096)) ((v + 1) % 4096) 1 ((n - 1) % 4096) (b + 5) (b + 10) (decide ((n - 1) % 4096=0)) (decide (n < 1)) (told++[v]) (sto++[b + 5]) (d + 1 + 1 + 1 + 1 + 1)):=go1 r4.1 (by omega) (by omega) (f:=1168) (A2 9 _ rfl) (by decide +kernel) (by decide +kernel) rfl (by omega) rfl
 rw [show (n - 1) % 4096=n - 1 by omega] at r5
 have r6:Rn (st (mem.set (b + 5).toNat ((v + 1) % 4096)) ((v + 1) % 4096) 1 (n - 1) (b + 5) (b + 10) (decide (n - 1=0)) (decide (n < 1)) (told++[v]) (sto++[b + 5]) (d + 1 + 1 + 1 + 1 + 1)) 1 (st (mem.set (b + 5).toNat ((v + 1) % 4096)) ((v + 1) % 4096) 1 (n - 1) (b + 5) (if n=1 then b + 12 else b + 4) (decide (n - 1=0)) (decide (n < 1)) (told++[v]) (sto++[b + 5]) (d + 1 + 1 + 1 + 1 + 1 + 1)):=go2 r5.1 (by omega) (by omega) (f:=3073) (A2 10 _ rfl) (by decide +kernel) (by decide +kernel) rfl (n:=b + 4) (by rw [show b + 10 + 1=b + 11 by omega];exact A2 11 _ rfl) (q:=b + 12) (by omega) (by
   by_cases h:n=1
   ·subst h;rfl
   ·rw [if_neg h,decide_eq_false (show ¬n - 1=0 by omega)];rfl)
 exact ⟨_,_,_,((((r1.trans r2).trans r3).trans r4).trans r5).trans r6⟩
end
section
variable {mem told sto:List Int} {a c one b d:Int} {z l:Bool}
theorem Jm {first many:Int} (hb:0≤b∧b < 50) (hl:mem.length=64) (hm:1≤many∧many≤60) (hf:0≤first∧first < 4096) (A:At mem b (w3 first b)) (ok:MsOk (st mem a 1 many (b + 5) (b + 4) z l [] [] d)):∀k:Nat,(k:Int) + 1≤many→∃a' z' l' d',Rn (st mem a 1 many (b + 5) (b + 4) z l [] [] d) (6 * (k + 1)) (st (mem.set (b + 5).toNat ((first + (k + 1)) % 4096)) a' 1 (many - (k + 1)) (b + 5) (if many=k + 1 then b + 12 else b + 4) z' l' ((List.range (k + 1)).map fun i:Nat=>(first + (i:Int)) % 4096) (List.replicate (k + 1) (b + 5)) d')
 | 0,_=>by
   obtain ⟨z1,l1,d1,h⟩:=IU hb hl hm A ok
   have e0:(List.range (0 + 1)).map (fun i:Nat=>(first + (i:Int)) % 4096)=[first]:=by
    show [(first + ((0:Nat):Int)) % 4096]=[first]
    rw [show (first + ((0:Nat):Int)) % 4096=first by omega]
   refine ⟨(first + 1) % 4096,z1,l1,d1,?_⟩
   rw [e0]
   have e1:first + (((0:Nat):Int) + 1)=first + 1:=by omega
   have e2:many - (((0:Nat):Int) + 1)=many - 1:=by omega
   have e3:(if many=((0:Nat):Int) + 1 then b + 12 else b + 4)=if many=1 then b + 12 else b + 4:=rfl
   rw [e1,e2,e3]
   exact h
 | k + 1,hk=>by
   obtain ⟨a1,z1,l1,d1,h⟩:=Jm hb hl hm hf A ok k (by omega)
   rw [if_neg (show ¬many=(k:Int) + 1 by omega)] at h
   have A2:=HZ (v':=(first + ((k:Int) + 1)) % 4096) hb hl A
   obtain ⟨z2,l2,d2,h2⟩:=IU (n:=many - ((k:Int) + 1)) hb (by rw [List.length_set];exact hl) (by omega) A2 h.1
   rw [List.set_set,Int.emod_add_emod] at h2
   refine ⟨(first + ((k:Int) + 1) + 1) % 4096,z2,l2,d2,?_⟩
   have e1:first + (((k + 1:Nat):Int) + 1)=first + ((k:Int) + 1) + 1:=by omega
   have e2:many - (((k + 1:Nat):Int) + 1)=many - ((k:Int) + 1) - 1:=by omega
   have e3:(if many=((k + 1:Nat):Int) + 1 then b + 12 else b + 4)=if many - ((k:Int) + 1)=1 then b + 12 else b + 4:=by
    by_cases h:many - ((k:Int) + 1)=1
    ·rw [if_pos h,if_pos (by omega)]
    ·rw [if_neg h,if_neg (by omega)]
   have e4:(List.range (k + 1 + 1)).map (fun i:Nat=>(first + (i:Int)) % 4096)=(List.range (k + 1)).map (fun i:Nat=>(first + (i:Int)) % 4096)++[(first + ((k:Int) + 1)) % 4096]:=by
    rw [List.range_succ,List.map_append]
    rfl
   have e5:List.replicate (k + 1 + 1) (b + 5)=List.replicate (k + 1) (b + 5)++[b + 5]:=List.replicate_succ'
   rw [e1,e2,e3,e4,e5]
   have:=h.trans h2
   rwa [show 6 * (k + 1) + 6=6 * (k + 1 + 1) by omega] at this
theorem P7 {first many:Int} (hb:0≤b∧b < 50) (hl:mem.length=64) (hm:1≤many∧many≤60) (hf:0≤first∧first < 4096) (A:At mem b (w3 first b)) (ok:MsOk (st mem 9 9 many 9 b false false [] [] 0)):∃a' y z' l' d',runF 900 (st mem 9 9 many 9 b false false [] [] 0)=((2 + 6 * many).toNat,("stop":Str),st (mem.set (b + 5).toNat ((first + many) % 4096)) a' 1 y (b + 5) (b + 12) z' l' ((List.range many.toNat).map fun i:Nat=>(first + (i:Int)) % 4096) (List.replicate many.toNat (b + 5)) d'):=by
 have r1:Rn (st mem 9 9 many 9 b false false [] [] 0) 1 (st mem 9 1 many 9 (b + 2) false false [] [] 1):=go2 ok (by omega) (by omega) (f:=320) (by have:=A 0 _ rfl;rwa [show b + ((0:Nat):Int)=b by omega] at this) (by decide +kernel) (by decide +kernel) rfl (n:=1) (A 1 _ rfl) (by omega) rfl
 have r2:Rn (st mem 9 1 many 9 (b + 2) false false [] [] 1) 1 (st mem 9 1 many (b + 5) (b + 4) false false [] [] 2):=go2 r1.1 (by omega) (by omega) (f:=448) (A 2 _ rfl) (by decide +kernel) (by decide +kernel) rfl (n:=b + 5) (by rw [show b + 2 + 1=b + 3 by omega];exact A 3 _ rfl) (by omega) rfl
 obtain ⟨k,hk⟩:∃k:Nat,many=(k:Int) + 1:=⟨many.toNat - 1,by omega⟩
 obtain ⟨a1,z1,l1,d1,h⟩:=Jm hb hl hm hf A r2.1 k (by omega)
 rw [if_pos hk] at h
 have A2:=HZ (v':=(first + ((k:Int) + 1)) % 4096) hb hl A
 obtain ⟨s1,s2⟩:=halt h.1 (by omega) (by omega) (A2 12 _ rfl)
 refine ⟨a1,many - many,z1,l1,d1,?_⟩
 have:=Rn.stop (m:=900) ((r1.trans r2).trans h) s1 s2 (by omega)
 rw [show 1 + 1 + 6 * (k + 1)=(2 + 6 * many).toNat by omega,←hk,show k + 1=many.toNat by omega] at this
 exact this
end
def w2 (far b:Int):List Int:=[320,1,2096,3072,b + 10,2432,2688 + far,784,2816,b + 2,0]
def cpy (g far:Int):Nat→List Int→List Int
 | 0,m=>m
 | k + 1,m=>(cpy g far k m).set (g + k + far).toNat (Ao (cpy g far k m) (g + k))
theorem ED (g far:Int) (m:List Int):∀k,(cpy g far k m).length=m.length
 | 0=>rfl
 | k + 1=>by
   show ((cpy g far k m).set _ _).length=_
   rw [List.length_set,ED g far m k]
section
variable {mem told sto:List Int} {a c one b d g far:Int} {z l:Bool}
theorem Ij (hb:0≤b∧b < 5) (hg:16≤g∧g < 24) (hf:1≤far∧far < 16) (hl:mem.length=64) (A:At mem b (w2 far b)):∀k:Nat,k≤21→At (cpy g far k mem) b (w2 far b)
 | 0,_=>A
 | k + 1,hk=>fun j w h=>by
   have hj:j < 11:=(List.getElem?_eq_some_iff.mp h).1
   show Ao ((cpy g far k mem).set _ _) _=_
   rw [DO (by omega) (by rw [ED,hl];omega) (by omega),if_neg (by omega)]
   exact Ij hb hg hf hl A k (by omega) j w h
theorem MT {far:Int} (hf:1≤far∧far < 16):(badM (2688 + far) || badX (2688 + far))=false:=by
 obtain ⟨a1,a2,a3,b1,b2,b3,c1,c2,c3,d1,d2,d3,e1,e2,e3⟩:=Qj
 unfold badM badX
 rw [show (2688 + far) / 256=10 by omega]
 show (decide ((2688 + far) % 16 > limO "xym") || ((!inB "x" "xym" && decide ((2688 + far) / 64 % 4 > 0)) || (!inB "y" "xym" && decide ((2688 + far) / 16 % 4 > 0))))=false
 rw [d1,d2,d3,decide_eq_false (by omega)]
 rfl
theorem MP {e:Int} {k:Nat} (hb:0≤b∧b < 5) (hg:16≤g∧g < 24) (hf:1≤far∧far < 16) (hl:mem.length=64) (hk:k < 20) (he:g + k < e∧e≤g + 20) (A:At (cpy g far k mem) b (w2 far b)) (ok:MsOk (st (cpy g far k mem) (g + k) 1 c e (b + 2) z l told sto d)):∃c' z' l' d',Rn (st (cpy g far k mem) (g + k) 1 c e (b + 2) z l told sto d) 6 (st (cpy g far (k + 1) mem) (g + k + 1) 1 c' e (b + 2) z' l' told (sto++[g + k + far]) d'):=by
 have hlen:((cpy g far k mem).length:Int)=64:=by rw [ED,hl];rfl
 have r1:Rn (st (cpy g far k mem) (g + k) 1 c e (b + 2) z l told sto d) 1 (st (cpy g far k mem) (g + k) 1 c e (b + 3) (decide ((g + k - e) % 4096=0)) (decide (g + k < e)) told sto (d + 1)):=go1 ok (by omega) (by omega) (f:=2096) (A 2 _ rfl) (by decide +kernel) (by decide +kernel) rfl (by omega) rfl
 rw [decide_eq_false (show ¬(g + k - e) % 4096=0 by omega)] at r1
 generalize decide (g + k < e)=l1 at r1
 have r2:Rn (st (cpy g far k mem) (g + k) 1 c e (b + 3) false l1 told sto (d + 1)) 1 (st (cpy g far k mem) (g + k) 1 c e (b + 5) false l1 told sto (d + 1 + 1)):=go2 r1.1 (by omega) (by omega) (f:=3072) (A 3 _ rfl) (by decide +kernel) (by decide +kernel) rfl (n:=b + 10) (by rw [show b + 3 + 1=b + 4 by omega];exact A 4 _ rfl) (by omega) rfl
 have ec:(g + k + 0) % 4096=g + k:=by omega
 have r3:Rn (st (cpy g far k mem) (g + k) 1 c e (b + 5) false l1 told sto (d + 1 + 1)) 1 (st (cpy g far k mem) (g + k) 1 (Ao (cpy g far k mem) (g + k)) e (b + 6) false l1 told sto (d + 1 + 1 + 1)):=go1 r2.1 (by omega) (by omega) (f:=2432) (A 5 _ rfl) (by decide +kernel) (by decide +kernel) (by
   show BU _ 9 ((g + k + 0) % 4096)=""
   rw [Pn,ec,show (st (cpy g far k mem) (g + k) 1 c e (b + 5) false l1 told sto (d + 1 + 1)).pg=P4 from rfl,Dh (by omega) (by omega) (.inl rfl)]
   rfl) (q:=b + 6) (by omega) (by
   show st (cpy g far k mem) (g + k) 1 (Ao (cpy g far k mem) ((g + k + 0) % 4096 % ((cpy g far k mem).length:Int))) e (b + 6) false l1 told sto (d + 1 + 1 + 1)=_
   rw [ec,hlen,show (g + (k:Int)) % 64=g + k by omega])
 have ef:(g + k + far) % 4096=g + k + far:=by omega
 have r4:Rn (st (cpy g far k mem) (g + k) 1 (Ao (cpy g far k mem) (g + k)) e (b + 6) false l1 told sto (d + 1 + 1 + 1)) 1 (st (cpy g far (k + 1) mem) (g + k) 1 (Ao (cpy g far k mem) (g + k)) e (b + 7) false l1 told (sto++[g + k + far]) (d + 1 + 1 + 1 + 1)):=go1 r3.1 (by omega) (by omega) (f:=2688 + far) (A 6 _ rfl) (MT hf) (by rw [show (2688 + far) / 256=10 by omega];decide +kernel) (by
   rw [show (2688 + far) / 256=10 by omega,show (2688 + far) / 16 % 4=0 by omega,show (2688 + far) % 16=far by omega]
   show BU _ 10 ((g + k + far) % 4096)=""
   rw [LA,ef,show (st (cpy g far k mem) (g + k) 1 (Ao (cpy g far k mem) (g + k)) e (b + 6) false l1 told sto (d + 1 + 1 + 1)).pg=P4 from rfl,Dh (by omega) (by omega) (.inr (.inl rfl))]
   rfl) (q:=b + 7) (by omega) (by
   rw [show (2688 + far) / 256=10 by omega,show (2688 + far) / 64 % 4=2 by omega,show (2688 + far) / 16 % 4=0 by omega,show (2688 + far) % 16=far by omega]
   show st ((cpy g far k mem).set ((g + k + far) % 4096).toNat (Ao (cpy g far k mem) (g + k))) (g + k) 1 (Ao (cpy g far k mem) (g + k)) e (b + 7) false l1 told (sto++[(g + k + far) % 4096]) (d + 1 + 1 + 1 + 1)=_
   rw [ef]
   rfl)
 have A2:At (cpy g far (k + 1) mem) b (w2 far b):=fun j w h=>by
  have hj:j < 11:=(List.getElem?_eq_some_iff.mp h).1
  show Ao ((cpy g far k mem).set _ _) _=_
  rw [DO (by omega) (by rw [hlen];omega) (by omega),if_neg (by omega)]
  exact A j w h
 have r5:Rn (st (cpy g far (k + 1) mem) (g + k) 1 (Ao (cpy g far k mem) (g + k)) e (b + 7) false l1 told (sto++[g + k + far]) (d + 1 + 1 + 1 + 1)) 1 (st (cpy g far (k + 1) mem) ((g + k + 1) % 4096) 1 (Ao (cpy g far k mem) (g + k)) e (b + 8) (decide ((g + k + 1) % 4096=0)) (decide (g + k + 1 > 4095)) told (sto++[g + k + far]) (d + 1 + 1 + 1 + 1 + 1)):=go1 r4.1 (by omega) (by omega) (f:=784) (A2 7 _ rfl) (by decide +kernel) (by decide +kernel) rfl (by omega) rfl
 generalize decide ((g + k + 1) % 4096=0)=z5,decide (g + k + 1 > 4095)=l5 at r5
 rw [show (g + (k:Int) + 1) % 4096=g + k + 1 by omega] at r5
 have r6:Rn (st (cpy g far (k + 1) mem) (g + k + 1) 1 (Ao (cpy g far k mem) (g + k)) e (b + 8) z5 l5 told (sto++[g + k + far]) (d + 1 + 1 + 1 + 1 + 1)) 1 (st (cpy g far (k + 1) mem) (g + k + 1) 1 (Ao (cpy g far k mem) (g + k)) e (b + 2) z5 l5 told (sto++[g + k + far]) (d + 1 + 1 + 1 + 1 + 1 + 1)):=go2 r5.1 (by omega) (by omega) (f:=2816) (A2 8 _ rfl) (by decide +kernel) (by decide +kernel) rfl (n:=b + 2) (by rw [show b + 8 + 1=b + 9 by omega];exact A2 9 _ rfl) (q:=b + 10) (by omega) rfl
 exact ⟨_,_,_,_,((((r1.trans r2).trans r3).trans r4).trans r5).trans r6⟩
theorem IT {many:Nat} (hb:0≤b∧b < 5) (hg:16≤g∧g < 24) (hf:1≤far∧far < 16) (hl:mem.length=64) (hm:many≤20) (A:At mem b (w2 far b)) (ok:MsOk (st mem g 1 0 (g + many) (b + 2) z l told [] d)):∀k:Nat,k≤many→∃c' z' l' d',Rn (st mem g 1 0 (g + many) (b + 2) z l told [] d) (6 * k) (st (cpy g far k mem) (g + k) 1 c' (g + many) (b + 2) z' l' told ((List.range k).map fun i:Nat=>g + (i:Int) + far) d')
 | 0,_=>⟨0,z,l,d,by
   have e:g + ((0:Nat):Int)=g:=by omega
   rw [e]
   exact Rn.refl ok⟩
 | k + 1,hk=>by
   obtain ⟨c1,z1,l1,d1,h⟩:=IT hb hg hf hl hm A ok k (by omega)
   obtain ⟨c2,z2,l2,d2,h2⟩:=MP (k:=k) (e:=g + many) hb hg hf hl (by omega) (by omega) (Ij hb hg hf hl A k (by omega)) h.1
   refine ⟨c2,z2,l2,d2,?_⟩
   have e1:g + ((k + 1:Nat):Int)=g + k + 1:=by omega
   have e4:(List.range (k + 1)).map (fun i:Nat=>g + (i:Int) + far)=(List.range k).map (fun i:Nat=>g + (i:Int) + far)++[g + (k:Int) + far]:=by
    rw [List.range_succ,List.map_append]
    rfl
   rw [e1,e4]
   have:=h.trans h2
   rwa [show 6 * k + 6=6 * (k + 1) by omega] at this
theorem OL {many:Nat} (hb:0≤b∧b < 5) (hg:16≤g∧g < 24) (hf:1≤far∧far < 16) (hl:mem.length=64) (hm:many≤20) (A:At mem b (w2 far b)) (ok:MsOk (st mem g 0 0 (g + many) b false false [] [] 0)):∃a' c' y z' l' d',runF 900 (st mem g 0 0 (g + many) b false false [] [] 0)=(3 + 6 * many,("stop":Str),st (cpy g far many mem) a' 1 c' y (b + 10) z' l' [] ((List.range many).map fun i:Nat=>g + (i:Int) + far) d'):=by
 have r1:Rn (st mem g 0 0 (g + many) b false false [] [] 0) 1 (st mem g 1 0 (g + many) (b + 2) false false [] [] 1):=go2 ok (by omega) (by omega) (f:=320) (by have:=A 0 _ rfl;rwa [show b + ((0:Nat):Int)=b by omega] at this) (by decide +kernel) (by decide +kernel) rfl (n:=1) (A 1 _ rfl) (by omega) rfl
 obtain ⟨c1,z1,l1,d1,h⟩:=IT hb hg hf hl hm A r1.1 many (Nat.le_refl _)
 have A2:=Ij hb hg hf hl A many (by omega)
 have r3:Rn (st (cpy g far many mem) (g + many) 1 c1 (g + many) (b + 2) z1 l1 [] ((List.range many).map fun i:Nat=>g + (i:Int) + far) d1) 1 (st (cpy g far many mem) (g + many) 1 c1 (g + many) (b + 3) (decide ((g + many - (g + many)) % 4096=0)) (decide (g + (many:Int) < g + many)) [] ((List.range many).map fun i:Nat=>g + (i:Int) + far) (d1 + 1)):=go1 h.1 (by omega) (by omega) (f:=2096) (A2 2 _ rfl) (by decide +kernel) (by decide +kernel) rfl (by omega) rfl
 rw [decide_eq_true (show (g + (many:Int) - (g + many)) % 4096=0 by omega)] at r3
 generalize decide (g + (many:Int) < g + many)=l3 at r3
 have r4:Rn (st (cpy g far many mem) (g + many) 1 c1 (g + many) (b + 3) true l3 [] ((List.range many).map fun i:Nat=>g + (i:Int) + far) (d1 + 1)) 1 (st (cpy g far many mem) (g + many) 1 c1 (g + many) (b + 10) true l3 [] ((List.range many).map fun i:Nat=>g + (i:Int) + far) (d1 + 1 + 1)):=go2 r3.1 (by omega) (by omega) (f:=3072) (A2 3 _ rfl) (by decide +kernel) (by decide +kernel) rfl (n:=b + 10) (by rw [show b + 3 + 1=b + 4 by omega];exact A2 4 _ rfl) (q:=b + 5) (by omega) rfl
 obtain ⟨s1,s2⟩:=halt r4.1 (by omega) (by omega) (A2 10 _ rfl)
 refine ⟨g + many,c1,g + many,true,l3,d1 + 1 + 1,?_⟩
 have:=Rn.stop (m:=900) (((r1.trans h).trans r3).trans r4) s1 s2 (by omega)
 rwa [show 1 + 6 * many + 1 + 1=3 + 6 * many by omega] at this
end
local macro_rules | `(tactic| walk_at "rt")=>`(tactic| repeat' (first | with_reducible exact Ab | with_reducible exact Ai | with_reducible exact Ac | with_reducible refine Aa ?_ ?_ Fw | with_reducible refine AF ?_ ?_ | (rw [sizeLine_eq];decide) | (rw [sizeLine_eq];simp;done)))
def n16:List Str:=["stop","set","move","add","sub","mul","and","xor","cmp","load","store","jump","branch","call","back","out"]
def JM (ds:List PyData) (d:PyData):Prop:=∃(j:Nat) (wd:Str),n16[j]?=some wd∧ds=[.str wd]∧d=.int (j * 256)
theorem JE:∀j:Nat,j < 16→∀m:Nat,m < 16→m < j→n16[m]?≠n16[j]?:=by decide +kernel
theorem LT {f:Addr} {fd:FuncData} (F:Fun K "_law_op" "_law_op" EU f fd) (hm:mg "_law_op"=some (.ref f)):DFn P w K mg base 1 "_law_op" JM:=by
 refine F.data hm (F.binds fun _ _ _ _ _ _ us hl=>match us,hl with | [_],_=>rfl) sc_law_op (fun ds d ⟨_,_,_,e,_⟩=>by rw [e];rfl) fun cdv A outer s H E ds d hr ⟨j,wd,hj,e,e2⟩=>?_
 subst e e2
 have j16:j < 16:=(List.getElem?_eq_some_iff.mp hj).1
 have hz1:((n16.take 14).map PyData.str).length + ((n16.drop 14).map PyData.str).length≤sizeLine:=by rw [sizeLine_eq];exact (by decide:14 + 2≤16777216)
 refine HG (i:=1) (R:=fun z=>z=.list ((n16.take 14).map PyData.str)) ?a1 ?a2 ?a3 ?a4 ?a5 (hs:=?a6) (hf:=?a7)
 case a1=>exact sc_law_op.nd
 case a2=>exact rfl
 case a3=>exact Or.inl rfl
 case a6=>exact rfl
 case a7=>first | exact .inl rfl | exact .inr rfl
 case a4=>
  with_reducible refine OG (d:=.list [.str "stop",.str "set",.str "move",.str "add",.str "sub",.str "mul",.str "and",.str "xor",.str "cmp",.str "load",.str "store",.str "jump",.str "branch",.str "call"]) ?_ ?_
  ·walk_at "rt"
  ·exact rfl
 intro d1 hd1
 subst hd1
 exact Ah (Ap (Ad (JV (ss:=n16) (j:=j) (Av (Ad (da:=.list ((n16.take 14).map PyData.str)) (db:=.list ((n16.drop 14).map PyData.str)) (evv 1) (Av (AF (ds:=[.str "back",.str "out"]) (Aa Ai (Aa Ai Ac)) (by rw [sizeLine_eq];decide)) rfl) (IZ hz1)) rfl) (evv 0) hj (fun m h1 h2=>JE j j16 m (by omega) h1 (h2.trans hj.symm))) Ab (by walk_at "od")))
def wrK (b:Int) (ws:List Int) (m:List Int):Nat→List Int
 | 0=>m
 | k + 1=>(wrK b ws m k).set (b + k).toNat (ws.getD k 0)
theorem CY (b:Int) (ws m:List Int):∀k,(wrK b ws m k).length=m.length
 | 0=>rfl
 | k + 1=>by show ((wrK b ws m k).set _ _).length=_;rw [List.length_set,CY b ws m k]
def s0R (ws m bx:List Int) (b:Int):MS:=⟨P4,wrK b ws m ws.length,bx,b,false,false,[],[],0⟩
def IN (ds:List PyData) (T:MS) (M:List Int) (d:PyData):Prop:=∃(ws m bx:List Int) (b:Int),MsOk (s0R ws m bx b)∧0≤b∧b + ws.length≤m.length∧m.length=64∧ws.length≤60∧ds=[.list (ws.map PyData.int),.int b,.list (m.map PyData.int),.list (bx.map PyData.int)]∧T=(runF 900 (s0R ws m bx b)).2.2∧M=wrK b ws m ws.length∧d=.tuple [.int (runF 900 (s0R ws m bx b)).1,.str (runF 900 (s0R ws m bx b)).2.1]
end
section
variable {P:Program} {w:World} {K:PySem.W.Frag} {mg:Str→Option Value} {base:Heap}
open PySem.Spec PyProof.Rows
theorem gd_Mx {R:OR} {S:MS}:Gd (R.L,Oz K R (lfM S) (dfM S)):=QK fun q hq=>by
 simp only [dfM,List.mem_cons,List.not_mem_nil,or_false] at hq
 rcases hq with rfl | rfl | rfl <;> rfl
def RunE (K:PySem.W.Frag) (C:Addr) (T:MS) (M:List Int) (d:PyData) (t:Addr) (p:Addr) (H':Hp):Prop:=∃x y,Kz K p (M.map PyData.int) H'∧SqT K (lef [p] H') t [x,y,.ref p]∧DV K (lef [p] H') x (mcD C T)∧DV K (lef [p] H') y d
def NO (K:PySem.W.Frag) (C:Addr):Sp:=fun vs H Q _=>∃(ds:List PyData) (T:MS) (M:List Int) (d:PyData),DVs K H vs ds∧IN ds T M d∧∀t p H',RunE K C T M d t p H'→Same H (lef [p] H')→Q (.ref t) H'
def Fl (P:Program) (w:World) (K:PySem.W.Frag) (mg:Str→Option Value) (base:Heap) (k:Nat) (x:Str) (C:Addr):Prop:=
 ∃f fd ps,FnOk P w K mg base CX0 k f fd ps (NO K C)∧mg x=some (.ref f)∧PySem.W.keepIn K (.ref f)=true∧Binds K fd ps []
def tRun (K:PySem.W.Frag) (C:Addr) (G:Gam) (T:MS) (M:List Int) (d:PyData):TS:=fun D σ H=>SD K H σ G∧∀t p H',RunE K C T M d t p H'→Same H (lef [p] H')→D.rt (.ref t) H'
theorem K6 {x qual:Str} {st:Stmt} {f C:Addr} {fd:FuncData} {N ps:List Str} {k:Nat} (F0:Fun K x qual st f fd) (hm:mg x=some (.ref f)) (hb:Binds K fd ps []) (S:FnScope N ps (Ae st)) (len:∀ds T M d,IN ds T M d→ds.length=ps.length)
  (hbody:∀(cdv:Value) (A:Around) (outer:List Env) (s:Shared) (H:Hp) (E:XK) (ds:List PyData) (T:MS) (M:List Int) (d:PyData),Room k (A.deeper (envOfC qual (Ae st) s.heap.objs.size f cdv))→IN ds T M d→
   PSs (cxOf CX0 P w K mg base N qual (Ae st) f cdv A outer s H E).nox (AG st) (tRun K C (AO N ds) T M d)):Fl P w K mg base (k + 1) x C:=
 ⟨f,fd,ps,F0.ok S (fun vs H Q E ⟨ds,T,M,d,h1,h2,_⟩=>h1.length.trans (len ds T M d h2)) (fun cdv A outer s H vs Q E hr ⟨ds,T,M,d,h1,h2,q⟩=>⟨_,hbody cdv A outer s H E ds T M d hr h2,SD.start h1,q⟩),hm,F0.kp,hb⟩
section
variable {X:Cx} {G:Gam} {e:Expr} {sts:List Stmt} {C:Addr} {T:MS} {M:List Int} {d:PyData} {ds:List PyData} {pos p1:Pos} {k i j l:Nat} {f:Str}
theorem NU (h:PSs X sts (zV X.K (LZ []) (TZ []) [] G (fun _ _ _=>False) (fun L' v H'=>∃t p,v=.ref t∧L'=[p]∧RunE X.K C T M d t p H'))):PSs X sts (tRun X.K C G T M d):=
 h.imp fun D σ H ⟨hσ,q⟩=>⟨⟨(fun _ h=>by cases h),⟨List.Pairwise.nil,(fun _ h=>by cases h)⟩,by rw [show LZ []=[] from rfl,Ct];exact hσ⟩,fun _ _ _ f=>f.elim,fun L' v H' ⟨t,p,ev,eL,r⟩ s=>by
   subst ev eL
   rw [show LZ []=[] from rfl,Ct] at s
   exact q t p H' r s⟩
theorem Gx {tg:Expr} {es:List Expr} (D:Fl X.prog X.w X.K X.mg X.base k f C) (hr:Room k X.A) (hg:Gl X f) (ha:AV X G (e::es) ds) (hF:IN ds T M d) (hpg:PG X tg (gTup X.K 3 (Ei [i,j,l]))) (hil:i≠l) (hjl:j≠l) (hG:G[l]?=some none) (hdb:(f==("__debug__":Str))=false:=by decide)
  (he:starEach (e::es) X.env=(false,eval e X.env)::starEach es X.env:=by rfl) (hpl:(backTo pos (starEach es X.env)).any (·.1)=false:=by rfl) {pos2:Pos}
  (hs:swapsWithSole [tg] (.Call (.Name f p1) (e::es) [] pos) pos2.line X.env=pure false:=by rfl) (hw:swappedStores [tg] (.Call (.Name f p1) (e::es) [] pos) X.env=pure none:=by rfl) (h1:(assignEach [tg] X.env).map (·.2)=[assign tg X.env]:=by rfl):
  PS X (.Assign [tg] (.Call (.Name f p1) (e::es) [] pos) pos2) (zV X.K (LZ []) (TZ []) [] G (fun L' σ' H'=>∃p:Addr,True∧L'=LZ [([p],Kz X.K p (M.map PyData.int))]∧RZ X.K (LZ [([p],Kz X.K p (M.map PyData.int))]) (TZ [([p],Kz X.K p (M.map PyData.int))]) [(l,p)] ((G.set i (some (mcD C T))).set j (some d)) σ' H') noRt):=by
 obtain ⟨fa,fd,ps,ok,hm,hk,hb⟩:=D
 refine (Ea (Gs (E:=E0) (dvs:=[]) (ds:=[]) ok hr hg hm hk hb .nil Dw ha hdb he hpl) hpg hs hw h1).imp fun D σ H ⟨r,q,_⟩=>⟨r.sd,fun vs H1 s1 dvs=>?_⟩
 show NO X.K C (vs++[]) H1 _ E0
 rw [List.append_nil]
 refine ⟨ds,T,M,d,dvs,hF,fun t p H' ⟨x,y,kz,sq,dx,dy⟩ s2=>?_⟩
 refine ⟨t,[x,y,.ref p],rfl,lef_same.seqT sq,rfl,x,[y,.ref p],rfl,y,[.ref p],rfl,.ref p,[],rfl,rfl,?_⟩
 have sT:Same H (lef [p] H'):=s1.trans s2
 have eL:LZ [([p],Kz X.K p (M.map PyData.int))]=[p]:=rfl
 have sd:SD X.K (lef [p] H') σ G:=by
  have:=r.2.2
  rw [show LZ []=[] from rfl,Ct] at this
  exact this.mono sT
 refine q _ _ H' ⟨p,trivial,rfl,fun z hz=>?_,tz_one.mpr kz,?_⟩ (by rw [eL,show LZ []=[] from rfl,Ct];exact sT)
 ·rw [List.mem_singleton.mp hz]
  refine List.getElem?_set_self ?_
  rw [List.length_set,List.length_set,sd.1]
  exact (List.getElem?_eq_some_iff.mp hG).1
 ·rw [eL]
  refine J6 ((sd.set dx).set dy) ?_
  rw [List.getElem?_set_ne hjl,List.getElem?_set_ne hil]
  exact hG
theorem JT {R:OR} {p:Addr} {x1 x2:Str} {pos3 pos4 pt:Pos} {kt} (hR:R.C=C) (hi:(i,R.a)∈[(i,R.a),(l,p)]) (hv1:PE X (.Name x1 pos3) (tVar i)) (hv2:PE X (.Name x2 pos4) (tVar l)) (he:EV X G e d) (hn:noL d=true)
  (hs1:starEach [.Name x1 pos3,e,.Name x2 pos4] X.env=(false,eval (.Name x1 pos3) X.env)::starEach [e,.Name x2 pos4] X.env:=by rfl) (hs2:starEach [e,.Name x2 pos4] X.env=(false,eval e X.env)::starEach [.Name x2 pos4] X.env:=by rfl) (hs3:starEach [.Name x2 pos4] X.env=(false,eval (.Name x2 pos4) X.env)::starEach [] X.env:=by rfl):
  PSs X (.Return (some (.Tuple [.Name x1 pos3,e,.Name x2 pos4] kt pt)) pos::sts) (zV X.K (LZ [([p],Kz X.K p (M.map PyData.int)),(R.L,Oz X.K R (lfM T) (dfM T))]) (TZ [([p],Kz X.K p (M.map PyData.int)),(R.L,Oz X.K R (lfM T) (dfM T))]) [(i,R.a),(l,p)] G (fun _ _ _=>False) (fun L' v H'=>∃t p,v=.ref t∧L'=[p]∧RunE X.K C T M d t p H')):=by
 subst hR
 refine (A4 (Ed (Ly (Cn hv1 (Cn he (Cn hv2 pa_nil hs3) hs2) hs1))) (AD (sts:=sts))).imp fun D σ H ⟨r,_,q⟩=>⟨.ref R.a,r.1 _ List.mem_cons_self,r.sd,fun y H1 s1 dy=>⟨.ref p,r.1 _ (.tail _ List.mem_cons_self),by rw [sizeLine_eq];show 3≤16777216;decide,fun t ht=>?_⟩⟩
 have g:Gds [([p],Kz X.K p (M.map PyData.int)),(R.L,Oz X.K R (lfM T) (dfM T))]:=fun z hz=>by
  rcases List.mem_cons.mp hz with rfl | hz
  ·exact gd_K
  ·rw [List.mem_singleton.mp hz];exact gd_Mx
 have r1:=r.step g.ok s1
 have sn:Same H1 (upd H1 t (.tup [.ref R.a,y,.ref p])):=Same.new ht
 have r2:=r1.step g.ok sn
 obtain ⟨dj,kz,oz⟩:=tz_two.mp r2.2.1
 have nt:=kz_ok.notup kz
 have oz':=gd_Mx.ap oz (M:=[p]) dj nt
 have hp:t≠p:=fun e=>by
  subst e
  obtain ⟨us,hl,_⟩:=(tz_two.mp r1.2.1).2.1
  rw [ht] at hl
  cases hl
 refine q [p] _ _ ⟨t,p,rfl,rfl,.ref R.a,y,kz,SqT.of (by rw [Ay (by simpa using hp)];exact Am),oz'.dv,DV.lef nt (dy.mono sn) hn⟩ ((s1.lef.trans sn.lef).trans (Mn fun b hb=>?_))
 rw [List.mem_singleton.mp hb]
 exact mem_LZ.mpr ⟨_,List.mem_cons_self,List.mem_cons_self⟩
end
end
section
variable {P:Program} {w:World} {K:PySem.W.Frag} {mg:Str→Option Value} {base:Heap}
theorem Qc {X:Cx} {G:Gam} {p1 p2 p3 p4 p5 p6 p7:Pos} {a b c k kt}:EV X G (.BinOp (.List [.Tuple [.Constant (.bool true) a p1,.Constant (.bool true) b p2,.Constant (.bool true) c p3] kt p4] p5) .Mult (.Constant (.int 4) k p6) p7) (.list (P4.map By)):=
 Av (Dr (GK (AF (Aa (AR (Aa FZ (Aa FZ (Aa FZ Ac))) (by rw [sizeLine_eq];decide)) Ac) (by rw [sizeLine_eq];decide)) Ab (by decide) (by decide) (by rw [sizeLine_eq];decide))) rfl
theorem JK (T:Txt mg) {C:Addr} (CM:ClsM K mg C) (hM:mg "Machine"=some (.ref C)) (D0:OIFn P w K mg base 5 C Qi) (D_steps:OFn P w K mg base 7 C "steps" NN) {f:Addr} {fd:FuncData} (F:Fun K "_law_run" "_law_run" DZ f fd) (hm:mg "_law_run"=some (.ref f)):Fl P w K mg base 8 "_law_run" C:=by
 refine K6 F hm (F.binds fun _ _ _ _ _ _ us hl=>match us,hl with | [_,_,_,_],_=>rfl) sc_law_run (fun ds T M d ⟨_,_,_,_,_,_,_,_,_,e,_⟩=>by rw [e];rfl) fun cdv A outer s H E ds T' M d hr ⟨ws,m,bx,b,ok,hb,hbl,hml,hwl,e1,e2,e3,e4⟩=>?_
 subst e1 e2 e3 e4
 refine NU ?_
 refine ES (β:=Addr) (Lo:=fun p=>LZ [([p],Kz K p (m.map PyData.int))]) (Io:=fun p=>TZ [([p],Kz K p (m.map PyData.int))]) (ro:=fun p=>[(4,p)]) (Go:=fun _=>AO ["words","base","cells","boxes","memory","k","machine","found"] [.list (ws.map PyData.int),.int b,.list (m.map PyData.int),.list (bx.map PyData.int)]) (fun _=>True) (Hs (A:=[]) (B:=[]) (j:=4) (its:=fun p:Addr=>[([p],Kz K p (m.map PyData.int))]) (ad:=id) (fun _ h=>by cases h) sc_law_run.nd rfl (by decide) (Or.inl rfl) rfl (LL (Qa A_ (Bh (evv 2) rfl T.b_list) (C7 _)))) fun p _=>?_
 refine FR (β:=Nat) (Lo:=fun k=>LZ [([p],Kz K p ((wrK b ws m k).map PyData.int))]) (Io:=fun k=>TZ [([p],Kz K p ((wrK b ws m k).map PyData.int))]) (Go:=fun _=>AO ["words","base","cells","boxes","memory","k","machine","found"] [.list (ws.map PyData.int),.int b,.list (m.map PyData.int),.list (bx.map PyData.int)]) (n:=ws.length) (j:=5) (fun k y=>y=k) 0 (fun _=>Gds.ok fun z hz=>by rw [List.mem_singleton.mp hz];exact gd_K) PassesOwn.never rfl ?rsn (Au (i:=5) sc_law_run.nd rfl (Or.inl rfl)) A_ ?len (by omega) rfl T.b_range rfl ?body ?done
 case rsn=>
  intro q hq
  rw [List.mem_singleton.mp hq]
  exact (by decide:(4:Nat)≠5)
 case len=>exact Av (Aw "len" (Aa (evv 0) Ac) (by walk_at "cd") rfl T.b_len (by decide +kernel)) (by rw [List.length_map])
 case body=>
  intro k y hk hy
  replace hy:y=k:=hy
  subst y
  refine Ku ((Gu (A1:=[]) (B1:=[]) (d:=.int (ws.getD k 0)) (z:=b + k) (i:=4) rfl (fun z hz=>by rw [List.mem_singleton.mp hz];exact OE) List.mem_cons_self (pv 4) (BW (Gds.ok fun z hz=>by rw [List.mem_singleton.mp hz];exact gd_K) (AC (evv 0) (evv 5) (by have:=BA (zs:=ws) (i:=(k:Int)) (by omega) (by omega);rwa [Int.toNat_natCast] at this)) rfl) rfl (Ad (evv 1) (evv 5) Co) (by omega) (by rw [List.length_map,CY];omega)).imp fun D σ H ⟨r,q,_⟩=>⟨r,fun σ' H' r' s'=>q _ σ' H' ⟨k + 1,rfl,rfl,r'.1,?_,FJ r'.2.2 rfl⟩ s'⟩)
  have:=r'.2.1
  rw [←List.map_set] at this
  exact this
 case done=>
  rintro y rfl
  have eM:(s0R ws m bx b).mem=wrK b ws m ws.length:=rfl
  refine ES (β:=OR) (Lo:=fun R=>LZ [([p],Kz K p ((wrK b ws m ws.length).map PyData.int)),(R.L,Oz K R (lfM (s0R ws m bx b)) (dfM (s0R ws m bx b)))]) (Io:=fun R=>TZ [([p],Kz K p ((wrK b ws m ws.length).map PyData.int)),(R.L,Oz K R (lfM (s0R ws m bx b)) (dfM (s0R ws m bx b)))]) (ro:=fun R=>[(6,R.a),(4,p)]) (Go:=fun _=>AO ["words","base","cells","boxes","memory","k","machine","found"] [.list (ws.map PyData.int),.int b,.list (m.map PyData.int),.list (bx.map PyData.int)]) (fun R=>R.C=C) (Hs (A:=[([p],Kz K p ((wrK b ws m ws.length).map PyData.int))]) (B:=[]) (j:=6) (its:=fun R:OR=>[(R.L,Oz K R (lfM (s0R ws m bx b)) (dfM (s0R ws m bx b)))]) (ad:=fun R=>R.a) (fun z hz=>by rw [List.mem_singleton.mp hz];exact OE) sc_law_run.nd rfl (by show 6∉[4];decide) (Or.inl rfl) rfl (LL (IC (CC (i:=4) List.mem_cons_self (fun H t=>Kz.dv (tz_one.mp t))) D0 (by walk_at "rm") rfl hM (Aa Qc (Aa (evv 4) (Aa (evv 3) (Aa (evv 1) Ac)))) ⟨s0R ws m bx b,ok,rfl,rfl,rfl,rfl,rfl,rfl,rfl,rfl⟩))) fun R hR=>?_
  have gg:∀S:MS,Gds ([([p],Kz K p ((wrK b ws m ws.length).map PyData.int))]++(R.L,Oz K R (lfM S) (dfM S))::[]):=fun S z hz=>by
   rcases List.mem_cons.mp hz with rfl | hz
   ·exact gd_K
   ·rw [List.mem_singleton.mp hz];exact gd_Mx
  subst hR
  refine J0 (Cp (i:=7) (d:=.tuple [.int (runF 900 (s0R ws m bx b)).1,.str (runF 900 (s0R ws m bx b)).2.1]) sc_law_run.nd rfl (by show 7∉[6,4];decide) (Or.inl rfl) (MW (A:=[([p],Kz K p ((wrK b ws m ws.length).map PyData.int))]) (B:=[]) (ds:=[.int 900]) (i:=6) rfl (gg _) CM.cl D_steps (by walk_at "rm") List.mem_cons_self (pv 6) A_ (Aa Ab Ac) rfl ⟨s0R ws m bx b,900,ok,by show (0:Nat) + 900 < 100000;decide,by show (0:Nat) + 900 < 100000;decide,rfl,rfl,rfl,rfl,rfl,rfl⟩ rfl)) ?_
  exact JT rfl List.mem_cons_self (pv 6) (pv 4) (evv 7) rfl
theorem KW {b:Int} {ws m:List Int} (hb:0≤b) (hl:b + ws.length≤m.length):∀k,k≤ws.length→∀j:Nat,j < k→Ao (wrK b ws m k) (b + (j:Int))=ws.getD j 0
 | 0,_,j,h=>absurd h (Nat.not_lt_zero j)
 | k + 1,hk,j,hj=>by
   show Ao ((wrK b ws m k).set (b + k).toNat _) (b + j)=_
   rw [DO (by omega) (by rw [CY];omega) (by omega)]
   by_cases e:j=k
   ·subst e
    rw [if_pos rfl]
   ·rw [if_neg (by omega)]
    exact KW hb hl k (by omega) j (by omega)
theorem GW {b:Int} {ws m:List Int} (hb:0≤b) (hl:b + ws.length≤m.length):At (wrK b ws m ws.length) b ws:=fun j v h=>by
 rw [KW hb hl ws.length (Nat.le_refl _) j (List.getElem?_eq_some_iff.mp h).1,List.getD_eq_getElem?_getD,h]
 rfl
theorem N1 {b:Int} {ws m:List Int} (hm:∀z∈m,0≤z∧z < 4096) (hw:∀z∈ws,0≤z∧z < 4096):∀k,∀z∈wrK b ws m k,0≤z∧z < 4096
 | 0,z,h=>hm z h
 | k + 1,z,h=>by
   have h:z∈(wrK b ws m k).set (b + k).toNat (ws.getD k 0):=h
   rcases List.mem_or_eq_of_mem_set h with h | rfl
   ·exact N1 hm hw k z h
   ·rw [List.getD_eq_getElem?_getD]
    cases e:ws[k]? with
    | none=>exact (by decide:(0:Int)≤0∧(0:Int) < 4096)
    | some v=>exact hw v (List.mem_of_getElem? e)
theorem G6 {ws m bx:List Int} {b:Int} (hl:m.length=64) (hm:∀z∈m,0≤z∧z < 4096) (hw:∀z∈ws,0≤z∧z < 4096) (h4:bx.length=4) (hx:∀z∈bx,0≤z∧z < 4096) (hb:0≤b∧b < 4096):MsOk (s0R ws m bx b):=
 ⟨by show 1≤4;decide,by show 4≤8;decide,by show (wrK b ws m ws.length).length=16 * 4;rw [CY,hl],N1 hm hw _,h4,hx,hb⟩
theorem KA:∀z∈List.replicate 64 (0:Int),0≤z∧z < 4096:=fun z h=>by
 rw [(List.mem_replicate.mp h).2]
 decide
theorem lay_ints (l:List Int):(PyData.list (l.map PyData.int)).canLay0=true:=Db l fun _ _=>rfl
theorem Hk (l:List Int):(PyData.list (l.map PyData.int)).depth≤2:=by
 have:∀l:List Int,PyData.depthAll (l.map PyData.int)≤1:=fun l=>by
  induction l with
  | nil=>exact (by decide:PyData.depthAll []≤1)
  | cons a l ih=>
    show PyData.depthAll (PyData.int a::l.map PyData.int)≤1
    rw [PyData.depthAll]
    exact Nat.max_le.mpr ⟨by rw [PyData.depth];decide,ih⟩
 rw [PyData.depth]
 have:=this l
 omega
section
variable {X:Cx} {G:Gam} {u:Pos} {p1 p2 pos:Pos}
theorem Fd {l l':List Int} (hu:X.A.units + 64 < cLine) (h:l=l'):OD X (compareOp .Eq) (.list (l.map PyData.int)) (.list (l'.map PyData.int)) (.bool true):=by
 subst h
 exact Cy hu (lay_ints _) (lay_ints _) (by have:=Hk l;omega) (CN _ (lay_ints _))
theorem DR {l l':List Int} (hu:X.A.units + 64 < cLine) (h:l=l'):OD X (compareOp .NotEq) (.list (l.map PyData.int)) (.list (l'.map PyData.int)) (.bool false):=by
 subst h
 exact C_ hu (lay_ints _) (lay_ints _) (by have:=Hk l;omega) (by rw [CN _ (lay_ints _)];rfl)
end
local macro_rules | `(tactic| walk_at "fn")=>`(tactic| first | exact ⟨1,"set",rfl,rfl,rfl⟩ | exact ⟨3,"add",rfl,rfl,rfl⟩ | exact ⟨4,"sub",rfl,rfl,rfl⟩ | exact ⟨8,"cmp",rfl,rfl,rfl⟩ | exact ⟨9,"load",rfl,rfl,rfl⟩ | exact ⟨10,"store",rfl,rfl,rfl⟩ | exact ⟨11,"jump",rfl,rfl,rfl⟩ | exact ⟨12,"branch",rfl,rfl,rfl⟩ | exact ⟨13,"call",rfl,rfl,rfl⟩ | exact ⟨14,"back",rfl,rfl,rfl⟩ | exact ⟨15,"out",rfl,rfl,rfl⟩)
theorem IM {X:Cx} {G:Gam} {a b} {p1 p2 p3 p4:Pos}:EV X G (.BinOp (.List [.Constant (.int 0) a p1] p2) .Mult (.Constant (.int 64) b p3) p4) (.list ((List.replicate 64 (0:Int)).map PyData.int)):=
 Av (Dr (GK (AF (Aa Ab Ac) (by rw [sizeLine_eq];decide)) Ab (by decide) (by decide) (by rw [sizeLine_eq];decide))) rfl
theorem GP (n:Int):(PyData.tuple [.int n,.str "stop"]).canLay0=true:=by
 first
 | decide +kernel
 | (simp [PyData.canLay0,PyData.canLayAll0];done)
 | (rw [PyData.canLay0,PyData.canLayAll0,PyData.canLayAll0,PyData.canLay0,PyData.canLay0];decide +kernel)
theorem GA {X:Cx} {a b:Int} (hu:X.A.units + 64 < cLine) (h:a=b):OD X (compareOp .Eq) (.tuple [.int a,.str "stop"]) (.tuple [.int b,.str "stop"]) (.bool true):=by
 subst h
 exact Cy hu (GP _) (GP _) (by walk_at "dp") (CN _ (GP _))
def NG (ds:List PyData) (d:PyData):Prop:=∃one t b:Int,(0≤one∧one < 4096)∧(0≤t∧t < 200)∧(0≤b∧b < 50)∧ds=[.int one,.int t,.int b]∧d=.bool true
theorem Fx (T:Txt mg) {C:Addr} (CM:ClsM K mg C) (D_law_op:DFn P w K mg base 1 "_law_op" JM) (D_run:Fl P w K mg base 8 "_law_run" C) (M_cells:MFn P w K mg base 1 C "cells" (fun ds d=>∃S:MS,ds=[mcD C S]∧d=.list (S.mem.map PyData.int))) (M_stored:MFn P w K mg base 1 C "stored" (Jc C)) (M_told:MFn P w K mg base 1 C "told" (fun ds d=>∃S:MS,ds=[mcD C S]∧d=.list (S.told.map PyData.int))) {f:Addr} {fd:FuncData} (F:Fun K "_law_product" "_law_product" Cc f fd) (hm:mg "_law_product"=some (.ref f)):DFn P w K mg base 9 "_law_product" NG:=by
 refine F.data hm (F.binds fun _ _ _ _ _ _ us hl=>match us,hl with | [_,_,_],_=>rfl) sc_law_product (fun ds d ⟨_,_,_,_,_,_,e,_⟩=>by rw [e];rfl) fun cdv A outer s H E ds d hr ⟨one,t,b,h1,ht,hb,e,e2⟩=>?_
 subst e e2
 refine Ag (AQ (i:=3) sc_law_product.nd rfl (Or.inl rfl) (Av (d':=.list (([256,0,320,1,384,one,1232]:List Int).map PyData.int)) (AF (Aa (Af D_law_op (by walk_at "rm") rfl (Aa Ai Ac) (by walk_at "fn")) (Aa Ab (Aa (Ad (Af D_law_op (by walk_at "rm") rfl (Aa Ai Ac) (by walk_at "fn")) Ab (by walk_at "od")) (Aa Ab (Aa (Ad (Af D_law_op (by walk_at "rm") rfl (Aa Ai Ac) (by walk_at "fn")) Ab (by walk_at "od")) (Aa (evv 0) (Aa (Ad (Ad (Af D_law_op (by walk_at "rm") rfl (Aa Ai Ac) (by walk_at "fn")) (Ad Ab Ab (by walk_at "od")) (by walk_at "od")) Ab (by walk_at "od")) Ac))))))) (by walk_at "sz")) rfl)) ?_
 refine Ag (AQ (i:=3) sc_law_product.nd rfl (Or.inl rfl) (Av (d':=.list (([256,0,320,1,384,one,1232,3074,b + 12,800,2816,b + 6]:List Int).map PyData.int)) (Ad (evv 3) (AF (Aa (Ad (Af D_law_op (by walk_at "rm") rfl (Aa Ai Ac) (by walk_at "fn")) Ab (by walk_at "od")) (Aa (Ad (evv 2) Ab (by walk_at "od")) (Aa (Ad (Af D_law_op (by walk_at "rm") rfl (Aa Ai Ac) (by walk_at "fn")) (Ad Ab Ab (by walk_at "od")) (by walk_at "od")) (Aa (Af D_law_op (by walk_at "rm") rfl (Aa Ai Ac) (by walk_at "fn")) (Aa (Ad (evv 2) Ab (by walk_at "od")) Ac))))) (by walk_at "sz")) (by walk_at "od")) rfl)) ?_
 refine Ag (AQ (i:=3) sc_law_product.nd rfl (Or.inl rfl) (Av (d':=.list ((w1 one b).map PyData.int)) (Ad (evv 3) (AF (Aa (Af D_law_op (by walk_at "rm") rfl (Aa Ai Ac) (by walk_at "fn")) (Aa Ab Ac)) (by walk_at "sz")) (by walk_at "od")) rfl)) ?_
 have hw:∀z∈w1 one b,0≤z∧z < 4096:=fun z hz=>by
  simp only [w1,List.mem_cons,List.not_mem_nil,or_false] at hz
  omega
 have hx:∀z∈[9,9,9,t],0≤z∧z < 4096:=fun z hz=>by
  simp only [List.mem_cons,List.not_mem_nil,or_false] at hz
  omega
 have hlw:b + ((w1 one b).length:Int)≤((List.replicate 64 (0:Int)).length:Int):=by
  show b + 14≤64
  omega
 have ok:MsOk (s0R (w1 one b) (List.replicate 64 0) [9,9,9,t] b):=G6 rfl KA hw rfl hx (by omega)
 obtain ⟨x,z',l',d',er⟩:=OQ hb ht (GW hb.1 hlw) ok
 have er:runF 900 (s0R (w1 one b) (List.replicate 64 0) [9,9,9,t] b)=_:=er
 refine Gk (β:=Addr) (Lo':=fun p=>LZ [([p],Kz K p ((wrK b (w1 one b) (List.replicate 64 0) (w1 one b).length).map PyData.int))]) (Io':=fun p=>TZ [([p],Kz K p ((wrK b (w1 one b) (List.replicate 64 0) (w1 one b).length).map PyData.int))]) (ro:=fun p=>[(6,p)]) (fun _=>True) (Gx (i:=4) (j:=5) (l:=6) D_run (by walk_at "rm") (by rfl) (Aa (evv 3) (Aa (evv 2) (Aa IM (Aa (Av (AF (Aa Ab (Aa Ab (Aa Ab (Aa (evv 1) Ac)))) (by walk_at "sz")) rfl) Ac)))) ⟨w1 one b,List.replicate 64 0,[9,9,9,t],b,ok,hb.1,hlw,rfl,by show 14≤60;decide,rfl,rfl,rfl,rfl⟩ (B_ rfl (A5 (Au (i:=4) sc_law_product.nd rfl (by first | exact Or.inl rfl | exact Or.inr rfl)) (A5 (Au (i:=5) sc_law_product.nd rfl (by first | exact Or.inl rfl | exact Or.inr rfl)) (A5 (Au (i:=6) sc_law_product.nd rfl (by first | exact Or.inl rfl | exact Or.inr rfl)) Bw)))) (by decide) (by decide) rfl) fun p _=>?_
 rw [er]
 have gok:ZOk (LZ [([p],Kz K p ((wrK b (w1 one b) (List.replicate 64 0) (w1 one b).length).map PyData.int))]) (TZ [([p],Kz K p ((wrK b (w1 one b) (List.replicate 64 0) (w1 one b).length).map PyData.int))]):=Gds.ok fun z hz=>by rw [List.mem_singleton.mp hz];exact gd_K
 refine GH (Gr (GV gok (CC (i:=6) List.mem_cons_self (fun H t=>Kz.dv (tz_one.mp t))) (B3 (DK (k:=false) (An (AM CM.cl M_cells (by walk_at "rm") (evv 4) ⟨_,rfl,rfl⟩) (evv 6) (DR (by walk_at "un") rfl) (Ak _)) (fun _=>C8 (An (AM CM.cl M_stored (by walk_at "rm") (evv 4) ⟨_,rfl,rfl⟩) (Av (d':=.list (([]:List Int).map PyData.int)) (AF Ac (by walk_at "sz")) rfl) (DR (by walk_at "un") rfl) (Ak _))))))) ?_
 refine E8 gok A_ (B5 (k:=true) (Bf (AM CM.cl M_told (by walk_at "rm") (evv 4) ⟨_,rfl,rfl⟩) (Av (d':=.list (([one * t % 4096]:List Int).map PyData.int)) (AF (Aa (Ad (Ad (evv 0) (evv 1) (ER (.inl ⟨by omega,by omega⟩))) Ab (Be (by decide))) Ac) (by rw [sizeLine_eq];exact (by decide:1≤16777216))) rfl) (Fd (by walk_at "un") rfl) (Ak _)) (fun _=>C3 ?_) (fun z=>by cases z))
 exact Bf (evv 5) (AR (Aa (Ad Ab (Ad Ab (evv 1) (ER (.inl ⟨by omega,by omega⟩))) Co) (Aa Ai Ac)) (by rw [sizeLine_eq];exact (by decide:2≤16777216))) (GA (by walk_at "un") (by omega)) (Ak _)
end
section
variable {P:Program} {w:World} {K:PySem.W.Frag} {mg:Str→Option Value} {base:Heap}
local macro_rules | `(tactic| walk_at "fn")=>`(tactic| first | exact ⟨1,"set",rfl,rfl,rfl⟩ | exact ⟨3,"add",rfl,rfl,rfl⟩ | exact ⟨4,"sub",rfl,rfl,rfl⟩ | exact ⟨8,"cmp",rfl,rfl,rfl⟩ | exact ⟨9,"load",rfl,rfl,rfl⟩ | exact ⟨10,"store",rfl,rfl,rfl⟩ | exact ⟨11,"jump",rfl,rfl,rfl⟩ | exact ⟨12,"branch",rfl,rfl,rfl⟩ | exact ⟨13,"call",rfl,rfl,rfl⟩ | exact ⟨14,"back",rfl,rfl,rfl⟩ | exact ⟨15,"out",rfl,rfl,rfl⟩)
theorem P0 {X:Cx} {a b:Int} (hu:X.A.units + 64 < cLine) (h:a=b):OD X (compareOp .NotEq) (.int a) (.int b) (.bool false):=by
 subst h
 exact C_ hu rfl rfl (by walk_at "dp") (by rw [CN _ rfl];rfl)
theorem L7 (n:Nat) (z:Int):(List.replicate n [PyData.int z]).flatten=(List.replicate n z).map PyData.int:=by
 induction n with
 | zero=>rfl
 | succ n ih=>rw [List.replicate_succ,List.flatten_cons,ih];rfl
abbrev M0 (ws:List Int) (b:Int) (m:List Int):List Int:=wrK b ws m ws.length
abbrev zM (K:PySem.W.Frag) (m:List Int) (p:Addr):List Zt:=[([p],Kz K p (m.map PyData.int))]
theorem J1 {m:List Int} {p:Addr}:ZOk (LZ (zM K m p)) (TZ (zM K m p)):=Gds.ok fun z hz=>by rw [List.mem_singleton.mp hz];exact gd_K
theorem N4 {m:List Int} {p:Addr}:Ges (zM K m p):=fun z hz=>by rw [List.mem_singleton.mp hz];exact OE
def NQ (ds:List PyData) (d:PyData):Prop:=∃word more b:Int,(0≤word∧word < 4096)∧(0≤more∧more < 4096)∧(0≤b∧b < 50)∧ds=[.int word,.int more,.int b]∧d=.bool true
theorem GS (T:Txt mg) {C:Addr} (CM:ClsM K mg C) (D_law_op:DFn P w K mg base 1 "_law_op" JM) (D_run:Fl P w K mg base 8 "_law_run" C) (M_boxes:MFn P w K mg base 1 C "boxes" (fun ds d=>∃S:MS,ds=[mcD C S]∧d=.list (S.bx.map PyData.int))) (M_place:MFn P w K mg base 1 C "place" (fun ds d=>∃S:MS,ds=[mcD C S]∧d=.int S.here)) (M_told:MFn P w K mg base 1 C "told" (fun ds d=>∃S:MS,ds=[mcD C S]∧d=.list (S.told.map PyData.int))) {f:Addr} {fd:FuncData} (F:Fun K "_law_called" "_law_called" Cm f fd) (hm:mg "_law_called"=some (.ref f)):DFn P w K mg base 9 "_law_called" NQ:=by
 refine F.data hm (F.binds fun _ _ _ _ _ _ us hl=>match us,hl with | [_,_,_],_=>rfl) sc_law_called (fun ds d ⟨_,_,_,_,_,_,e,_⟩=>by rw [e];rfl) fun cdv A outer s H E ds d hr ⟨word,more,b,h1,ht,hb,e,e2⟩=>?_
 subst e e2
 refine Ag (AQ (i:=3) sc_law_called.nd rfl (Or.inl rfl) (Av (d':=.list (([256,word,3520,b + 8,3520,b + 8]:List Int).map PyData.int)) (AF (Aa (Af D_law_op (by walk_at "rm") rfl (Aa Ai Ac) (by walk_at "fn")) (Aa (evv 0) (Aa (Ad (Af D_law_op (by walk_at "rm") rfl (Aa Ai Ac) (by walk_at "fn")) (Ad Ab Ab (by walk_at "od")) (by walk_at "od")) (Aa (Ad (evv 2) Ab (by walk_at "od")) (Aa (Ad (Af D_law_op (by walk_at "rm") rfl (Aa Ai Ac) (by walk_at "fn")) (Ad Ab Ab (by walk_at "od")) (by walk_at "od")) (Aa (Ad (evv 2) Ab (by walk_at "od")) Ac)))))) (by walk_at "sz")) rfl)) ?_
 refine Ag (AQ (i:=3) sc_law_called.nd rfl (Or.inl rfl) (Av (d':=.list ((w4 word b).map PyData.int)) (Ad (evv 3) (AF (Aa (Af D_law_op (by walk_at "rm") rfl (Aa Ai Ac) (by walk_at "fn")) (Aa Ab (Aa (Ad (Af D_law_op (by walk_at "rm") rfl (Aa Ai Ac) (by walk_at "fn")) Ab (by walk_at "od")) (Aa (Ad (Af D_law_op (by walk_at "rm") rfl (Aa Ai Ac) (by walk_at "fn")) (Ad Ab Ab (by walk_at "od")) (by walk_at "od")) Ac)))) (by walk_at "sz")) (by walk_at "od")) rfl)) ?_
 have hw:∀z∈w4 word b,0≤z∧z < 4096:=fun z hz=>by
  simp only [w4,List.mem_cons,List.not_mem_nil,or_false] at hz
  omega
 have hx:∀z∈[9,more,9,9],0≤z∧z < 4096:=fun z hz=>by
  simp only [List.mem_cons,List.not_mem_nil,or_false] at hz
  omega
 have hlw:b + ((w4 word b).length:Int)≤((List.replicate 64 (0:Int)).length:Int):=by
  show b + 10≤64
  omega
 have ok:MsOk (s0R (w4 word b) (List.replicate 64 0) [9,more,9,9] b):=G6 rfl KA hw rfl hx (by omega)
 obtain ⟨z',l',d',er⟩:=OM hb (GW hb.1 hlw) ok
 have er:runF 900 (s0R (w4 word b) (List.replicate 64 0) [9,more,9,9] b)=_:=er
 refine Gk (β:=Addr) (Lo':=fun p=>LZ (zM K (M0 (w4 word b) b (List.replicate 64 0)) p)) (Io':=fun p=>TZ (zM K (M0 (w4 word b) b (List.replicate 64 0)) p)) (ro:=fun p=>[(6,p)]) (fun _=>True) (Gx (i:=4) (j:=5) (l:=6) D_run (by walk_at "rm") (by rfl) (Aa (evv 3) (Aa (evv 2) (Aa IM (Aa (Av (AF (Aa Ab (Aa (evv 1) (Aa Ab (Aa Ab Ac)))) (by walk_at "sz")) rfl) Ac)))) ⟨w4 word b,List.replicate 64 0,[9,more,9,9],b,ok,hb.1,hlw,rfl,by show 10≤60;decide,rfl,rfl,rfl,rfl⟩ (B_ rfl (A5 (Au (i:=4) sc_law_called.nd rfl (by first | exact Or.inl rfl | exact Or.inr rfl)) (A5 (Au (i:=5) sc_law_called.nd rfl (by first | exact Or.inl rfl | exact Or.inr rfl)) (A5 (Au (i:=6) sc_law_called.nd rfl (by first | exact Or.inl rfl | exact Or.inr rfl)) Bw)))) (by decide) (by decide) rfl) fun p _=>?_
 rw [er]
 refine GH (Gr (GV J1 A_ (B3 (DK (k:=false) (An (AM CM.cl M_boxes (by walk_at "rm") (evv 4) ⟨_,rfl,rfl⟩) (Av (d':=.list (([(word + 2 * more) % 4096,more,9,b + 6]:List Int).map PyData.int)) (AF (Aa (Ad (Ad (evv 0) (Ad Ab (evv 1) (by walk_at "od")) (by walk_at "od")) Ab (by walk_at "od")) (Aa (evv 1) (Aa Ab (Aa (Ad (evv 2) Ab (by walk_at "od")) Ac)))) (by walk_at "sz")) rfl) (DR (by walk_at "un") rfl) (Ak _)) (fun _=>C8 (An (AM CM.cl M_place (by walk_at "rm") (evv 4) ⟨_,rfl,rfl⟩) (Ad (evv 2) Ab (by walk_at "od")) (P0 (by walk_at "un") rfl) (Ak _))))))) ?_
 refine E8 J1 A_ (B5 (k:=true) (Bf (AM CM.cl M_told (by walk_at "rm") (evv 4) ⟨_,rfl,rfl⟩) (Av (d':=.list (([(word + 2 * more) % 4096]:List Int).map PyData.int)) (AF (Aa (Ad (Ad (evv 0) (Ad Ab (evv 1) (by walk_at "od")) (by walk_at "od")) Ab (by walk_at "od")) Ac) (by walk_at "sz")) rfl) (Fd (by walk_at "un") rfl) (Ak _)) (fun _=>C3 ?_) (fun z=>by cases z))
 exact Bf (evv 5) (AR (Aa Ab (Aa Ai Ac)) (by walk_at "sz")) (GA (by walk_at "un") rfl) (Ak _)
end
section
variable {P:Program} {w:World} {K:PySem.W.Frag} {mg:Str→Option Value} {base:Heap}
local macro_rules | `(tactic| walk_at "fn")=>`(tactic| first | exact ⟨1,"set",rfl,rfl,rfl⟩ | exact ⟨3,"add",rfl,rfl,rfl⟩ | exact ⟨4,"sub",rfl,rfl,rfl⟩ | exact ⟨8,"cmp",rfl,rfl,rfl⟩ | exact ⟨9,"load",rfl,rfl,rfl⟩ | exact ⟨10,"store",rfl,rfl,rfl⟩ | exact ⟨11,"jump",rfl,rfl,rfl⟩ | exact ⟨12,"branch",rfl,rfl,rfl⟩ | exact ⟨13,"call",rfl,rfl,rfl⟩ | exact ⟨14,"back",rfl,rfl,rfl⟩ | exact ⟨15,"out",rfl,rfl,rfl⟩)
theorem Ee {m:List Int} {p:Addr}:ZOk [p] (TZ (zM K m p)):=J1
def NS (ds:List PyData) (d:PyData):Prop:=∃first many b:Int,(0≤first∧first < 4096)∧(1≤many∧many≤60)∧(0≤b∧b < 50)∧ds=[.int first,.int many,.int b]∧d=.bool true
theorem Ft (T:Txt mg) {C:Addr} (CM:ClsM K mg C) (D_law_op:DFn P w K mg base 1 "_law_op" JM) (D_run:Fl P w K mg base 8 "_law_run" C) (M_cells:MFn P w K mg base 1 C "cells" (fun ds d=>∃S:MS,ds=[mcD C S]∧d=.list (S.mem.map PyData.int))) (M_stored:MFn P w K mg base 1 C "stored" (Jc C)) (M_told:MFn P w K mg base 1 C "told" (fun ds d=>∃S:MS,ds=[mcD C S]∧d=.list (S.told.map PyData.int))) {f:Addr} {fd:FuncData} (F:Fun K "_law_counted" "_law_counted" Cb f fd) (hm:mg "_law_counted"=some (.ref f)):DFn P w K mg base 9 "_law_counted" NS:=by
 refine F.data hm (F.binds fun _ _ _ _ _ _ us hl=>match us,hl with | [_,_,_],_=>rfl) sc_law_counted (fun ds d ⟨_,_,_,_,_,_,e,_⟩=>by rw [e];rfl) fun cdv A outer s H E ds d hr ⟨first,many,b,h1,ht,hb,e,e2⟩=>?_
 subst e e2
 refine Ag (AQ (i:=3) sc_law_counted.nd rfl (Or.inl rfl) (Av (d':=.list (([320,1,448,b + 5,256,first,3840]:List Int).map PyData.int)) (AF (Aa (Ad (Af D_law_op (by walk_at "rm") rfl (Aa Ai Ac) (by walk_at "fn")) Ab (by walk_at "od")) (Aa Ab (Aa (Ad (Af D_law_op (by walk_at "rm") rfl (Aa Ai Ac) (by walk_at "fn")) (Ad Ab Ab (by walk_at "od")) (by walk_at "od")) (Aa (Ad (evv 2) Ab (by walk_at "od")) (Aa (Af D_law_op (by walk_at "rm") rfl (Aa Ai Ac) (by walk_at "fn")) (Aa (evv 0) (Aa (Af D_law_op (by walk_at "rm") rfl (Aa Ai Ac) (by walk_at "fn")) Ac))))))) (by walk_at "sz")) rfl)) ?_
 refine Ag (AQ (i:=3) sc_law_counted.nd rfl (Or.inl rfl) (Av (d':=.list (([320,1,448,b + 5,256,first,3840,784,2608,1168]:List Int).map PyData.int)) (Ad (evv 3) (AF (Aa (Ad (Af D_law_op (by walk_at "rm") rfl (Aa Ai Ac) (by walk_at "fn")) Ab (by walk_at "od")) (Aa (Ad (Af D_law_op (by walk_at "rm") rfl (Aa Ai Ac) (by walk_at "fn")) (Ad Ab Ab (by walk_at "od")) (by walk_at "od")) (Aa (Ad (Ad (Af D_law_op (by walk_at "rm") rfl (Aa Ai Ac) (by walk_at "fn")) (Ad Ab Ab (by walk_at "od")) (by walk_at "od")) Ab (by walk_at "od")) Ac))) (by walk_at "sz")) (by walk_at "od")) rfl)) ?_
 refine Ag (AQ (i:=3) sc_law_counted.nd rfl (Or.inl rfl) (Av (d':=.list ((w3 first b).map PyData.int)) (Ad (evv 3) (AF (Aa (Ad (Af D_law_op (by walk_at "rm") rfl (Aa Ai Ac) (by walk_at "fn")) Ab (by walk_at "od")) (Aa (Ad (evv 2) Ab (by walk_at "od")) (Aa Ab Ac))) (by walk_at "sz")) (by walk_at "od")) rfl)) ?_
 have hw:∀z∈w3 first b,0≤z∧z < 4096:=fun z hz=>by
  simp only [w3,List.mem_cons,List.not_mem_nil,or_false] at hz
  omega
 have hx:∀z∈[9,9,many,9],0≤z∧z < 4096:=fun z hz=>by
  simp only [List.mem_cons,List.not_mem_nil,or_false] at hz
  omega
 have hlw:b + ((w3 first b).length:Int)≤((List.replicate 64 (0:Int)).length:Int):=by
  show b + 13≤64
  omega
 have hl64:(M0 (w3 first b) b (List.replicate 64 0)).length=64:=CY _ _ _ _
 have ok:MsOk (s0R (w3 first b) (List.replicate 64 0) [9,9,many,9] b):=G6 rfl KA hw rfl hx (by omega)
 obtain ⟨a',y,z',l',d',er⟩:=P7 hb hl64 ht h1 (GW hb.1 hlw) ok
 have er:runF 900 (s0R (w3 first b) (List.replicate 64 0) [9,9,many,9] b)=_:=er
 refine Gk (β:=Addr) (Lo':=fun p=>LZ (zM K (M0 (w3 first b) b (List.replicate 64 0)) p)) (Io':=fun p=>TZ (zM K (M0 (w3 first b) b (List.replicate 64 0)) p)) (ro:=fun p=>[(6,p)]) (fun _=>True) (Gx (i:=4) (j:=5) (l:=6) D_run (by walk_at "rm") (by rfl) (Aa (evv 3) (Aa (evv 2) (Aa IM (Aa (Av (AF (Aa Ab (Aa Ab (Aa (evv 1) (Aa Ab Ac)))) (by walk_at "sz")) rfl) Ac)))) ⟨w3 first b,List.replicate 64 0,[9,9,many,9],b,ok,hb.1,hlw,rfl,by show 13≤60;decide,rfl,rfl,rfl,rfl⟩ (B_ rfl (A5 (Au (i:=4) sc_law_counted.nd rfl (by first | exact Or.inl rfl | exact Or.inr rfl)) (A5 (Au (i:=5) sc_law_counted.nd rfl (by first | exact Or.inl rfl | exact Or.inr rfl)) (A5 (Au (i:=6) sc_law_counted.nd rfl (by first | exact Or.inl rfl | exact Or.inr rfl)) Bw)))) (by decide) (by decide) rfl) fun p _=>?_
 rw [er]
 refine J0 (Gu (A1:=[]) (B1:=[]) (d:=.int ((first + many) % 4096)) (z:=b + 5) (i:=6) rfl N4 List.mem_cons_self (pv 6) (BW J1 (Ad (Ad (evv 0) (evv 1) (by walk_at "od")) Ab (by walk_at "od")) rfl) rfl (Ad (evv 2) Ab (by walk_at "od")) (by omega) (by rw [List.length_map,hl64];omega)) ?_
 show PSs _ _ (zV K [p] (TZ [([p],Kz K p (((M0 (w3 first b) b (List.replicate 64 0)).map PyData.int).set (b + 5).toNat (PyData.int ((first + many) % 4096))))]) _ _ _ _)
 rw [←List.map_set]
 refine GH (Gr (GV (Ee (m:=(M0 (w3 first b) b (List.replicate 64 0)).set (b + 5).toNat ((first + many) % 4096))) (CC (i:=6) List.mem_cons_self (fun H t=>Kz.dv (tz_one.mp t))) (B3 (DK (k:=false) (An (AM CM.cl M_cells (by walk_at "rm") (evv 4) ⟨_,rfl,rfl⟩) (evv 6) (DR (by walk_at "un") rfl) (Ak _)) (fun _=>C8 (An (AM CM.cl M_stored (by walk_at "rm") (evv 4) ⟨_,rfl,rfl⟩) (Av (Dr (GK (AF (Aa (Ad (evv 2) Ab (by walk_at "od")) Ac) (by rw [sizeLine_eq];exact (by decide:1≤16777216))) (evv 1) (by omega) (by omega) (by rw [sizeLine_eq];show 1 * many.toNat≤16777216;omega))) (congrArg PyData.list (L7 _ _))) (DR (by walk_at "un") rfl) (Ak _))))))) ?_
 refine E8 (Ee (m:=(M0 (w3 first b) b (List.replicate 64 0)).set (b + 5).toNat ((first + many) % 4096))) A_ ?_
 refine B5 (k:=true) ?_ (fun _=>C3 ?_) (fun z=>by cases z)
 ·refine Bf (da:=.list (((List.range many.toNat).map fun i:Nat=>(first + (i:Int)) % 4096).map PyData.int)) (db:=.list (((List.range many.toNat).map fun i:Nat=>(first + (i:Int)) % 4096).map PyData.int)) ?_ ?_ (Fd (by walk_at "un") rfl) (Ak _)
  ·exact AM CM.cl M_told (by walk_at "rm") (evv 4) ⟨_,rfl,rfl⟩
  ·refine Av (Dz (ix:=[0]) (N:=["k","first"]) (B:=bind1) (as:=List.range many.toNat) (D:=fun (i:Nat)=>PyData.int (0 + (i:Int))) (fun _=>true) (fun i:Nat=>PyData.int ((first + (i:Int)) % 4096)) rfl (of_decide_eq_true (by kernel_rfl)) (Bd (by decide)) (CW (evv 1) (by omega) (by omega) rfl T.b_range) (by rw [sizeLine_eq,List.length_range];omega) (fun _ _=>D_ _) (fun _ _ _ _ _=>Au (i:=0) (show List.Nodup (["k","first"]:List Str) by decide +kernel) rfl (Or.inl rfl)) (fun a ha cl C s H fp=>Er) (fun a ha hP cl C s H fp=>Av (Ad (Ad (evv 1) (evv 0) Co) Ab (Be (by decide))) (by rw [Int.zero_add]))) ?_
   rw [List.filter_eq_self.mpr (fun _ _=>rfl),List.map_map]
   rfl
 ·exact Bf (evv 5) (AR (Aa (Ad Ab (Ad Ab (evv 1) (by walk_at "od")) (by walk_at "od")) (Aa Ai Ac)) (by walk_at "sz")) (GA (by walk_at "un") (by omega)) (Ak _)
end
section
variable {P:Program} {w:World} {K:PySem.W.Frag} {mg:Str→Option Value} {base:Heap}
local macro_rules | `(tactic| walk_at "fn")=>`(tactic| first | exact ⟨1,"set",rfl,rfl,rfl⟩ | exact ⟨3,"add",rfl,rfl,rfl⟩ | exact ⟨4,"sub",rfl,rfl,rfl⟩ | exact ⟨8,"cmp",rfl,rfl,rfl⟩ | exact ⟨9,"load",rfl,rfl,rfl⟩ | exact ⟨10,"store",rfl,rfl,rfl⟩ | exact ⟨11,"jump",rfl,rfl,rfl⟩ | exact ⟨12,"branch",rfl,rfl,rfl⟩ | exact ⟨13,"call",rfl,rfl,rfl⟩ | exact ⟨14,"back",rfl,rfl,rfl⟩ | exact ⟨15,"out",rfl,rfl,rfl⟩)
def NE (ds:List PyData) (d:PyData):Prop:=∃(m:List Int) (b g far:Int) (n:Nat),m.length=64∧(∀z∈m,0≤z∧z < 4096)∧(0≤b∧b < 5)∧(16≤g∧g < 24)∧(1≤far∧far < 16)∧n≤20∧ds=[.list (m.map PyData.int),.int b,.int g,.int n,.int far]∧d=.bool true
theorem GL (T:Txt mg) {C:Addr} (CM:ClsM K mg C) (D_law_op:DFn P w K mg base 1 "_law_op" JM) (D_run:Fl P w K mg base 8 "_law_run" C) (M_cells:MFn P w K mg base 1 C "cells" (fun ds d=>∃S:MS,ds=[mcD C S]∧d=.list (S.mem.map PyData.int))) (M_stored:MFn P w K mg base 1 C "stored" (Jc C)) (M_told:MFn P w K mg base 1 C "told" (fun ds d=>∃S:MS,ds=[mcD C S]∧d=.list (S.told.map PyData.int))) {f:Addr} {fd:FuncData} (F:Fun K "_law_copied" "_law_copied" Cw f fd) (hm:mg "_law_copied"=some (.ref f)):DFn P w K mg base 9 "_law_copied" NE:=by
 refine F.data hm (F.binds fun _ _ _ _ _ _ us hl=>match us,hl with | [_,_,_,_,_],_=>rfl) sc_law_copied (fun ds d ⟨_,_,_,_,_,_,_,_,_,_,_,e,_⟩=>by rw [e];rfl) fun cdv A outer s H E ds d hr ⟨m,b,g,far,n,hl,hmw,hb,hg,hf,hn,e,e2⟩=>?_
 subst e e2
 refine Ag (AQ (i:=5) sc_law_copied.nd rfl (Or.inl rfl) (Av (d':=.list (([320,1,2096,3072,b + 10]:List Int).map PyData.int)) (AF (Aa (Ad (Af D_law_op (by walk_at "rm") rfl (Aa Ai Ac) (by walk_at "fn")) Ab (by walk_at "od")) (Aa Ab (Aa (Ad (Af D_law_op (by walk_at "rm") rfl (Aa Ai Ac) (by walk_at "fn")) (Ad Ab Ab (by walk_at "od")) (by walk_at "od")) (Aa (Af D_law_op (by walk_at "rm") rfl (Aa Ai Ac) (by walk_at "fn")) (Aa (Ad (evv 1) Ab (by walk_at "od")) Ac))))) (by walk_at "sz")) rfl)) ?_
 refine Ag (AQ (i:=5) sc_law_copied.nd rfl (Or.inl rfl) (Av (d':=.list (([320,1,2096,3072,b + 10,2432,2688 + far,784]:List Int).map PyData.int)) (Ad (evv 5) (AF (Aa (Ad (Af D_law_op (by walk_at "rm") rfl (Aa Ai Ac) (by walk_at "fn")) (Ad Ab Ab (by walk_at "od")) (by walk_at "od")) (Aa (Ad (Ad (Af D_law_op (by walk_at "rm") rfl (Aa Ai Ac) (by walk_at "fn")) (Ad Ab Ab (by walk_at "od")) (by walk_at "od")) (evv 4) (by walk_at "od")) (Aa (Ad (Af D_law_op (by walk_at "rm") rfl (Aa Ai Ac) (by walk_at "fn")) Ab (by walk_at "od")) Ac))) (by walk_at "sz")) (by walk_at "od")) rfl)) ?_
 refine Ag (AQ (i:=5) sc_law_copied.nd rfl (Or.inl rfl) (Av (d':=.list ((w2 far b).map PyData.int)) (Ad (evv 5) (AF (Aa (Af D_law_op (by walk_at "rm") rfl (Aa Ai Ac) (by walk_at "fn")) (Aa (Ad (evv 1) Ab (by walk_at "od")) (Aa Ab Ac))) (by walk_at "sz")) (by walk_at "od")) rfl)) ?_
 have hw:∀z∈w2 far b,0≤z∧z < 4096:=fun z hz=>by
  simp only [w2,List.mem_cons,List.not_mem_nil,or_false] at hz
  omega
 have hx:∀z∈[g,0,0,g + (n:Int)],0≤z∧z < 4096:=fun z hz=>by
  simp only [List.mem_cons,List.not_mem_nil,or_false] at hz
  omega
 have hlw:b + ((w2 far b).length:Int)≤(m.length:Int):=by
  rw [hl]
  show b + 11≤64
  omega
 have hl64:(M0 (w2 far b) b m).length=64:=(CY _ _ _ _).trans hl
 have ok:MsOk (s0R (w2 far b) m [g,0,0,g + (n:Int)] b):=G6 hl hmw hw rfl hx (by omega)
 obtain ⟨a',c',y,z',l',d',er⟩:=OL hb hg hf hl64 hn (GW hb.1 hlw) ok
 have er:runF 900 (s0R (w2 far b) m [g,0,0,g + (n:Int)] b)=_:=er
 refine Gk (β:=Addr) (Lo':=fun p=>LZ (zM K (M0 (w2 far b) b m) p)) (Io':=fun p=>TZ (zM K (M0 (w2 far b) b m) p)) (ro:=fun p=>[(8,p)]) (fun _=>True) (Gx (i:=6) (j:=7) (l:=8) D_run (by walk_at "rm") (by rfl) (Aa (evv 5) (Aa (evv 1) (Aa (evv 0) (Aa (Av (AF (Aa (evv 2) (Aa Ab (Aa Ab (Aa (Ad (evv 2) (evv 3) (by walk_at "od")) Ac)))) (by walk_at "sz")) rfl) Ac)))) ⟨w2 far b,m,[g,0,0,g + (n:Int)],b,ok,hb.1,hlw,hl,by show 11≤60;decide,rfl,rfl,rfl,rfl⟩ (B_ rfl (A5 (Au (i:=6) sc_law_copied.nd rfl (by first | exact Or.inl rfl | exact Or.inr rfl)) (A5 (Au (i:=7) sc_law_copied.nd rfl (by first | exact Or.inl rfl | exact Or.inr rfl)) (A5 (Au (i:=8) sc_law_copied.nd rfl (by first | exact Or.inl rfl | exact Or.inr rfl)) Bw)))) (by decide) (by decide) rfl) fun p _=>?_
 rw [er]
 generalize eM:M0 (w2 far b) b m=M at hl64 er
 show PSs _ _ (zV K [p] (TZ (zM K M p)) _ _ _ _)
 refine FR (β:=Nat) (Lo:=fun _=>[p]) (Io:=fun k=>TZ (zM K (cpy g far k M) p)) (Go:=fun _=>_) (n:=n) (j:=9) (fun k y=>y=k) 0 (fun _=>Ee) PassesOwn.never rfl ?rsn (Au (i:=9) sc_law_copied.nd rfl (Or.inl rfl)) A_ (evv 3) (by omega) rfl T.b_range rfl ?body ?done
 case rsn=>
  intro q hq
  rw [List.mem_singleton.mp hq]
  exact (by decide:(8:Nat)≠9)
 case body=>
  intro k y hk hy
  replace hy:y=k:=hy
  subst y
  have hlk:=ED g far M k
  refine Ku ((Gu (A1:=[]) (B1:=[]) (d:=.int (Ao (cpy g far k M) (g + k))) (z:=g + k + far) (i:=8) rfl N4 List.mem_cons_self (pv 8) (NW Ee (CC (i:=8) List.mem_cons_self (fun H t=>Kz.dv (tz_one.mp t))) (AC (evv 8) (Ad (evv 2) (evv 9) (by walk_at "od")) (BA (by omega) (by omega))) rfl) rfl (Ad (Ad (evv 2) (evv 9) (by walk_at "od")) (evv 4) (by walk_at "od")) (by omega) (by rw [List.length_map];omega)).imp fun D σ H ⟨r,q,_⟩=>⟨r,fun σ' H' r' s'=>q _ σ' H' ⟨k + 1,rfl,rfl,r'.1,?_,FJ r'.2.2 rfl⟩ s'⟩)
  have:=r'.2.1
  rw [←List.map_set] at this
  exact this
 case done=>
  intro y hy
  replace hy:y=n:=hy
  subst y
  refine GH (Gr (GV Ee A_ (An (db:=.list (((List.range n).map fun i:Nat=>g + (i:Int) + far).map PyData.int)) (AM CM.cl M_stored (by walk_at "rm") (evv 6) ⟨_,rfl,rfl⟩) ?cmp (DR (by walk_at "un") rfl) (Ak _)))) ?_
  case cmp=>
   refine Av (Dz (ix:=[2,4]) (N:=["k","goes","far"]) (B:=bind1) (as:=List.range (n:Int).toNat) (D:=fun (i:Nat)=>PyData.int (0 + (i:Int))) (fun _=>true) (fun i:Nat=>PyData.int (g + (i:Int) + far)) rfl (of_decide_eq_true (by kernel_rfl)) (Bd (by decide)) (CW (evv 3) (by omega) (by omega) rfl T.b_range) (by rw [sizeLine_eq,List.length_range];omega) (fun _ _=>D_ _) (fun _ _ _ _ _=>Au (i:=0) (show List.Nodup (["k","goes","far"]:List Str) by decide +kernel) rfl (Or.inl rfl)) (fun a ha cl C s H fp=>Er) (fun a ha hP cl C s H fp=>Av (Ad (Ad (evv 1) (evv 0) Co) (evv 2) Co) (by rw [Int.zero_add]))) ?_
   rw [List.filter_eq_self.mpr (fun _ _=>rfl),List.map_map,Int.toNat_natCast]
   rfl
  refine E8 Ee (CC (i:=8) List.mem_cons_self (fun H t=>Kz.dv (tz_one.mp t))) ?_
  refine B5 (k:=true) ?_ (fun _=>B5 (k:=true) ?_ (fun _=>C3 ?_) (fun z=>by cases z)) (fun z=>by cases z)
  ·exact Bf (AM CM.cl M_cells (by walk_at "rm") (evv 6) ⟨_,rfl,rfl⟩) (evv 8) (Fd (by walk_at "un") rfl) (Ak _)
  ·exact Bf (evv 7) (AR (Aa (Ad Ab (Ad Ab (evv 3) (by walk_at "od")) (by walk_at "od")) (Aa Ai Ac)) (by walk_at "sz")) (GA (by walk_at "un") (by omega)) (Ak _)
  ·exact Bf (AM CM.cl M_told (by walk_at "rm") (evv 6) ⟨_,rfl,rfl⟩) (Av (d':=.list (([]:List Int).map PyData.int)) (AF Ac (by walk_at "sz")) rfl) (Fd (by walk_at "un") rfl) (Ak _)
end
section
variable {P:Program} {w:World} {K:PySem.W.Frag} {mg:Str→Option Value} {base:Heap}
def cs18 (rs:List Int):List Int:=(List.range 64).map fun i:Nat=>rs.getD ((i:Int) % 60).toNat 0 / (1 + (i:Int)) % 4096
theorem Px (rs:List Int):∀z∈cs18 rs,0≤z∧z < 4096:=fun z h=>by
 obtain ⟨i,_,rfl⟩:=List.mem_map.mp h
 omega
theorem OZ (T:Txt mg) (R_law_numbers:RFn P w K mg base 1 "_law_numbers" numF Iq) (D_law_product:DFn P w K mg base 9 "_law_product" NG) (D_law_copied:DFn P w K mg base 9 "_law_copied" NE) (D_law_counted:DFn P w K mg base 9 "_law_counted" NS) (D_law_called:DFn P w K mg base 9 "_law_called" NQ)
  {f:Addr} {fd:FuncData} (F:Fun K "law" "law" Kx f fd):FnOk P w K mg base CX0 20 f fd ["script"] (spD K Jj):=by
 refine F.dataOk sc_law (fun ds d ⟨_,e,_⟩=>by rw [e];rfl) fun cdv A outer s H E ds d hr ⟨ns,e,hns,e2⟩=>?_
 subst e e2
 refine HG (i:=1) sc_law.nd rfl (by first | exact Or.inl rfl | exact Or.inr rfl) (LO R_law_numbers (by walk_at "rm") rfl (Aa (evv 0) (Aa Ab (Aa Ab Ac))) ⟨ns,0,60,hns,by decide,rfl⟩) ?_
 rintro d ⟨_,_,many,em,rs,hrs,hbd,rfl⟩
 have em:many=60:=by
  have:=List.cons.inj (List.cons.inj (List.cons.inj em).2).2
  have:=PyData.int.inj this.1
  omega
 subst em
 have hr0:∀j,0≤rs.getD j 0∧rs.getD j 0 < 1000000:=fun j=>by
  rw [List.getD_eq_getElem?_getD]
  cases e:rs[j]? with
  | none=>exact (by decide:(0:Int)≤0∧(0:Int) < 1000000)
  | some v=>exact hbd v (List.mem_of_getElem? e)
 refine Ag (Do (ix:=[1]) (N:=["k","numbers"]) (B:=bind1) (as:=List.range (64:Int).toNat) (D:=fun (i:Nat)=>PyData.int (0 + (i:Int))) (fun _=>true) (fun i:Nat=>PyData.int (rs.getD ((i:Int) % 60).toNat 0 / (1 + (i:Int)) % 4096)) rfl sc_law.nd (i:=2) rfl rfl (of_decide_eq_true (by kernel_rfl)) (Bd (by decide)) (CW Ab (by omega) (by omega) rfl T.b_range) (by rw [sizeLine_eq,List.length_range];decide) (fun _ _=>D_ _) (fun _ _ _ _ _=>Au (i:=0) (show List.Nodup (["k","numbers"]:List Str) by decide +kernel) rfl (Or.inl rfl)) (fun a ha cl C s H fp=>Er) ?elt) ?_
 case elt=>
  intro a ha hP cl C s H fp
  have h64:a < 64:=List.mem_range.mp ha
  exact Av (Ad (Ad (AC (evv 1) (Ad (evv 0) Ab (Be (by decide))) (BA (by omega) (by omega))) (Ad Ab (evv 0) Co) (Gp ⟨by omega,by omega⟩)) Ab (Be (by decide))) (by rw [Int.zero_add])
 have ec:((List.range (64:Int).toNat).filter (fun _=>true)).map (fun i:Nat=>PyData.int (rs.getD ((i:Int) % 60).toNat 0 / (1 + (i:Int)) % 4096))=(cs18 rs).map PyData.int:=by
  rw [List.filter_eq_self.mpr (fun _ _=>rfl)]
  unfold cs18
  rw [List.map_map]
  rfl
 rw [ec]
 have hcl:(cs18 rs).length=64:=by unfold cs18;rw [List.length_map,List.length_range]
 have hcw:=Px rs
 generalize cs18 rs=cs at hcl hcw
 refine Ag (G1:=[some (.list (ns.map PyData.int)),some (.list (rs.map PyData.int)),some (.list (cs.map PyData.int)),none,none,none])
  (O0 (k:=0) (as:=List.range (6:Int).toNat) (D:=fun (i:Nat)=>PyData.int (0 + (i:Int))) (g:=BH 3) (B:=K4 3) (fun _=>[some (.list (ns.map PyData.int)),some (.list (rs.map PyData.int)),some (.list (cs.map PyData.int)),none,none,none]) PassesOwn.never rfl
   (CW Ab (by omega) (by omega) rfl T.b_range) (Au (i:=3) sc_law.nd rfl (Or.inl rfl)) (fun _ _=>M7 3 _) ?_) (Ah (Ap (Av FZ rfl)))
 intro i k hk
 have hk6:k < 6:=List.mem_range.mp (List.mem_of_getElem? hk)
 have ix:∀j:Int,0≤j→j < 5→atI (rs.map PyData.int) (5 * (0 + (k:Int)) + j)=some (.int (rs.getD (5 * (0 + (k:Int)) + j).toNat 0)):=fun j h1 h2=>BA (by omega) (by omega)
 have ix0:atI (rs.map PyData.int) (5 * (0 + (k:Int)))=some (.int (rs.getD (5 * (0 + (k:Int))).toNat 0)):=BA (by omega) (by omega)
 have h0:=hr0 (5 * (0 + (k:Int))).toNat
 have h1:=hr0 (5 * (0 + (k:Int)) + 1).toNat
 have h2:=hr0 (5 * (0 + (k:Int)) + 2).toNat
 have h3:=hr0 (5 * (0 + (k:Int)) + 3).toNat
 have h4:=hr0 (5 * (0 + (k:Int)) + 4).toNat
 have i1:=ix 1 (by decide) (by decide)
 have i2:=ix 2 (by decide) (by decide)
 have i3:=ix 3 (by decide) (by decide)
 have i4:=ix 4 (by decide) (by decide)
 generalize rs.getD (5 * (0 + (k:Int))).toNat 0=r0 at h0 ix0
 generalize rs.getD (5 * (0 + (k:Int)) + 1).toNat 0=r1 at h1 i1
 generalize rs.getD (5 * (0 + (k:Int)) + 2).toNat 0=r2 at h2 i2
 generalize rs.getD (5 * (0 + (k:Int)) + 3).toNat 0=r3 at h3 i3
 generalize rs.getD (5 * (0 + (k:Int)) + 4).toNat 0=r4 at h4 i4
 refine IH (G1:=[some (.list (ns.map PyData.int)),some (.list (rs.map PyData.int)),some (.list (cs.map PyData.int)),some (.int (0 + (k:Int))),some (.int r0),some (.int (r0 % 50))]) ?_ rfl ?_
 ·refine Ag (AQ (i:=4) sc_law.nd rfl (Or.inl rfl) (AC (evv 1) (Ad Ab (evv 3) (by walk_at "od")) ix0)) ?_
  refine Ag (AQ (i:=5) sc_law.nd rfl (by first | exact Or.inl rfl | exact Or.inr rfl) (Ad (evv 4) Ab (by walk_at "od"))) ?_
  refine Ag (A0 (k:=false) (Al (AL (AI (Af D_law_product (by walk_at "rm") rfl (Aa (Ad (AC (evv 1) (Ad (Ad Ab (evv 3) (by walk_at "od")) Ab (by walk_at "od")) i1) Ab (Be (by decide))) (Aa (Ad (AC (evv 1) (Ad (Ad Ab (evv 3) (by walk_at "od")) Ab (by walk_at "od")) i2) Ab (Be (by decide))) (Aa (evv 5) Ac))) ⟨r1 % 4096,r2 % 200,r0 % 50,by omega,by omega,by omega,rfl,rfl⟩))) rfl) (fun h=>by cases h) (fun _=>Ar)) ?_
  refine Ag (A0 (k:=false) (Al (AL (AI (Af D_law_copied (by walk_at "rm") rfl (Aa (evv 2) (Aa (Ad (evv 4) Ab (by walk_at "od")) (Aa (Ad Ab (Ad (Ad (evv 4) Ab (by walk_at "od")) Ab (by walk_at "od")) (by walk_at "od")) (Aa (Av (d':=.int ((r3 % 21).toNat:Int)) (Ad (AC (evv 1) (Ad (Ad Ab (evv 3) (by walk_at "od")) Ab (by walk_at "od")) i3) Ab (Be (by decide))) (by rw [Int.toNat_of_nonneg (by omega)])) (Aa (Ad Ab (Ad (Ad (evv 4) Ab (by walk_at "od")) Ab (by walk_at "od")) (by walk_at "od")) Ac))))) ⟨cs,r0 % 5,16 + r0 / 5 % 8,1 + r0 / 40 % 15,(r3 % 21).toNat,hcl,hcw,by omega,by omega,by omega,by omega,rfl,rfl⟩))) rfl) (fun h=>by cases h) (fun _=>Ar)) ?_
  refine Ag (A0 (k:=false) (Al (AL (AI (Af D_law_counted (by walk_at "rm") rfl (Aa (Ad (AC (evv 1) (Ad (Ad Ab (evv 3) (by walk_at "od")) Ab (by walk_at "od")) i4) Ab (Be (by decide))) (Aa (Ad Ab (Ad (Ad (evv 4) Ab (by walk_at "od")) Ab (by walk_at "od")) (by walk_at "od")) (Aa (evv 5) Ac))) ⟨r4 % 4096,1 + r0 / 50 % 60,r0 % 50,by omega,by omega,by omega,rfl,rfl⟩))) rfl) (fun h=>by cases h) (fun _=>Ar)) ?_
  exact Ag (A0 (k:=false) (Al (AL (AI (Af D_law_called (by walk_at "rm") rfl (Aa (Ad (AC (evv 1) (Ad (Ad Ab (evv 3) (by walk_at "od")) Ab (by walk_at "od")) i1) Ab (Be (by decide))) (Aa (Ad (AC (evv 1) (Ad (Ad Ab (evv 3) (by walk_at "od")) Ab (by walk_at "od")) i2) Ab (Be (by decide))) (Aa (evv 5) Ac))) ⟨r1 % 4096,r2 % 4096,r0 % 50,by omega,by omega,by omega,rfl,rfl⟩))) rfl) (fun h=>by cases h) (fun _=>Ar)) Ar
 ·intro j d e
  match j,e with
  | 0,e=>exact e
  | 1,e=>exact e
  | 2,e=>exact e
  | 3,e=>cases e
  | 4,e=>cases e
  | 5,e=>cases e
  | n + 6,e=>cases e
def Bz (K:PySem.W.Frag) (C:Addr) (m qual:Str) (st:Stmt):Prop:=∃f fd,Fun K m qual st f fd∧Meth K C m f
theorem mthIn_mk {K:PySem.W.Frag} {C f:Addr} {m qual:Str} {st:Stmt} {oc:Value} {od an:Option Addr} {osl:Array (Option Value)} {kV doc pm cdv ct:Value} (a:PySem.W.findIn K (.ref C) m=some (some (.ref f))) (i:PySem.W.isFn K (.ref f)=true) (l:K.lookup f=some ⟨oc,od,.func (PySem.W.fnOf m qual (BV st) (AG st) (Ae st) .none kV doc pm an cdv ct),osl⟩) (c:PySem.W.codeIn K cdv qual=true) (k:PySem.W.keepIn K (.ref f)=true):Bz K C m qual st:=⟨f,_,IG l c k,a,i,k⟩
def NA (K:PySem.W.Frag) (C:Addr) (qual:Str) (st:Stmt):Prop:=∃f fd,Fun K "__init__" qual st f fd∧Mk K C f
theorem iniIn_mk {K:PySem.W.Frag} {C f:Addr} {qual:Str} {st:Stmt} {oc:Value} {od an:Option Addr} {osl:Array (Option Value)} {kV doc pm cdv ct:Value} (a:PySem.W.findIn K (.ref C) "__init__"=some (some (.ref f))) (i:PySem.W.isFn K (.ref f)=true) (l:K.lookup f=some ⟨oc,od,.func (PySem.W.fnOf "__init__" qual (BV st) (AG st) (Ae st) .none kV doc pm an cdv ct),osl⟩) (c:PySem.W.codeIn K cdv qual=true) (k:PySem.W.keepIn K (.ref f)=true) (m1:PySem.W.makesIn K C=true) (m2:PySem.W.keepIn K (.ref C)=true):NA K C qual st:=⟨f,_,IG l c k,m1,a,i,m2⟩
theorem all_mk {l:PySem.W.OpenLaw} {w:World} {K:PySem.W.Frag} {h:Heap} {mg:Str→Option Value} {fa C:Addr} {t0:Tok} (X:K.In h) (G:h.Ns mainGlobals mg) (hfa:mg "law"=some (.ref fa))
  (f1:∃f fd,FnIn K "is_below" Dg f fd)
  (f2:∃f fd,FnIn K "is_row" EJ f fd)
  (f3:∃f fd,FnIn K "first_word" Cs f fd)
  (f4:∃f fd,FnIn K "number_in" CB f fd)
  (f5:∃f fd,FnIn K "is_word" Ek f fd)
  (f6:∃f fd,FnIn K "row_in" EG f fd)
  (f7:∃f fd,FnIn K "cells_of" Df f fd)
  (f8:∃f fd,FnIn K "cells_from" Cu f fd)
  (f9:∃f fd,FnIn K "has_right" C4 f fd)
  (f10:∃f fd,FnIn K "may_read" Dt f fd)
  (f11:∃f fd,FnIn K "may_write" CA f fd)
  (f12:∃f fd,FnIn K "may_run" DX f fd)
  (f13:∃f fd,FnIn K "are_words" C5 f fd)
  (f14:∃f fd,FnIn K "check_pages" Cg f fd)
  (f15:∃f fd,FnIn K "check_state" Ca f fd)
  (f16:∃f fd,FnIn K "row_at" DL f fd)
  (f17:∃f fd,FnIn K "result_of" BT f fd)
  (f18:∃f fd,FnIn K "less_of" Ci f fd)
  (f19:∃f fd,FnIn K "branch_goes" Ce f fd)
  (f20:∃f fd,FnIn K "_law_numbers" Cf f fd)
  (f21:∃f fd,FnIn K "_law_op" EU f fd)
  (f22:∃f fd,FnIn K "_law_run" DZ f fd)
  (f23:∃f fd,FnIn K "_law_product" Cc f fd)
  (f24:∃f fd,FnIn K "_law_copied" Cw f fd)
  (f25:∃f fd,FnIn K "_law_counted" Cb f fd)
  (f26:∃f fd,FnIn K "_law_called" Cm f fd)
  (f27:∃f fd,FnIn K "law" Kx f fd)
  (z1:PySem.W.nsIn K mainGlobals "len"=some none)
  (z2:PySem.W.nsIn K mainGlobals "isinstance"=some none)
  (z3:PySem.W.nsIn K mainGlobals "int"=some none)
  (z4:PySem.W.nsIn K mainGlobals "bool"=some none)
  (z5:PySem.W.nsIn K mainGlobals "all"=some none)
  (z6:PySem.W.nsIn K mainGlobals "zip"=some none)
  (z7:PySem.W.nsIn K mainGlobals "sum"=some none)
  (z8:PySem.W.nsIn K mainGlobals "tuple"=some none)
  (z9:PySem.W.nsIn K mainGlobals "list"=some none)
  (z10:PySem.W.nsIn K mainGlobals "range"=some none)
  (i1:PySem.W.nsIn K mainGlobals "PAGE_CELLS"=some (some (.int 16 t0)))
  (p0:PySem.W.nsIn K mainGlobals "Machine"=some (some (.ref C))) (p1:PySem.W.plainGet K C Str.empty=true) (p2:PySem.W.hasDictIn K C=true) (p3:PySem.W.plainOver K C=true) (p4:PySem.W.findIn K (.ref C) "__setattr__"=some (some (.builtin "object.__setattr__"))) (p5:PySem.W.findIn K (.ref C) "rights"=some none) (p6:PySem.W.findIn K (.ref C) "memory"=some none) (p7:PySem.W.findIn K (.ref C) "box_words"=some none) (p8:PySem.W.findIn K (.ref C) "here"=some none) (p9:PySem.W.findIn K (.ref C) "truth_pair"=some none) (p10:PySem.W.findIn K (.ref C) "told_words"=some none) (p11:PySem.W.findIn K (.ref C) "stored_cells"=some none) (p12:PySem.W.findIn K (.ref C) "done_count"=some none)
  (j0:NA K C "Machine.__init__" BP)
  (m1:Bz K C "address" "Machine.address" Bn)
  (m2:Bz K C "hindrance" "Machine.hindrance" Bb)
  (m3:Bz K C "next_place" "Machine.next_place" AY)
  (m4:Bz K C "peek" "Machine.peek" BN)
  (m5:Bz K C "stored" "Machine.stored" Bu)
  (m6:Bz K C "poke" "Machine.poke" BF)
  (m7:Bz K C "tell" "Machine.tell" BL)
  (m8:Bz K C "cells" "Machine.cells" B2)
  (m9:Bz K C "reckon" "Machine.reckon" Bt)
  (m10:Bz K C "fill" "Machine.fill" BI)
  (m11:Bz K C "do" "Machine.do" Cl)
  (m12:Bz K C "step" "Machine.step" BD)
  (m13:Bz K C "steps" "Machine.steps" B7)
  (m14:Bz K C "boxes" "Machine.boxes" B6)
  (m15:Bz K C "place" "Machine.place" B4)
  (m16:Bz K C "told" "Machine.told" BK)
  (t1:GTup K mg "NAMES" nameL) (d1:Ep K mg w.params "PARTS" K2) (d2:Ep K mg w.params "BOUNDS" Ir) (d3:Ep K mg w.params "WEIGHTS" GT) (t2:GTup K mg "RECKONING" ["add","sub","mul","and","xor","cmp"]):
  ∃fd:FuncData,(∀(s:Shared) (v:Value),BindsTo s fd ⟨[v],[]⟩ [("script",v)])∧∀base:Heap,K.In base→base.Ns mainGlobals mg→FnOk l.prog w K mg base CX0 20 fa fd ["script"] (spD K Jj):=by
 have T:TxtR K mg w.params:=⟨⟨PySem.W.mg_none_of X G z1,PySem.W.mg_none_of X G z2,PySem.W.mg_none_of X G z3,PySem.W.mg_none_of X G z4,PySem.W.mg_none_of X G z5,PySem.W.mg_none_of X G z6,PySem.W.mg_none_of X G z7,PySem.W.mg_none_of X G z8,PySem.W.mg_none_of X G z9,PySem.W.mg_none_of X G z10,⟨t0,PySem.W.mg_of X G i1⟩⟩,t1,d1,d2,d3,t2⟩
 have CM:ClsM K mg C:=⟨⟨p1,p2,p3,p4⟩,p5,p6,p7,p8,p9,p10,p11,p12,PySem.W.mg_of X G p0⟩
 obtain ⟨ai,bi,FI,MI⟩:=j0
 obtain ⟨am1,bm1,FM1,MM1⟩:=m1
 obtain ⟨am2,bm2,FM2,MM2⟩:=m2
 obtain ⟨am3,bm3,FM3,MM3⟩:=m3
 obtain ⟨am4,bm4,FM4,MM4⟩:=m4
 obtain ⟨am5,bm5,FM5,MM5⟩:=m5
 obtain ⟨am6,bm6,FM6,MM6⟩:=m6
 obtain ⟨am7,bm7,FM7,MM7⟩:=m7
 obtain ⟨am8,bm8,FM8,MM8⟩:=m8
 obtain ⟨am9,bm9,FM9,MM9⟩:=m9
 obtain ⟨am10,bm10,FM10,MM10⟩:=m10
 obtain ⟨am11,bm11,FM11,MM11⟩:=m11
 obtain ⟨am12,bm12,FM12,MM12⟩:=m12
 obtain ⟨am13,bm13,FM13,MM13⟩:=m13
 obtain ⟨am14,bm14,FM14,MM14⟩:=m14
 obtain ⟨am15,bm15,FM15,MM15⟩:=m15
 obtain ⟨am16,bm16,FM16,MM16⟩:=m16
 obtain ⟨a1,b1,F1⟩:=f1
 obtain ⟨a2,b2,F2⟩:=f2
 obtain ⟨a3,b3,F3⟩:=f3
 obtain ⟨a4,b4,F4⟩:=f4
 obtain ⟨a5,b5,F5⟩:=f5
 obtain ⟨a6,b6,F6⟩:=f6
 obtain ⟨a7,b7,F7⟩:=f7
 obtain ⟨a8,b8,F8⟩:=f8
 obtain ⟨a9,b9,F9⟩:=f9
 obtain ⟨a10,b10,F10⟩:=f10
 obtain ⟨a11,b11,F11⟩:=f11
 obtain ⟨a12,b12,F12⟩:=f12
 obtain ⟨a13,b13,F13⟩:=f13
 obtain ⟨a14,b14,F14⟩:=f14
 obtain ⟨a15,b15,F15⟩:=f15
 obtain ⟨a16,b16,F16⟩:=f16
 obtain ⟨a17,b17,F17⟩:=f17
 obtain ⟨a18,b18,F18⟩:=f18
 obtain ⟨a19,b19,F19⟩:=f19
 obtain ⟨a20,b20,F20⟩:=f20
 obtain ⟨a21,b21,F21⟩:=f21
 obtain ⟨a22,b22,F22⟩:=f22
 obtain ⟨a23,b23,F23⟩:=f23
 obtain ⟨a24,b24,F24⟩:=f24
 obtain ⟨a25,b25,F25⟩:=f25
 obtain ⟨a26,b26,F26⟩:=f26
 obtain ⟨a27,b27,F27⟩:=f27
 have e:=hfa.symm.trans (PySem.W.mg_of X G F27.ns)
 cases e
 have bs:∀(s:Shared) (v:Value),BindsTo s b27 ⟨[v],[]⟩ [("script",v)]:=by
  obtain ⟨oc,od,kV,doc,pm,an,cdv,ct,osl,rfl,_⟩:=F27.fn.ex
  exact fun s v=>.of_eq rfl
 refine ⟨b27,bs,fun base _ _=>?_⟩
 have D1:DFn l.prog w K mg base 1 "is_below" BO:=Iw T.toTxt F1.fn (PySem.W.mg_of X G F1.ns)
 have D2:=Mf T D1 F2.fn (PySem.W.mg_of X G F2.ns)
 have D3:DFn l.prog w K mg base 1 "first_word" CV:=GJ T F3.fn (PySem.W.mg_of X G F3.ns)
 have D4:DFn l.prog w K mg base 1 "number_in" Fr:=HB T F4.fn (PySem.W.mg_of X G F4.ns)
 have D5:=Kb D1 F5.fn (PySem.W.mg_of X G F5.ns)
 have D6:=Kw T D5 D2 D3 D4 F6.fn (PySem.W.mg_of X G F6.ns)
 have D7:=FFn.data (Iz T D2 D3 F7.fn (PySem.W.mg_of X G F7.ns))
 have D8:=GX T D6 D7 F8.fn (PySem.W.mg_of X G F8.ns)
 have D9:=Hl T.toTxt D1 F9.fn (PySem.W.mg_of X G F9.ns)
 have D10:=IK D9 F10.fn (PySem.W.mg_of X G F10.ns)
 have D11:=HJ D9 F11.fn (PySem.W.mg_of X G F11.ns)
 have D12:=Kh D9 F12.fn (PySem.W.mg_of X G F12.ns)
 have D15:=He T.toTxt D5 F13.fn (PySem.W.mg_of X G F13.ns)
 have D16:=Fv (P:=l.prog) (w:=w) (base:=base) T.toTxt F14.fn (PySem.W.mg_of X G F14.ns)
 have D17:=Fu T.toTxt D16 D15 D5 F15.fn (PySem.W.mg_of X G F15.ns)
 have I0:=NZ T.toTxt CM D17 FI MI
 have D18:=LY T.toTxt D12 D8 D6 F16.fn (PySem.W.mg_of X G F16.ns)
 have D19:DFn l.prog w K mg base 1 "result_of" KG:=HM F17.fn (PySem.W.mg_of X G F17.ns)
 have D20:DFn l.prog w K mg base 1 "less_of" L8:=JN F18.fn (PySem.W.mg_of X G F18.ns)
 have D21:DFn l.prog w K mg base 1 "branch_goes" ON:=Fy F19.fn (PySem.W.mg_of X G F19.ns)
 have M1:MFn l.prog w K mg base 1 C "address" (Hf C):=JQ CM FM1 MM1
 have M2:=Ho CM D10 D11 M1 FM2 MM2
 have M3:=Gw CM D21 FM3 MM3
 have M4:MFn l.prog w K mg base 1 C "peek" (L_ C):=Pu CM FM4 MM4
 have O1:OFn l.prog w K mg base 1 C "poke" (C0 Lm):=P1 CM FM6 MM6
 have O2:OFn l.prog w K mg base 1 C "tell" (C0 Ll):=Pt CM FM7 MM7
 have O4:=Ln CM D19 D20 FM9 MM9
 have O5:=N_ CM M4 M1 FM10 MM10
 have O6:=QI T CM D7 M3 M1 O4 O1 O2 O5 FM11 MM11
 have O7:=OF CM D18 M2 O6 FM12 MM12
 have O8:=Mz CM O7 FM13 MM13
 have R1:RFn l.prog w K mg base 1 "_law_numbers" numF Iq:=Fz T.toTxt F20.fn (PySem.W.mg_of X G F20.ns)
 have N2:=Mr (P:=l.prog) (w:=w) (base:=base) T.toTxt CM FM8 MM8
 have N3:=MH (P:=l.prog) (w:=w) (base:=base) T.toTxt CM FM14 MM14
 have N5:=MM (P:=l.prog) (w:=w) (base:=base) T.toTxt CM FM15 MM15
 have N6:=P3 (P:=l.prog) (w:=w) (base:=base) T.toTxt CM FM16 MM16
 have M5:=LN (P:=l.prog) (w:=w) (base:=base) T.toTxt CM FM5 MM5
 have D30:DFn l.prog w K mg base 1 "_law_op" JM:=LT F21.fn (PySem.W.mg_of X G F21.ns)
 have D31:=JK T.toTxt CM CM.at_ I0 O8 F22.fn (PySem.W.mg_of X G F22.ns)
 have D32:=Fx T.toTxt CM D30 D31 N2 M5 N6 F23.fn (PySem.W.mg_of X G F23.ns)
 have D33:=GL T.toTxt CM D30 D31 N2 M5 N6 F24.fn (PySem.W.mg_of X G F24.ns)
 have D34:=Ft T.toTxt CM D30 D31 N2 M5 N6 F25.fn (PySem.W.mg_of X G F25.ns)
 have D35:=GS T.toTxt CM D30 D31 N3 N5 N6 F26.fn (PySem.W.mg_of X G F26.ns)
 exact OZ T.toTxt R1 D32 D33 D34 D35 F27.fn
end
end My
open PySem PySem.W PyProof.Rows
local macro_rules | `(tactic| walk_at "f")=>`(tactic| (refine' L2.fnIn_mk ?a ?l ?c ?k;(case a=>k_is);(case l=>k_is);(case c=>k_is);(case k=>k_is)))
local macro_rules | `(tactic| walk_at "m")=>`(tactic| (refine' My.mthIn_mk ?a ?i ?l ?c ?k;(case a=>k_is);(case i=>k_is);(case l=>k_is);(case c=>k_is);(case k=>k_is)))
set_option maxRecDepth 100000 in
set_option maxHeartbeats 0 in
theorem PySem.Challenge.cw_likewise_k18_whole_built_programs_holds : PySem.Challenge.rw_likewise_k18_whole_built_programs.Holds := by
 w_on;o_law;k_head;(case hw=>w_witness2)
 k_fill
 refine L2.walk_D (l:=PySem.Challenge.rw_likewise_k18_whole_built_programs) rfl rfl (fun w h Y=>PySem.W.kIn_of Y) ?F
 case F=>
  intro w mg fa h KX G hmg
  refine' My.all_mk KX G hmg ?f1 ?f2 ?f3 ?f4 ?f5 ?f6 ?f7 ?f8 ?f9 ?f10 ?f11 ?f12 ?f13 ?f14 ?f15 ?f16 ?f17 ?f18 ?f19 ?f20 ?f21 ?f22 ?f23 ?f24 ?f25 ?f26 ?f27 ?z1 ?z2 ?z3 ?z4 ?z5 ?z6 ?z7 ?z8 ?z9 ?z10 ?i1 ?p0 ?p1 ?p2 ?p3 ?p4 ?p5 ?p6 ?p7 ?p8 ?p9 ?p10 ?p11 ?p12 ?j0 ?m1 ?m2 ?m3 ?m4 ?m5 ?m6 ?m7 ?m8 ?m9 ?m10 ?m11 ?m12 ?m13 ?m14 ?m15 ?m16 ?t1 ?d1 ?d2 ?d3 ?t2
  (case f1=>walk_at "f")
  (case f2=>walk_at "f")
  (case f3=>walk_at "f")
  (case f4=>walk_at "f")
  (case f5=>walk_at "f")
  (case f6=>walk_at "f")
  (case f7=>walk_at "f")
  (case f8=>walk_at "f")
  (case f9=>walk_at "f")
  (case f10=>walk_at "f")
  (case f11=>walk_at "f")
  (case f12=>walk_at "f")
  (case f13=>walk_at "f")
  (case f14=>walk_at "f")
  (case f15=>walk_at "f")
  (case f16=>walk_at "f")
  (case f17=>walk_at "f")
  (case f18=>walk_at "f")
  (case f19=>walk_at "f")
  (case f20=>walk_at "f")
  (case f21=>walk_at "f")
  (case f22=>walk_at "f")
  (case f23=>walk_at "f")
  (case f24=>walk_at "f")
  (case f25=>walk_at "f")
  (case f26=>walk_at "f")
  (case f27=>walk_at "f")
  (case z1=>k_is)
  (case z2=>k_is)
  (case z3=>k_is)
  (case z4=>k_is)
  (case z5=>k_is)
  (case z6=>k_is)
  (case z7=>k_is)
  (case z8=>k_is)
  (case z9=>k_is)
  (case z10=>k_is)
  (case i1=>k_is)
  (case p0=>k_is)
  (case p1=>k_is)
  (case p2=>k_is)
  (case p3=>k_is)
  (case p4=>k_is)
  (case p5=>k_is)
  (case p6=>k_is)
  (case p7=>k_is)
  (case p8=>k_is)
  (case p9=>k_is)
  (case p10=>k_is)
  (case p11=>k_is)
  (case p12=>k_is)
  (case j0=>refine' My.iniIn_mk ?a ?i ?l ?c ?k ?mk1 ?mk2;(case a=>k_is);(case i=>k_is);(case l=>k_is);(case c=>k_is);(case k=>k_is);(case mk1=>k_is);(case mk2=>k_is))
  (case m1=>walk_at "m")
  (case m2=>walk_at "m")
  (case m3=>walk_at "m")
  (case m4=>walk_at "m")
  (case m5=>walk_at "m")
  (case m6=>walk_at "m")
  (case m7=>walk_at "m")
  (case m8=>walk_at "m")
  (case m9=>walk_at "m")
  (case m10=>walk_at "m")
  (case m11=>walk_at "m")
  (case m12=>walk_at "m")
  (case m13=>walk_at "m")
  (case m14=>walk_at "m")
  (case m15=>walk_at "m")
  (case m16=>walk_at "m")
  (case t1=>refine' L2.gtup_mk KX G ?a ?l ?s ?v;(case a=>k_is);(case l=>k_is);(case s=>rfl);(case v=>rfl))
  (case d1=>refine' L2.gdict_mk KX G ?a ?l ?k ?t ?n;(case a=>k_is);(case l=>k_is);(case k=>k_keys);(case t=>rfl);(case n=>decide +kernel))
  (case d2=>refine' L2.gdict_mk KX G ?a ?l ?k ?t ?n;(case a=>k_is);(case l=>k_is);(case k=>k_keys);(case t=>rfl);(case n=>decide +kernel))
  (case d3=>refine' L2.gdict_mk KX G ?a ?l ?k ?t ?n;(case a=>k_is);(case l=>k_is);(case k=>k_keys);(case t=>rfl);(case n=>decide +kernel))
  (case t2=>refine' L2.gtup_mk KX G ?a ?l ?s ?v;(case a=>k_is);(case l=>k_is);(case s=>rfl);(case v=>rfl))

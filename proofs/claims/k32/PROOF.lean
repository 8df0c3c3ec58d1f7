import PyProof.Rows.All
import Wide.All
import OpenK.AllK
import Wide.FinOn
import Lean
import PyProof.EqAt
import PyProof.EqKinds
import PyProof.TupleCall
import KE.KSortTup
import KE.KItemsList
import PyProof.Draws
import PyProof.EnumFor
import PyProof.EnumStmt
import PyProof.AttrMissHeap
import PyProof.WalksS
import PyProof.WalksMore
import KE.KDictOf
import KE.KDictSum
import PyProof.TupleKey
import PyProof.P3Eq
import PyProof.Rows.TupTab
import PyProof.DictRoadsH
import PyProof.MinMaxWalk
import PyProof.WalkInts
import PyProof.FactsAll.tuple_1
import PyProof.FactsAll.tuple_2
import PyProof.P3In
import PyProof.Walks
import PyProof.Seq
import PyProof.Rows.CallKwBuiltin
import KE.KRevSl
import PySem.Challenge.RW_likewise_k32_left_at_stores_and_tests
set_option maxRecDepth 100000
set_option maxHeartbeats 8000000
set_option Elab.async false
set_option linter.all false
namespace PySem.W.Fast
def tw12021893605423999296:=()
def tw6621992171721011008:=()
def tw3274287823749057890:=()
def tw12120959013550046662:=()
def tw5844686308189799431:=()
def tw30748957922865415:=()
def tw1394988122304061287:=()
def tw597074068688959976:=()
def tw1930794211516200809:=()
def tw6275215395030618089:=()
def tw8648206064099928202:=()
def tw3382127827245902252:=()
def tw13807319488173154284:=()
def tw18410903513970046573:=()
def tw11613774263877928878:=()
def tw1197982152015743087:=()
def tw9877901322267739375:=()
def tw13303004085788318544:=()
def tw17977360379584833297:=()
def tw12862258865046540658:=()
def tw481903901213178802:=()
def tw13752273124816691219:=()
def tw13772801957023214931:=()
def tw6551861644916942900:=()
def tw3856842611943319796:=()
def tw15617095850929074964:=()
def tw17075378971580505333:=()
def tw17213800428729187637:=()
def tw11936222722835489654:=()
def tw5220833166910936568:=()
def tw11752545026863633016:=()
def tw3738598172702629113:=()
def tw18022729334806142074:=()
def tw11344631039670041179:=()
def tw5257723550532897630:=()
def tw10048325761762347391:=()
def tw11406513726951295043:=()
def tw58354098328283570:=()
def tw13931250708363266968:=()
def tw8733196533009523529:=()
def tw15421865494839407243:=()
def tw3816990127502850827:=()
def tw5978432572596723701:=()
def tw13244209770339987927:=()
def tw6177946118916028406:=()
def tw12171564934673517551:=()
def tw5844147710931939854:=()
def tw18379267283648323024:=()
def tw9221003953429061904:=()
def tw9235655632967638377:=()
def tw7190954492859683107:=()
def tw3195074283724306835:=()
def tw886192125694434976:=()
def tw3505573325617215165:=()
def tw14000404525596455112:=()
def tw17017033920471650060:=()
def tw7748784522978952406:=()
def tw1240377727531083946:=()
def tw18203014556199605672:=()
def tw2786626609337244948:=()
def tw15987642912239052874:=()
def tw12737903956645924495:=()
def tw11755771510275258276:=()
def tw13357086285839454640:=()
def tw12412638585786383968:=()
def tw17180037404183544818:=()
def tw877547120209923529:=()
def tw13724062419969819740:=()
def tw16158135803021534828:=()
def tw3172398874484423991:=()
def tw11379260927391959918:=()
def tw11555036308605753202:=()
def tw16536562440977843645:=()
def tw10907657150961337708:=()
def tw9938125583773535595:=()
def tw3648891770190071230:=()
def tw14806560850819184433:=()
def tw9126839549532599379:=()
def tw3912871654722282147:=()
def tw17026870445406735749:=()
def tw7541355922016576645:=()
def tw484118031698621504:=()
def tw9390664175481781026:=()
def tw10300643648643968620:=()
def tw16712569876862847429:=()
def tw2871339677856255091:=()
def tw4085886068549753868:=()
def tw13062181053180929154:=()
def tw1427347644844724827:=()
def tw4351259583242469420:=()
def tw2973268733457091990:=()
def tw16725048394288457866:=()
def tw4714261675937269280:=()
def tw16418514484524236817:=()
def tw3906962220203903655:=()
def tw16867039225297921182:=()
def tw561422921741222813:=()
def tw5972352068334096823:=()
def tw11375600210739413730:=()
def tw15979480560366654817:=()
def tw14059812834490478342:=()
def tw17803220218771120122:=()
def tw1231844459747427321:=()
def tw9468495121022381528:=()
def tw16728499744226527189:=()
def tw10430371424630860742:=()
def tw7713284347837748581:=()
def tw12926289325293787574:=()
def tw8416677388555588848:=()
def tw9554051903747733610:=()
def tw5681898947507653703:=()
def tw6961565494213963754:=()
def tw17575419596788945585:=()
def tw14338976116141824323:=()
def tw4755672380209773026:=()
def tw1343665112026265492:=()
def tw11076062897403984380:=()
def tw13937679499466904106:=()
def tw15142526156654248201:=()
def tw14625815191784437031:=()
def tw1192971837853006841:=()
def tw4893968103417398177:=()
def tw11526992669669136131:=()
def tw10580026041536042713:=()
def tw7436860244762213322:=()
def tw10873344392457123550:=()
def tw12187732941852116256:=()
def tw10694718657490351112:=()
def tw13564877806704274709:=()
def tw18004716315344860526:=()
def tw7529606981697601464:=()
def tw16793782775758264990:=()
def tw12059749198212653199:=()
def tw9267924143822573745:=()
def tw9641014327787651739:=()
def tw13737321385181330374:=()
def tw13150356562621261221:=()
def tw8138132302397169952:=()
def tw8961822821383029548:=()
def tw289455258488575475:=()
def tw11906407253067041729:=()
def tw16328156307036837700:=()
def tw10200358223053810883:=()
def tw8041120146288148809:=()
def tw12867125875050599063:=()
def tw14970393287504965221:=()
def tw17313273341499668113:=()
def tw16534584520609900692:=()
def tw17102009913636707226:=()
def tw9075653043539869433:=()
def tw17224048721376058873:=()
def tw589086363877665414:=()
def tw15516228229065517728:=()
def tw7496045721047569824:=()
def tw5032276936602506353:=()
def tw13044869196714184168:=()
def tw1910676467027947249:=()
def tw8359457583680593194:=()
def tw2105894433009157716:=()
def tw7359463552163956978:=()
def tw11716073093866397538:=()
def tw15815303254728429145:=()
end PySem.W.Fast
namespace L2
open PySem PySem.Spec PyProof.Rows
abbrev Key:=Sum Int Str
def Hu:Key→Value→Bool
 | .inl k,v=>Value.isInt k v
 | .inr x,v=>Value.isStrOf x v
def keyH (w:World):Key→Int
 | .inl k=>hashInt k
 | .inr x=>hashStr w x
theorem Bf:∀{k:Key} {v:Value},Hu k v=true→(∃i t,k=Sum.inl i∧v=Value.int i t)∨(∃x t,k=Sum.inr x∧v=Value.str x t)
 | .inl i,v,h=>by
   obtain ⟨t,e⟩:=Value.isInt_shape (k:=i) (v:=v) h
   exact .inl ⟨i,t,rfl,e⟩
 | .inr x,v,h=>by
   obtain ⟨t,e⟩:=Value.isStrOf_shape (x:=x) (v:=v) h
   exact .inr ⟨x,t,rfl,e⟩
theorem Mr (i:Int) (t:Tok):Hu (.inl i) (.int i t)=true:=by simp [Hu,Value.isInt]
theorem M9 (x:Str) (t:Tok):Hu (.inr x) (.str x t)=true:=by simp [Hu,Value.isStrOf]
theorem QA (a b:Int):decide ((Sum.inl a:Key)=Sum.inl b)=(a==b):=by
 by_cases e:a=b
 ·subst e;simp
 ·have h:¬(Sum.inl a:Key)=Sum.inl b:=fun q=>e (Sum.inl.inj q)
  rw [decide_eq_false h]
  exact (beq_eq_false_iff_ne.mpr e).symm
theorem Qw (a b:Str):decide ((Sum.inr a:Key)=Sum.inr b)=decide (a=b):=by
 by_cases e:a=b
 ·subst e;simp
 ·have h:¬(Sum.inr a:Key)=Sum.inr b:=fun q=>e (Sum.inr.inj q)
  rw [decide_eq_false h,decide_eq_false e]
theorem QE (a:Int) (b:Str):decide ((Sum.inl a:Key)=Sum.inr b)=false:=decide_eq_false (fun q=>nomatch q)
theorem Qv (a:Str) (b:Int):decide ((Sum.inr a:Key)=Sum.inl b)=false:=decide_eq_false (fun q=>nomatch q)
def BS (prog:Program) (w:World):PySem.KeyKind prog w Key where
 is:=Hu
 hash:=keyH w
 inj:=fun v a b ha hb=>by
  rcases Bf ha with ⟨i,t,rfl,rfl⟩ | ⟨x,t,rfl,rfl⟩
  ·rcases Bf hb with ⟨j,u,rfl,e⟩ | ⟨y,u,rfl,e⟩
   ·injection e with e1 _;rw [e1]
   ·exact nomatch e
  ·rcases Bf hb with ⟨j,u,rfl,e⟩ | ⟨y,u,rfl,e⟩
   ·exact nomatch e
   ·injection e with e1 _;rw [e1]
 byValue:=fun k v h=>by
  rcases Bf h with ⟨i,t,rfl,rfl⟩ | ⟨x,t,rfl,rfl⟩ <;> rfl
 pyHash:=fun hv h=>by
  rcases Bf hv with ⟨i,t,rfl,rfl⟩ | ⟨x,t,rfl,rfl⟩
  ·exact wpAny_pyHash_int h
  ·exact wpAny_pyHash_str h
 eqBool:=fun hu hv h=>by
  rcases Bf hu with ⟨i,t,rfl,rfl⟩ | ⟨x,t,rfl,rfl⟩
  ·rcases Bf hv with ⟨j,u,rfl,rfl⟩ | ⟨y,u,rfl,rfl⟩
   ·rw [QA] at h;exact wpAny_eqBool_int h
   ·rw [QE] at h;exact SeqAt.EqAt.int_str i t y u _ _ _ _ h
  ·rcases Bf hv with ⟨j,u,rfl,rfl⟩ | ⟨y,u,rfl,rfl⟩
   ·rw [Qv] at h;exact SeqAt.EqAt.str_int x t j u _ _ _ _ h
   ·rw [Qw] at h;exact wpAny_eqBool_str h
 «strs»:=fun k x t v h=>by
  rcases Bf h with ⟨i,u,rfl,e⟩ | ⟨y,u,rfl,e⟩
  ·exact nomatch e
  ·injection e with e1 _
   subst e1
   cases v <;> rfl
theorem Jg (prog:Program) (w:World) (i:Int) (t:Tok):(BS prog w).is (.inl i) (.int i t)=true:=Mr i t
theorem J7 (prog:Program) (w:World) (x:Str) (t:Tok):(BS prog w).is (.inr x) (.str x t)=true:=M9 x t
inductive V where
 | non | bl (b:Bool) | int (i:Int) | str (x:Str) | byt (b:Array UInt8) | flt (b:UInt64) | ref (a:Addr) | ty (n:String)
 deriving DecidableEq
def RelV:V→Value→Prop
 | .non,u=>u=Value.none
 | .bl b,u=>u=Value.bool b
 | .int i,u=>∃t,u=Value.int i t
 | .str x,u=>∃t,u=Value.str x t
 | .byt b,u=>∃t,u=Value.bytes b t
 | .flt b,u=>∃t,u=Value.float b t
 | .ref a,u=>u=Value.ref a
 | .ty n,u=>u=Value.type n
abbrev Vals:List V→List Value→Prop:=Paired RelV
theorem Vals.length {xs:List V} {us:List Value} (r:Vals xs us):xs.length=us.length:=Paired.length r
theorem Vals.get:∀{xs:List V} {us:List Value} {i:Nat} {x:V},Vals xs us→xs[i]?=some x→∃u,us[i]?=some u∧RelV x u
 | _,_,_,_,.nil,e=>by simp at e
 | _,_,0,_,.cons r _,e=>by simp at e;subst e;exact ⟨_,rfl,r⟩
 | _,_,i + 1,x,.cons _ t,e=>by
   obtain ⟨u,h1,h2⟩:=Vals.get (i:=i) (x:=x) t (by simpa using e)
   exact ⟨u,by simpa using h1,h2⟩
theorem Vals.set {x:V} {u:Value} (r:RelV x u):∀{xs:List V} {us:List Value} (i:Nat),Vals xs us→Vals (xs.set i x) (us.set i u)
 | _,_,_,.nil=>.nil
 | _,_,0,.cons _ t=>.cons r t
 | _,_,i + 1,.cons q t=>.cons q (Vals.set r i t)
theorem Vals.append:∀{xs ys:List V} {us ws:List Value},Vals xs us→Vals ys ws→Vals (xs++ys) (us++ws)
 | _,_,_,_,.nil,s=>s
 | _,_,_,_,.cons r t,s=>.cons r (Vals.append t s)
theorem Vals.take:∀{xs:List V} {us:List Value} (n:Nat),Vals xs us→Vals (xs.take n) (us.take n)
 | _,_,0,_=>.nil
 | _,_,_ + 1,.nil=>.nil
 | _,_,n + 1,.cons r t=>.cons r (Vals.take n t)
theorem Vals.drop:∀{xs:List V} {us:List Value} (n:Nat),Vals xs us→Vals (xs.drop n) (us.drop n)
 | _,_,0,r=>r
 | _,_,_ + 1,.nil=>.nil
 | _,_,n + 1,.cons _ t=>Vals.drop n t
def RelO:Option V→Option Value→Prop
 | some v,some u=>RelV v u
 | none,none=>True
 | _,_=>False
def KV {κ:Type}:List (κ×V)→List (κ×Value)→Prop:=Paired fun (p:κ×V) (q:κ×Value)=>p.1=q.1∧RelV p.2 q.2
def kV:Key→V
 | .inl i=>.int i
 | .inr x=>.str x
inductive HO where
 | lst (xs:List V)
 | tup (xs:List V)
 | dK (kvs:List (Key×V)) | dT (kvs:List (List Key×V))
 | set (S:Int→Bool) (n:Nat)
 | ins (C dx:Addr) (fs:List (Str×V))
 | own (x:Addr)
 | xd (fs:List (Str×V))
 | met (f x:Addr)
 | rng (lo hi:Int)
 | frz (o:Obj) (u:HO)
 | tbl (ps:Array Value)
 | ext (φ:Heap→Prop)
abbrev Hp:=Addr→Option HO
def upd (H:Hp) (a:Addr) (o:HO):Hp:=fun b=>if b=a then some o else H b
theorem Aw {H:Hp} {a:Addr} {o:HO}:upd H a o a=some o:=by unfold upd;rw [if_pos rfl]
theorem Au {H:Hp} {a b:Addr} {o:HO} (h:b≠a):upd H a o b=H b:=by unfold upd;rw [if_neg h]
theorem P7 {H:Hp} {a:Addr} {o u:HO}:upd (upd H a o) a u=upd H a u:=by
 funext b;unfold upd;split <;> rfl
theorem A4 {H:Hp} {a b:Addr} {o:HO} (h:H a=some o) (h':H b=none):a≠b:=by
 intro e;subst e;rw [h] at h';cases h'
section
variable (P:Program) (w:World)
def ObjOk (H:Hp) (h:Heap) (a:Addr):HO→Prop
 | .lst xs=>xs.length≤sizeLine∧∃(its:List Value) (n:Nat),Vals xs its∧h.get? a=some {cls:=.type "list",data:=.seq its.toArray n}
 | .tup xs=>xs.length≤sizeLine∧(∃its:List Value,Vals xs its∧IsTup h a its.toArray)∧∃o,h.get? a=some o∧o.dict=none
 | .dK kvs=>kvs.length≤sizeLine∧(a==sysModules)=false∧∃vs,KV kvs vs∧h.DictOf (BS P w) a vs
 | .dT kvs=>kvs.length≤sizeLine∧(a==sysModules)=false∧∃xs:List (List Key×Addr×Value),
   Paired (fun (p:List Key×V) (q:List Key×Addr×Value)=>p.1=q.1∧H q.2.1=some (.tup (p.1.map kV))∧RelV p.2 q.2.2) kvs xs∧
   ∃o es ep,h.get? a=some o∧o.ExactDict∧o.data=.dict es ep∧es.toList=xs.map (entryOfKey (tupleKind (BS P w)))∧(xs.map (·.1)).Nodup
 | .set S n=>h.SetOf (intKind P w) a S n
 | .ins C dx fs=>H dx=some (.own a)∧fs.length≤1000∧dx≠a∧h.get? a=some (PySem.W.instObj C dx)∧
   ∃mA,h.Ns1 dx mA∧(∀f,RelO (fs.lookup f) (mA f))∧PySem.Within mA (fs.map (·.1))
 | .own _=>∃o,h.get? a=some o
 | .xd fs=>∃mA,h.Ns1 a mA∧∀f,RelO (fs.lookup f) (mA f)
 | .rng lo hi=>∃t u v,h.get? a=some {cls:=.type "range",data:=.fields #[.int lo t,.int hi u,.int 1 v]}
 | .frz o u=>h.get? a=some o∧ObjOk H h a u
 | .tbl ps=>h.get? a=some {cls:=.none,data:=.fields ps}
 | .met f x=>h.get? a=some (PySem.W.methodObj (.ref f) (.ref x))
 | .ext φ=>φ h∧(∃o,h.get? a=some o)∧∀h1 h2:Heap,φ h1→(∀o,h1.get? a=some o→h2.get? a=some o)→φ h2
def HOk (H:Hp) (h:Heap):Prop:=∀a o,H a=some o→ObjOk P w H h a o
end
section
variable {P:Program} {w:World} {H H':Hp} {h h':Heap} {a:Addr} {o:HO}
theorem ObjOk.lt (x:ObjOk P w H h a o):a < h.objs.size:=by
 cases o with
 | lst xs=>obtain ⟨_,_,_,_,e⟩:=x;exact Heap.lt_size e
 | tup xs=>obtain ⟨_,⟨_,_,p⟩,_⟩:=x;exact p.lt
 | dK kvs=>obtain ⟨_,_,_,_,o,_,_,e,_⟩:=x;exact Heap.lt_size e
 | dT kvs=>obtain ⟨_,_,_,_,o,_,_,e,_⟩:=x;exact Heap.lt_size e
 | set S n=>obtain ⟨o,_,_,_,e,_⟩:=x;exact Heap.lt_size e
 | ins C dx fs=>obtain ⟨_,_,_,e,_⟩:=x;exact Heap.lt_size e
 | own y=>obtain ⟨_,e⟩:=x;exact Heap.lt_size e
 | xd fs=>obtain ⟨_,⟨_,_,_,e,_⟩,_⟩:=x;exact Heap.lt_size e
 | rng lo hi=>obtain ⟨_,_,_,e⟩:=x;exact Heap.lt_size e
 | frz ob u=>obtain ⟨e,_⟩:=x;exact Heap.lt_size e
 | tbl ps=>exact Heap.lt_size (show h.get? a=some _ from x)
 | met f y=>exact Heap.lt_size (show h.get? a=some _ from x)
 | ext φ=>obtain ⟨_,⟨_,e⟩,_⟩:=x;exact Heap.lt_size e
theorem Paired.mapP {α β:Type} {F G:α→β→Prop}:∀{l₁:List α} {l₂:List β},Paired F l₁ l₂→(∀a b,F a b→G a b)→Paired G l₁ l₂
 | _,_,.nil,_=>.nil
 | _,_,.cons r t,f=>.cons (f _ _ r) (Paired.mapP t f)
theorem ObjOk.stay (x:ObjOk P w H h a o) (k:∀b u,(b=a∨H b=some (.own a))→h.get? b=some u→h'.get? b=some u)
  (ho:∀b,H b=some (.own a)→H' b=some (.own a)) (ht:∀b xs,H b=some (.tup xs)→H' b=some (.tup xs)):ObjOk P w H' h' a o:=by
 induction o with
 | lst xs=>obtain ⟨z,its,n,r,e⟩:=x;exact ⟨z,its,n,r,k _ _ (.inl rfl) e⟩
 | tup xs=>obtain ⟨z,⟨its,r,ob,e,c⟩,od,e2,c2⟩:=x;exact ⟨z,⟨its,r,ob,k _ _ (.inl rfl) e,c⟩,od,k _ _ (.inl rfl) e2,c2⟩
 | dK kvs=>obtain ⟨z,y,vs,r,ob,es,ep,e,c⟩:=x;exact ⟨z,y,vs,r,ob,es,ep,k _ _ (.inl rfl) e,c⟩
 | dT kvs=>
   obtain ⟨z,y,xs,r,ob,es,ep,e,c⟩:=x
   exact ⟨z,y,xs,Paired.mapP r fun p q z=>⟨z.1,ht _ _ z.2.1,z.2.2⟩,ob,es,ep,k _ _ (.inl rfl) e,c⟩
 | set S n=>obtain ⟨ob,es,ep,t,e,c⟩:=x;exact ⟨ob,es,ep,t,k _ _ (.inl rfl) e,c⟩
 | ins C dx fs=>
   obtain ⟨d,z,ne,e,mA,⟨od,es,ep,e2,c⟩,r⟩:=x
   exact ⟨ho _ d,z,ne,k _ _ (.inl rfl) e,mA,⟨od,es,ep,k _ _ (.inr d) e2,c⟩,r⟩
 | own y=>obtain ⟨ob,e⟩:=x;exact ⟨ob,k _ _ (.inl rfl) e⟩
 | xd fs=>obtain ⟨mA,⟨od,es,ep,e,c⟩,r⟩:=x;exact ⟨mA,⟨od,es,ep,k _ _ (.inl rfl) e,c⟩,r⟩
 | rng lo hi=>obtain ⟨t,u,v,e⟩:=x;exact ⟨t,u,v,k _ _ (.inl rfl) e⟩
 | frz ob u ih=>obtain ⟨e,q⟩:=x;exact ⟨k _ _ (.inl rfl) e,ih q⟩
 | tbl ps=>
   have e:h.get? a=some {cls:=.none,data:=.fields ps}:=x
   show h'.get? a=some {cls:=.none,data:=.fields ps}
   exact k a _ (.inl rfl) e
 | met f y=>
   have e:h.get? a=some (PySem.W.methodObj (.ref f) (.ref y)):=x
   show h'.get? a=some (PySem.W.methodObj (.ref f) (.ref y))
   exact k a _ (.inl rfl) e
 | ext φ=>obtain ⟨p,⟨o,e⟩,st⟩:=x;exact ⟨st _ _ p fun o q=>k _ _ (.inl rfl) q,⟨o,k _ _ (.inl rfl) e⟩,st⟩
theorem HOk.lt (x:HOk P w H h) (e:H a=some o):a < h.objs.size:=(x a o e).lt
theorem HOk.fresh (x:HOk P w H h) (e:h.objs.size≤a):H a=none:=by
 cases q:H a with
 | none=>rfl
 | some u=>exact absurd (Nat.lt_of_lt_of_le (x.lt q) e) (Nat.lt_irrefl _)
theorem HOk.kept (x:HOk P w H h) (k:∀b u,h.get? b=some u→h'.get? b=some u):HOk P w H h':=fun a o e=>
 (x a o e).stay (fun b u _ q=>k b u q) (fun _ q=>q) fun _ _ q=>q
theorem HOk.laid (x:HOk P w H h) (k:∀b u,h.get? b=some u→h'.get? b=some u) (hp:h.objs.size≤a) (new:ObjOk P w (upd H a o) h' a o):HOk P w (upd H a o) h':=fun b u e=>by
 have hn:=x.fresh hp
 by_cases hb:b=a
 ·subst hb;rw [Aw] at e;cases e;exact new
 ·rw [Au hb] at e
  exact (x b u e).stay (fun c v _ q=>k c v q) (fun c q=>by rw [Au (A4 q hn)];exact q) fun c xs q=>by rw [Au (A4 q hn)];exact q
end
def Rd (H:Hp) (a:Addr) (u:HO):Prop:=H a=some u∨∃o,H a=some (.frz o u)
theorem Rd.ok {P:Program} {w:World} {H:Hp} {h:Heap} {a:Addr} {u:HO} (r:Rd H a u) (x:HOk P w H h):ObjOk P w H h a u:=by
 rcases r with r | ⟨o,r⟩
 ·exact x a u r
 ·obtain ⟨_,q⟩:=x a _ r
  exact q
def Mut:Option HO→Prop
 | some (.lst _)=>True
 | some (.dK _)=>True
 | some (.dT _)=>True
 | some (.set _ _)=>True
 | some (.ins _ _ _)=>True
 | some (.ext _)=>True
 | _=>False
section
variable {P:Program} {w:World} {H:Hp} {h h':Heap} {x e:Addr} {o':HO}
theorem HOk.write (ok:HOk P w H h) (mu:Mut (H x)) (he:e=x∨H e=some (.own x)) (k:∀b u,b≠e→h.get? b=some u→h'.get? b=some u) (heo:∃u,h'.get? e=some u)
  (new:ObjOk P w (upd H x o') h' x o'):HOk P w (upd H x o') h':=fun b u q=>by
 have nown:∀c y,H c=some (.own y)→c≠x:=fun c y r z=>by subst z;rw [r] at mu;exact mu
 have ntup:∀c xs,H c=some (.tup xs)→c≠x:=fun c xs r z=>by subst z;rw [r] at mu;exact mu
 by_cases hb:b=x
 ·subst hb;rw [Aw] at q;cases q;exact new
 ·rw [Au hb] at q
  by_cases hbe:b=e
  ·have q':H b=some (.own x):=by
    rcases he with z | z
    ·exact absurd (hbe.trans z) hb
    ·rw [hbe];exact z
   rw [q] at q';cases q'
   obtain ⟨v,hv⟩:=heo
   exact ⟨v,by rw [hbe];exact hv⟩
  ·refine (ok b u q).stay (fun c v hc r=>k c v ?_ r) (fun c r=>by rw [Au (nown c b r)];exact r) fun c xs r=>by rw [Au (ntup c xs r)];exact r
   rcases hc with rfl | hc
   ·exact hbe
   ·rintro rfl
    rcases he with z | z
    ·exact nown c b hc z
    ·rw [hc] at z;cases z;exact hb rfl
end
structure Un (fs ex:List Addr) (H H':Hp) (h h':Heap):Prop where
 keep:∀b o,h.get? b=some o→H b=none→b∉fs→b∉ex→h'.get? b=some o
 slot:∀b o,h.get? b=some o→H b=none→b∈fs→b∉ex→∃sl,h'.get? b=some {o with slots:=sl}
 free:∀b o,h.get? b=some o→H b=none→b∉ex→H' b=none
 there:∀b o,h.get? b=some o→b∉ex→∃o',h'.get? b=some o'
 tups:∀b xs,H b=some (.tup xs)→H' b=some (.tup xs)
 frzs:∀b o u,H b=some (.frz o u)→H' b=some (.frz o u)
 tbls:∀b ps,H b=some (.tbl ps)→∃more,H' b=some (.tbl (ps++more))
section
variable {fs fs' ex ex':List Addr} {H H1 H2:Hp} {h h1 h2 h':Heap} {a x e:Addr} {o:HO}
theorem Un.any (u:Un fs ex H H1 h h1) {b:Addr} {ob:Obj} (q:h.get? b=some ob) (n:H b=none) (hx:b∉ex):∃sl,h1.get? b=some {ob with slots:=sl}:=by
 by_cases hb:b∈fs
 ·exact u.slot b ob q n hb hx
 ·exact ⟨ob.slots,u.keep b ob q n hb hx⟩
theorem Un.kept (k:∀b u,h.get? b=some u→h'.get? b=some u):Un fs ex H H h h':=
 ⟨fun b ob q _ _ _=>k b ob q,fun b ob q _ _ _=>⟨ob.slots,k b ob q⟩,fun _ _ _ n _=>n,fun b ob q _=>⟨ob,k b ob q⟩,fun _ _ q=>q,fun _ _ _ q=>q,fun _ ps q=>⟨#[],by rw [q];simp⟩⟩
theorem Un.refl:Un fs ex H H h h:=Un.kept fun _ _ q=>q
theorem Un.laid (k:∀b u,h.get? b=some u→h'.get? b=some u) (hp:h.objs.size≤a) (hn:H a=none):Un fs ex H (upd H a o) h h' where
 keep:=fun b u q _ _ _=>k b u q
 slot:=fun b u q _ _ _=>⟨u.slots,k b u q⟩
 free:=fun b u q n _=>by rw [Au (Nat.ne_of_lt (Nat.lt_of_lt_of_le (Heap.lt_size q) hp))];exact n
 there:=fun b u q _=>⟨u,k b u q⟩
 tups:=fun b xs q=>by rw [Au (A4 q hn)];exact q
 frzs:=fun b u xs q=>by rw [Au (A4 q hn)];exact q
 tbls:=fun b ps q=>⟨#[],by rw [Au (A4 q hn),q];simp⟩
theorem Un.write (mu:Mut (H x)) (he:e=x∨H e=some (.own x)) (k:∀b u,b≠e→h.get? b=some u→h'.get? b=some u) (heo:∃u,h'.get? e=some u):Un fs ex H (upd H x o) h h':=by
 have hx:∀b,H b=none→b≠x:=fun b n z=>by subst z;rw [n] at mu;exact mu
 have hb:∀b,H b=none→b≠e:=fun b n z=>by
  subst z
  rcases he with r | r
  ·exact hx b n r
  ·rw [n] at r;cases r
 have hm:∀b u,H b=some u→¬Mut (some u)→b≠x:=fun b u q nm z=>by subst z;rw [q] at mu;exact nm mu
 refine ⟨fun b u q n _ _=>k b u (hb b n) q,fun b u q n _ _=>⟨u.slots,k b u (hb b n) q⟩,fun b u q n _=>by rw [Au (hx b n)];exact n,fun b u q _=>?_,
  fun b xs q=>by rw [Au (hm b _ q fun z=>z)];exact q,fun b u xs q=>by rw [Au (hm b _ q fun z=>z)];exact q,fun b ps q=>⟨#[],by rw [Au (hm b _ q fun z=>z),q];simp⟩⟩
 by_cases hbe:b=e
 ·subst hbe;exact heo
 ·exact ⟨u,k b u hbe q⟩
end
def trk (h:Heap) (H:Hp):List Addr:=(List.range h.objs.size).filter fun a=>(H a).isSome
def hidT (h:Heap) (H:Hp):Heap:=PySem.W.hideAll h (trk h H)
theorem MH (h:Heap) (H:Hp):(hidT h H).objs.size=h.objs.size:=PySem.W.hideAll_size _ _
theorem Oq {h:Heap} {H:Hp} {b:Addr} {o:Obj} (e:h.get? b=some o) (n:H b=none):(hidT h H).get? b=some o:=
 PySem.W.hideAll_get _ e fun hm=>by
  have q:(H b).isSome=true:=(List.mem_filter.mp hm).2
  rw [n] at q;simp at q
theorem P6 {h:Heap} {H:Hp} {b:Addr} {o:Obj} (e:(hidT h H).get? b=some o):h.get? b=some o∧H b=none:=by
 have e':h.get? b=some o:=PySem.W.of_hideAll (trk h H) e
 refine ⟨e',?_⟩
 cases q:H b with
 | none=>rfl
 | some x=>
   have hm:b∈trk h H:=List.mem_filter.mpr ⟨List.mem_range.mpr (Heap.lt_size e'),by simp [q]⟩
   have z:(hidT h H).get? b=none:=PySem.W.hideAll_none (trk h H) hm
   rw [z] at e;cases e
def Pw (g h:Heap) (L:Addr):List (Addr×Obj):=(List.range h.objs.size).filterMap fun a=>if a=L∨(g.get? a).isSome=true then none else (h.get? a).map fun o=>(a,o)
def rest (g h:Heap) (L d:Addr):List (Addr×Obj):=(Pw g h L).filter fun p=>decide (p.1≠d)
structure Mod (K:PySem.W.Frag) (mg:Str→Option Value) (base:Heap):Prop where
 kin:K.In base
 glob:base.Ns mainGlobals mg
 blt:∃mb,base.Ns builtinsNs mb∧∀x:Str,x≠"__name__"→mb x=bootBuiltins x
 nolimit:base.NoLimit
structure Cx where
 prog:Program
 w:World
 K:PySem.W.Frag
 mg:Str→Option Value
 base:Heap
 A:Around
 N:List Str
 s₀:Shared
 H₀:Hp
 env:Env
 outer:List Env
 stack:List Env
 ex:List Addr
 fn:Str→Bool
 calm:Bool
 pn:List (Addr×Obj)
 xe:Value→Shared→Prop
def frs (l:List Env):List Addr:=l.filterMap (·.frame)
abbrev Cx.fs (X:Cx):List Addr:=frs X.outer
def Vis (sc:Scope) (x:Str):Prop:=sc.names.lookup x=some .local∨sc.names.lookup x=some .cell∨sc.names.lookup x=some .free
def Loc (sc:Scope) (x:Str):Prop:=sc.names.lookup x=some .local∨sc.names.lookup x=some .cell
def Look (env:Env) (h:Heap) (m:Str→Option Value) (x:Str) (u:Value):Prop:=
 (env.kindOf x=some .local∧m x=some u)∨((env.kindOf x=some .cell∨env.kindOf x=some .free)∧∃c,env.cells.lookup x=some c∧h.IsCell c (some u))
structure Cx.Ok (X:Cx):Prop where
 mod:Mod X.K X.mg X.base
 kind:X.env.scope.kind=.function
 glob:X.env.globals=mainGlobals
 blt:X.env.builtins=builtinsNs
 above:X.s₀.heap.objs.size≤X.env.locals
 inj:∀x y c,X.env.cells.lookup x=some c→X.env.cells.lookup y=some c→x=y
 has:∀x,(X.env.kindOf x=some .cell∨X.env.kindOf x=some .free)→∃c,X.env.cells.lookup x=some c
 cab:∀x c,X.fn x=true→X.env.cells.lookup x=some c→X.s₀.heap.objs.size≤c
 hd:X.calm=true→X.A.handled=none
 frames:X.A.frames=some X.stack
 stk:X.stack=X.outer∨(X.stack=X.env::X.outer∧X.env.frame=some X.env.locals)
 exf:∀b∈X.ex,b≠X.env.locals∧∀x c,X.env.cells.lookup x=some c→c≠b
 bs:∀b o,X.base.get? b=some o→X.s₀.heap.get? b=some o∧X.H₀ b=none
 bsz:X.base.objs.size≤X.s₀.heap.objs.size
 noex:∀b o,X.base.get? b=some o→b∉X.ex
 exfs:∀b∈X.ex,b∉X.fs
 funs:X.s₀.heap.FunFrames X.base X.outer
 frf:∀b∈X.fs,X.H₀ b=none
structure Inv (X:Cx) (pins:List (Addr×Obj)) (σ:List (Option V)) (H:Hp) (s:Shared):Prop where
 ok:X.Ok
 os:s.os=X.s₀.os
 bare:AllBare s.gens
 base:Un X.fs X.ex X.H₀ H X.s₀.heap s.heap
 loc:∃m,s.heap.Ns X.env.locals m∧∀(i:Nat) (x:Str) (v:V),X.N[i]?=some x→σ[i]?=some (some v)→Vis X.env.scope x→∃u,RelV v u∧Look X.env s.heap m x u
 cell:∀x c,X.env.cells.lookup x=some c→∃v,s.heap.IsCell c v
 free:H X.env.locals=none
 freeC:∀x c,X.env.cells.lookup x=some c→H c=none
 pin:∀p∈X.pn++pins,s.heap.get? p.1=some p.2∧H p.1=none∧p.1≠X.env.locals∧p.1∉X.fs∧∀v,p.2.data≠.cell v
 hok:HOk X.prog X.w H s.heap
 len:σ.length=X.N.length
section
variable {X:Cx} {pins:List (Addr×Obj)} {σ:List (Option V)} {H H':Hp} {s:Shared} {h':Heap}
theorem Cx.Ok.nofr (ok:X.Ok) {b:Addr} {o:Obj} (e:X.base.get? b=some o):b∉X.fs:=fun hb=>by
 have:=(ok.funs.mem hb).1
 rw [e] at this;cases this
theorem Inv.bs (I:Inv X pins σ H s):∀b o,X.base.get? b=some o→s.heap.get? b=some o∧H b=none:=fun b o e=>
 ⟨I.base.keep b o (I.ok.bs b o e).1 (I.ok.bs b o e).2 (I.ok.nofr e) (I.ok.noex b o e),I.base.free b o (I.ok.bs b o e).1 (I.ok.bs b o e).2 (I.ok.noex b o e)⟩
theorem Inv.bk (I:Inv X pins σ H s):∀b o,X.base.get? b=some o→s.heap.get? b=some o:=fun b o e=>(I.bs b o e).1
theorem Inv.mod (I:Inv X pins σ H s):Mod X.K X.mg X.base:=I.ok.mod
theorem Inv.kIn (I:Inv X pins σ H s):X.K.In s.heap:=I.ok.mod.kin.keeps I.bk
theorem Inv.lt (I:Inv X pins σ H s):X.env.locals < s.heap.objs.size:=let ⟨_,hn,_⟩:=I.loc;hn.lt
theorem Inv.sz (I:Inv X pins σ H s):X.s₀.heap.objs.size≤s.heap.objs.size:=Nat.le_trans I.ok.above (Nat.le_of_lt I.lt)
theorem Inv.nofs (I:Inv X pins σ H s) {a:Addr} (h:s.heap.objs.size≤a):a∉X.fs:=fun hb=>by
 obtain ⟨_,o,ho,_⟩:=I.ok.funs.mem hb
 exact absurd (Nat.lt_of_lt_of_le (Heap.lt_size ho) (Nat.le_trans I.sz h)) (Nat.lt_irrefl _)
theorem Inv.cne (I:Inv X pins σ H s):∀x c,X.env.cells.lookup x=some c→c≠X.env.locals:=fun x c e z=>by
 obtain ⟨v,o,ho,hd⟩:=I.cell x c e
 obtain ⟨m,⟨o',es,ep,ho',hd',_⟩,_⟩:=I.loc
 rw [z,ho'] at ho;cases ho;rw [hd'] at hd;cases hd
theorem Inv.funs (I:Inv X pins σ H s):s.heap.FunFrames X.base X.outer:=by
 have all:∀(l:List Env),(∀b∈frs l,b∈X.fs)→X.s₀.heap.FunFrames X.base l→s.heap.FunFrames X.base l:=by
  intro l
  induction l with
  | nil=>intro _ _;trivial
  | cons env r ih=>
    intro hs hl
    obtain ⟨hk,⟨L,o,hf,hn,ho,hd⟩,hr⟩:=hl
    have hL:L∈X.fs:=hs L (by unfold frs;rw [List.filterMap_cons,hf];exact List.mem_cons_self)
    obtain ⟨sl,e⟩:=I.base.slot L o ho (I.ok.frf L hL) hL fun z=>I.ok.exfs L z hL
    exact ⟨hk,⟨L,_,hf,hn,e,hd⟩,ih (fun b hb=>hs b (by unfold frs;rw [List.filterMap_cons,hf];exact List.mem_cons_of_mem _ hb)) hr⟩
 exact all X.outer (fun _ hb=>hb) I.ok.funs
theorem Inv.stack (I:Inv X pins σ H s):s.heap.FunFrames X.base X.stack:=by
 rcases I.ok.stk with e | ⟨e,hf⟩
 ·rw [e];exact I.funs
 ·rw [e]
  obtain ⟨m,hn,_⟩:=I.loc
  refine .cons (by rw [I.ok.kind];decide) hf hn ?_ I.funs
  exact Heap.get?_none_of_le (Nat.le_trans I.ok.bsz I.ok.above)
theorem Inv.stkSub (I:Inv X pins σ H s):∀b∈frs X.stack,b∈X.env.locals::X.fs:=fun b hb=>by
 rcases I.ok.stk with e | ⟨e,hf⟩
 ·rw [e] at hb;exact List.mem_cons_of_mem _ hb
 ·rw [e] at hb
  unfold frs at hb
  rw [List.filterMap_cons,hf] at hb
  exact hb
theorem Inv.stkFree (I:Inv X pins σ H s):∀b∈frs X.stack,H b=none:=fun b hb=>by
 rcases List.mem_cons.mp (I.stkSub b hb) with e | hb
 ·rw [e];exact I.free
 ·obtain ⟨_,o,ho,_⟩:=I.ok.funs.mem hb
  exact I.base.free b o ho (I.ok.frf b hb) fun z=>I.ok.exfs b z hb
theorem Inv.step {g':Array GenState} {t':Nat} {d':Drawn} {ch:List Addr} (I:Inv X pins σ H s)
  (hch:∀b∈ch,(b∈X.ex∨X.s₀.heap.objs.size≤b)∧b≠X.env.locals∧(∀x c,X.env.cells.lookup x=some c→c≠b)∧∀p∈X.pn++pins,p.1≠b)
  (keep:∀b o,b≠X.env.locals→b∉X.fs→b∉ch→s.heap.get? b=some o→H b=none→h'.get? b=some o)
  (slot:∀b o,b≠X.env.locals→b∈X.fs→b∉ch→s.heap.get? b=some o→H b=none→∃sl,h'.get? b=some {o with slots:=sl}) (free:∀b o,b∉ch→s.heap.get? b=some o→H b=none→H' b=none)
  (there:∀b o,b∉ch→s.heap.get? b=some o→∃o',h'.get? b=some o')
  (tups:∀b xs,H b=some (.tup xs)→H' b=some (.tup xs)) (frzs:∀b o u,H b=some (.frz o u)→H' b=some (.frz o u)) (tbls:∀b ps,H b=some (.tbl ps)→∃more,H' b=some (.tbl (ps++more)))
  (ns:∀m,s.heap.Ns X.env.locals m→h'.Ns X.env.locals m) (hok:HOk X.prog X.w H' h') (hg:AllBare g'):
  Inv X pins σ H' {s with heap:=h',gens:=g',drawn:=d',toks:=t'}:=by
 have neL:∀b o,X.s₀.heap.get? b=some o→b≠X.env.locals:=fun b o e=>Nat.ne_of_lt (Nat.lt_of_lt_of_le (Heap.lt_size e) I.ok.above)
 have neC:∀b o,X.s₀.heap.get? b=some o→b∉X.ex→b∉ch:=fun b o e hx hb=>by
  rcases (hch b hb).1 with z | z
  ·exact hx z
  ·exact absurd (Nat.lt_of_lt_of_le (Heap.lt_size e) z) (Nat.lt_irrefl _)
 have cellK:∀x c,X.env.cells.lookup x=some c→∀v,s.heap.IsCell c v→h'.IsCell c v:=fun x c e v ⟨o,ho,hd⟩=>by
  have nch:c∉ch:=fun z=>(hch c z).2.2.1 x c e rfl
  by_cases hc:c∈X.fs
  ·obtain ⟨sl,q⟩:=slot c o (I.cne x c e) hc nch ho (I.freeC x c e)
   exact ⟨_,q,hd⟩
  ·exact ⟨o,keep c o (I.cne x c e) hc nch ho (I.freeC x c e),hd⟩
 refine ⟨I.ok,I.os,hg,⟨fun b o e n hb hx=>?_,fun b o e n hb hx=>?_,fun b o e n hx=>?_,fun b o e hx=>?_,fun b xs e=>tups b xs (I.base.tups b xs e),fun b o xs e=>frzs b o xs (I.base.frzs b o xs e),fun b ps e=>?_⟩,?_,fun x c e=>?_,?_,fun x c e=>?_,fun p hp=>?_,hok,I.len⟩
 ·exact keep b o (neL b o e) hb (neC b o e hx) (I.base.keep b o e n hb hx) (I.base.free b o e n hx)
 ·obtain ⟨sl,e1⟩:=I.base.slot b o e n hb hx
  obtain ⟨sl',e2⟩:=slot b _ (neL b o e) hb (neC b o e hx) e1 (I.base.free b o e n hx)
  exact ⟨sl',e2⟩
 ·obtain ⟨o',e1⟩:=I.base.there b o e hx
  exact free b o' (neC b o e hx) e1 (I.base.free b o e n hx)
 ·obtain ⟨o',e1⟩:=I.base.there b o e hx
  exact there b o' (neC b o e hx) e1
 ·obtain ⟨m1,e1⟩:=I.base.tbls b ps e
  obtain ⟨m2,e2⟩:=tbls b _ e1
  exact ⟨m1++m2,by rw [e2,Array.append_assoc]⟩
 ·obtain ⟨m,hn,hl⟩:=I.loc
  refine ⟨m,ns m hn,fun i x v e1 e2 e3=>?_⟩
  obtain ⟨u,r,l⟩:=hl i x v e1 e2 e3
  refine ⟨u,r,?_⟩
  rcases l with l | ⟨k,c,e,z⟩
  ·exact .inl l
  ·exact .inr ⟨k,c,e,cellK x c e _ z⟩
 ·obtain ⟨v,z⟩:=I.cell x c e
  exact ⟨v,cellK x c e v z⟩
 ·obtain ⟨m,⟨o,_,_,ho,_⟩,_⟩:=I.loc
  exact free _ o (fun z=>(hch _ z).2.1 rfl) ho I.free
 ·obtain ⟨v,o,ho,hd⟩:=I.cell x c e
  exact free c o (fun z=>(hch c z).2.2.1 x c e rfl) ho (I.freeC x c e)
 ·obtain ⟨e,n,ne,nf,d⟩:=I.pin p hp
  have nch:p.1∉ch:=fun z=>(hch p.1 z).2.2.2 p hp rfl
  exact ⟨keep p.1 p.2 ne nf nch e n,free p.1 p.2 nch e n,ne,nf,d⟩
theorem Inv.un {t':Nat} (I:Inv X pins σ H s) (u:Un X.fs [] H H' s.heap h') (hok:HOk X.prog X.w H' h'):Inv X pins σ H' {s with heap:=h',toks:=t'}:=by
 obtain ⟨m,⟨o,es,ep,ho,r⟩,_⟩:=id I.loc
 obtain ⟨sl,hL⟩:=u.any ho I.free (by simp)
 exact I.step (g':=s.gens) (d':=s.drawn) (ch:=[]) (fun _ z=>nomatch z) (fun b o _ hb _ e n=>u.keep b o e n hb (by simp)) (fun b o _ hb _ e n=>u.slot b o e n hb (by simp)) (fun b o _ e n=>u.free b o e n (by simp)) (fun b o _ e=>u.there b o e (by simp)) u.tups u.frzs u.tbls (fun m' hm=>by
  obtain ⟨o',es',ep',ho',r'⟩:=hm
  rw [ho] at ho';cases ho'
  exact ⟨_,es',ep',hL,r'⟩) hok I.bare
theorem Inv.call {g':Array GenState} {t':Nat} {d':Drawn} {ch:List Addr} (I:Inv X pins σ H s) (u:Un (frs X.stack) ch H H' s.heap h') (hok:HOk X.prog X.w H' h') (hg:AllBare g')
  (hch:∀b∈ch,(b∈X.ex∨X.s₀.heap.objs.size≤b)∧b≠X.env.locals∧(∀x c,X.env.cells.lookup x=some c→c≠b)∧∀p∈X.pn++pins,p.1≠b):
  Inv X pins σ H' {s with heap:=h',gens:=g',drawn:=d',toks:=t'}:=by
 obtain ⟨m,⟨o,es,ep,ho,r⟩,_⟩:=id I.loc
 obtain ⟨sl,hL⟩:=u.any ho I.free fun z=>(hch _ z).2.1 rfl
 exact I.step (ch:=ch) hch (fun b o hL hb hc e n=>u.keep b o e n (fun z=>(List.mem_cons.mp (I.stkSub b z)).elim hL hb) hc) (fun b o _ _ hc e n=>u.any e n hc) (fun b o hc e n=>u.free b o e n hc) (fun b o hc e=>u.there b o e hc) u.tups u.frzs u.tbls (fun m' hm=>by
  obtain ⟨o',es',ep',ho',r'⟩:=hm
  rw [ho] at ho';cases ho'
  exact ⟨_,es',ep',hL,r'⟩) hok hg
theorem Inv.turned {t':Nat} {it:Addr} (I:Inv X pins σ H s) (k:∀b o,b≠it→s.heap.get? b=some o→h'.get? b=some o) (hn:H it=none) (hL:it≠X.env.locals)
  (h1:it∈X.ex∨X.s₀.heap.objs.size≤it) (h2:∀x c,X.env.cells.lookup x=some c→c≠it) (h3:∀p∈X.pn++pins,p.1≠it):Inv X pins σ H {s with heap:=h',toks:=t'}:=by
 have nit:∀b u,H b=some u→b≠it:=fun b u e z=>by rw [z,hn] at e;cases e
 refine I.step (g':=s.gens) (d':=s.drawn) (ch:=[it]) (fun b hb=>?_) (fun b o _ _ hc e _=>k b o (fun z=>hc (by simp [z])) e) (fun b o _ _ hc e _=>⟨o.slots,k b o (fun z=>hc (by simp [z])) e⟩) (fun _ _ _ _ n=>n)
  (fun b o hc e=>⟨o,k b o (fun z=>hc (by simp [z])) e⟩) (fun _ _ e=>e) (fun _ _ _ e=>e) (fun b ps e=>⟨#[],by rw [e];simp⟩) (fun m hm=>?_) (fun b u e=>?_) I.bare
 ·have e:b=it:=by simpa using hb
  subst e
  exact ⟨h1,hL,h2,h3⟩
 ·obtain ⟨o,es,ep,ho,r⟩:=hm
  exact ⟨o,es,ep,k _ o (Ne.symm hL) ho,r⟩
 ·refine (I.hok b u e).stay (fun c v hc q=>k c v ?_ q) (fun _ q=>q) fun _ _ q=>q
  rcases hc with z | z
  ·rw [z];exact nit b u e
  ·exact nit c _ z
theorem Inv.tok (I:Inv X pins σ H s) (t:Nat):Inv X pins σ H {s with toks:=t}:=I.un (h':=s.heap) (t':=t) Un.refl I.hok
theorem Inv.kept {t':Nat} (I:Inv X pins σ H s) (k:∀b u,s.heap.get? b=some u→h'.get? b=some u):Inv X pins σ H {s with heap:=h',toks:=t'}:=I.un (Un.kept k) (I.hok.kept k)
theorem Inv.laid {a:Addr} {o:HO} {t':Nat} (I:Inv X pins σ H s) (k:∀b u,s.heap.get? b=some u→h'.get? b=some u) (hp:s.heap.objs.size≤a) (new:ObjOk X.prog X.w (upd H a o) h' a o):
  Inv X pins σ (upd H a o) {s with heap:=h',toks:=t'}:=I.un (Un.laid k hp (I.hok.fresh hp)) (I.hok.laid k hp new)
theorem Inv.write {x e:Addr} {o:HO} {t':Nat} (I:Inv X pins σ H s) (mu:Mut (H x)) (he:e=x∨H e=some (.own x)) (k:∀b u,b≠e→s.heap.get? b=some u→h'.get? b=some u) (heo:∃u,h'.get? e=some u)
  (new:ObjOk X.prog X.w (upd H x o) h' x o):Inv X pins σ (upd H x o) {s with heap:=h',toks:=t'}:=I.un (Un.write mu he k heo) (I.hok.write mu he k heo new)
theorem Inv.weak {σ':List (Option V)} (I:Inv X pins σ H s) (hl:σ'.length=σ.length) (w:∀(i:Nat) v,σ'[i]?=some (some v)→σ[i]?=some (some v)):Inv X pins σ' H s:=
 ⟨I.ok,I.os,I.bare,I.base,let ⟨m,hn,hl'⟩:=I.loc;⟨m,hn,fun i x v e1 e2 e3=>hl' i x v e1 (w i v e2) e3⟩,I.cell,I.free,I.freeC,I.pin,I.hok,hl.trans I.len⟩
theorem Inv.pins_of {pins':List (Addr×Obj)} (I:Inv X pins σ H s) (h:∀p∈pins',s.heap.get? p.1=some p.2∧H p.1=none∧p.1≠X.env.locals∧p.1∉X.fs∧∀v,p.2.data≠.cell v):Inv X pins' σ H s:=
 ⟨I.ok,I.os,I.bare,I.base,I.loc,I.cell,I.free,I.freeC,fun p hp=>(List.mem_append.mp hp).elim (fun z=>I.pin p (List.mem_append_left _ z)) (h p),I.hok,I.len⟩
theorem JN {N:List Str} (hN:N.Nodup) {i j:Nat} {x:Str} (a:N[i]?=some x) (b:N[j]?=some x):i=j:=by
 obtain ⟨h1,e1⟩:=List.getElem?_eq_some_iff.mp a
 obtain ⟨h2,e2⟩:=List.getElem?_eq_some_iff.mp b
 exact (List.getElem_inj hN).mp (e1.trans e2.symm)
theorem M8 {M:Model} {A:Around} {E:Value→Shared→Prop} {i:Nat} {x:Str} {v:V} {u:Value} {Q:Unit→Shared→Prop} (I:Inv X pins σ H s) (hN:X.N.Nodup) (hi:X.N[i]?=some x) (hx:Loc X.env.scope x) (r:RelV v u)
  (h:∀s',Inv X pins (σ.set i (some v)) H s'→(∃a,Heap.SameBut a s.heap s'.heap∧(a=X.env.locals∨X.env.cells.lookup x=some a))→Q () s') (hf:X.fn x=true∨X.env.scope.names.lookup x=some .local:=by first | exact .inl rfl | exact .inr rfl | assumption):wpAny M A (storeName X.env x u) Q E s:=by
 obtain ⟨m,hn,hl⟩:=id I.loc
 have hcls:(X.env.scope.kind==.class || (X.env.scope.kind==.module && X.env.locals != X.env.globals))=false:=by rw [I.ok.kind];rfl
 have hiσ:i < σ.length:=by rw [I.len];exact (List.getElem?_eq_some_iff.mp hi).1
 have cne:=I.cne
 have tracked:∀{a:Addr} {h':Heap},(∃o,s.heap.get? a=some o∧H a=none)→Heap.SameBut a s.heap h'→HOk X.prog X.w H h':=fun {a h'} ha hs b ob e=>by
  obtain ⟨_,_,hfree⟩:=ha
  refine (I.hok b ob e).stay (fun c w' hc q=>(hs.2 c ?_).trans q) (fun _ q=>q) fun _ _ q=>q
  rintro rfl
  rcases hc with rfl | hc
  ·rw [hfree] at e;cases e
  ·rw [hfree] at hc;cases hc
 rcases hx with hk | hk
 ·refine wpAny_storeName_local hk hn (fun h' hn' hs=>?_) hcls
  obtain ⟨oL,_,_,hoL,_⟩:=id hn
  refine h _ ⟨I.ok,I.os,I.bare,⟨fun b o e n hb hx=>?_,fun b o e n hb hx=>?_,I.base.free,fun b o e hx=>?_,I.base.tups,I.base.frzs,I.base.tbls⟩,⟨_,hn',fun j y v' e1 e2 e3=>?_⟩,fun y c e=>?_,I.free,I.freeC,fun p hp=>?_,tracked ⟨oL,hoL,I.free⟩ hs,by simpa using I.len⟩ ⟨_,hs,.inl rfl⟩
  ·exact (hs.2 b (Nat.ne_of_lt (Nat.lt_of_lt_of_le (Heap.lt_size e) I.ok.above))).trans (I.base.keep b o e n hb hx)
  ·obtain ⟨sl,e1⟩:=I.base.slot b o e n hb hx
   exact ⟨sl,(hs.2 b (Nat.ne_of_lt (Nat.lt_of_lt_of_le (Heap.lt_size e) I.ok.above))).trans e1⟩
  ·obtain ⟨o',e1⟩:=I.base.there b o e hx
   exact ⟨o',(hs.2 b (Nat.ne_of_lt (Nat.lt_of_lt_of_le (Heap.lt_size e) I.ok.above))).trans e1⟩
  ·by_cases hj:j=i
   ·subst hj
    rw [hi] at e1;cases e1
    rw [List.getElem?_set_self hiσ] at e2
    cases e2
    exact ⟨u,r,.inl ⟨hk,by simp⟩⟩
   ·rw [List.getElem?_set_ne (Ne.symm hj)] at e2
    obtain ⟨u',r',q⟩:=hl j y v' e1 e2 e3
    refine ⟨u',r',?_⟩
    rcases q with ⟨k,e⟩ | ⟨k,c,e,z⟩
    ·refine .inl ⟨k,?_⟩
     have:y≠x:=fun e=>hj (JN hN e1 (e ▸ hi))
     simp [this,e]
    ·exact .inr ⟨k,c,e,z.sameBut hs (cne y c e)⟩
  ·obtain ⟨w',z⟩:=I.cell y c e
   exact ⟨w',z.sameBut hs (cne y c e)⟩
  ·obtain ⟨e,n,ne,nf,d⟩:=I.pin p hp
   exact ⟨(hs.2 p.1 ne).trans e,n,ne,nf,d⟩
 ·have hfn:X.fn x=true:=by
   rcases hf with z | z
   ·exact z
   ·rw [z] at hk;cases hk
  obtain ⟨c,hc⟩:=I.ok.has x (.inl hk)
  obtain ⟨w',z⟩:=I.cell x c hc
  refine wpAny_storeName_cell I.ok.kind hk hc z (fun h' hc' hs=>?_)
  obtain ⟨oc,hoc,hocd⟩:=id z
  refine h {s with heap:=h'} ⟨I.ok,I.os,I.bare,⟨fun b o e n hb hx=>?_,fun b o e n hb hx=>?_,I.base.free,fun b o e hx=>?_,I.base.tups,I.base.frzs,I.base.tbls⟩,⟨m,hn.sameBut hs (Ne.symm (cne x c hc)),fun j y v' e1 e2 e3=>?_⟩,fun y c' e=>?_,I.free,I.freeC,fun p hp=>?_,tracked ⟨oc,hoc,I.freeC x c hc⟩ hs,by simpa using I.len⟩ ⟨c,hs,.inr hc⟩
  ·exact (hs.2 b (Nat.ne_of_lt (Nat.lt_of_lt_of_le (Heap.lt_size e) (I.ok.cab x c hfn hc)))).trans (I.base.keep b o e n hb hx)
  ·obtain ⟨sl,e1⟩:=I.base.slot b o e n hb hx
   exact ⟨sl,(hs.2 b (Nat.ne_of_lt (Nat.lt_of_lt_of_le (Heap.lt_size e) (I.ok.cab x c hfn hc)))).trans e1⟩
  ·obtain ⟨o',e1⟩:=I.base.there b o e hx
   exact ⟨o',(hs.2 b (Nat.ne_of_lt (Nat.lt_of_lt_of_le (Heap.lt_size e) (I.ok.cab x c hfn hc)))).trans e1⟩
  ·by_cases hj:j=i
   ·subst hj
    rw [hi] at e1;cases e1
    rw [List.getElem?_set_self hiσ] at e2
    cases e2
    exact ⟨u,r,.inr ⟨.inl hk,c,hc,hc'⟩⟩
   ·rw [List.getElem?_set_ne (Ne.symm hj)] at e2
    obtain ⟨u',r',q⟩:=hl j y v' e1 e2 e3
    refine ⟨u',r',?_⟩
    rcases q with q | ⟨k,c',e,z'⟩
    ·exact .inl q
    ·refine .inr ⟨k,c',e,z'.sameBut hs ?_⟩
     rintro rfl
     exact hj (JN hN e1 (I.ok.inj _ _ _ e hc ▸ hi))
  ·by_cases hcc:c'=c
   ·subst hcc;exact ⟨_,hc'⟩
   ·obtain ⟨w2,z2⟩:=I.cell y c' e
    exact ⟨w2,z2.sameBut hs hcc⟩
  ·obtain ⟨e,n,ne,nf,d⟩:=I.pin p hp
   refine ⟨(hs.2 p.1 ?_).trans e,n,ne,nf,d⟩
   intro q
   rw [q,hoc] at e
   have q':oc=p.2:=Option.some.inj e
   exact d w' (by rw [←q'];exact hocd)
theorem GL {M:Model} {A:Around} {E:Value→Shared→Prop} {i:Nat} {x:Str} {v:V} {u:Value} {Q:Unit→Shared→Prop} (I:Inv X pins σ H s) (hN:X.N.Nodup) (hi:X.N[i]?=some x) (hx:Loc X.env.scope x) (r:RelV v u)
  (h:∀s',Inv X pins (σ.set i (some v)) H s'→Q () s') (hf:X.fn x=true∨X.env.scope.names.lookup x=some .local:=by first | exact .inl rfl | exact .inr rfl | assumption):wpAny M A (storeName X.env x u) Q E s:=
 M8 I hN hi hx r (fun s' I' _=>h s' I') hf
theorem Inv.call' {s':Shared} {ch:List Addr} (I:Inv X pins σ H s) (ho:s'.os=s.os) (u:Un (frs X.stack) ch H H' s.heap s'.heap) (hok:HOk X.prog X.w H' s'.heap) (hg:AllBare s'.gens)
  (hch:∀b∈ch,(b∈X.ex∨X.s₀.heap.objs.size≤b)∧b≠X.env.locals∧(∀x c,X.env.cells.lookup x=some c→c≠b)∧∀p∈X.pn++pins,p.1≠b):Inv X pins σ H' s':=by
 obtain ⟨h',g',d',t',o'⟩:=s'
 have e:o'=s.os:=ho
 subst e
 exact I.call (g':=g') (t':=t') (d':=d') u hok hg hch
end
abbrev XK:=Value→Option Addr→Hp→Prop
abbrev St:=List (Option V)
abbrev VK:=V→Hp→Prop
abbrev TE:=St→Hp→VK→Prop
abbrev TT:=St→Hp→(Bool→Hp→Prop)→Prop
abbrev TA:=St→Hp→(List V→Hp→Prop)→Prop
structure Ends where
 nx:St→Hp→Prop
 rt:VK
 bk:St→Hp→Prop:=fun _ _=>False
 ct:St→Hp→Prop:=fun _ _=>False
abbrev TS:=Ends→St→Hp→Prop
def EP (X:Cx) (pins:List (Addr×Obj)) (σ:St) (Q:VK) (u:Value) (s':Shared):Prop:=∃v H',Inv X pins σ H' s'∧RelV v u∧Q v H'
def TP (X:Cx) (pins:List (Addr×Obj)) (σ:St) (Q:Bool→Hp→Prop) (b:Bool) (s':Shared):Prop:=∃H',Inv X pins σ H' s'∧Q b H'
def AP (X:Cx) (pins:List (Addr×Obj)) (σ:St) (Q:List V→Hp→Prop) (us:List Value) (s':Shared):Prop:=∃vs H',Inv X pins σ H' s'∧Vals vs us∧Q vs H'
def SP (X:Cx) (pins:List (Addr×Obj)) (D:Ends) (f:Flow) (s':Shared):Prop:=
 match f with
 | .next=>∃σ' H',Inv X pins σ' H' s'∧D.nx σ' H'
 | .brk=>∃σ' H',Inv X pins σ' H' s'∧D.bk σ' H'
 | .cont=>∃σ' H',Inv X pins σ' H' s'∧D.ct σ' H'
 | .ret u=>∃v σ' H',Inv X pins σ' H' s'∧RelV v u∧D.rt v H'
def PE (X:Cx) (e:Expr) (t:TE):Prop:=
 ∀(pins:List (Addr×Obj)) (s:Shared) (σ:St) (H:Hp) (Q:VK),Inv X pins σ H s→t σ H Q→wpAny (model X.prog X.w) X.A (eval e X.env) (EP X pins σ Q) X.xe s
def PT (X:Cx) (e:Expr) (t:TT):Prop:=
 ∀(pins:List (Addr×Obj)) (s:Shared) (σ:St) (H:Hp) (Q:Bool→Hp→Prop),Inv X pins σ H s→t σ H Q→wpAny (model X.prog X.w) X.A (isTrue e X.env (eval e X.env)) (TP X pins σ Q) X.xe s
def PW (X:Cx) (e:Expr) (t:TT):Prop:=
 ∀(whole:Sem Value) (pins:List (Addr×Obj)) (s:Shared) (σ:St) (H:Hp) (Q:Bool→Hp→Prop),Inv X pins σ H s→t σ H Q→wpAny (model X.prog X.w) X.A (isTrue e X.env whole) (TP X pins σ Q) X.xe s
theorem PW.pt {X:Cx} {e:Expr} {t:TT} (h:PW X e t):PT X e t:=h _
def PA (X:Cx) (es:List Expr) (t:TA):Prop:=
 ∀(pos:Pos) (pins:List (Addr×Obj)) (s:Shared) (σ:St) (H:Hp) (Q:List V→Hp→Prop),Inv X pins σ H s→t σ H Q→wpAny (model X.prog X.w) X.A (spliced (backTo pos (starEach es X.env))) (AP X pins σ Q) X.xe s
def PS (X:Cx) (st:Stmt) (t:TS):Prop:=
 ∀(pins:List (Addr×Obj)) (s:Shared) (σ:St) (H:Hp) (D:Ends),Inv X pins σ H s→t D σ H→wpAny (model X.prog X.w) X.A (exec st X.env) (SP X pins D) X.xe s
def PSs (X:Cx) (st:List Stmt) (t:TS):Prop:=
 ∀(pins:List (Addr×Obj)) (s:Shared) (σ:St) (H:Hp) (D:Ends),Inv X pins σ H s→t D σ H→wpAny (model X.prog X.w) X.A (execs st X.env) (SP X pins D) X.xe s
theorem thn {α:Type} {t:Sem α} {Q Q':α→Shared→Prop} {M:Model} {A:Around} {E:Value→Shared→Prop} {s:Shared} (h:wpAny M A t Q E s) (hQ:∀a s,Q a s→Q' a s):wpAny M A t Q' E s:=wpAny_mono h hQ fun _ _ x=>x
section
variable {X:Cx}
def tVar (i:Nat):TE:=fun σ H Q=>∃v,σ[i]?=some (some v)∧Q v H
def tC (v:V):TE:=fun _ H Q=>Q v H
theorem Qt {i:Nat} {x:Str} {pos:Pos} (hN:X.N[i]?=some x) (hv:Vis X.env.scope x) (hd:(x==("__debug__":Str))=false:=by decide) (hcd:(x==("__classdict__":Str))=false:=by decide):PE X (.Name x pos) (tVar i):=by
 intro pins s σ H Q I h
 obtain ⟨v,e,h⟩:=h
 obtain ⟨m,hn,hl⟩:=I.loc
 obtain ⟨u,r,l⟩:=hl i x v hN e hv
 have fin:EP X pins σ Q u s:=⟨v,H,I,r,h⟩
 rcases l with ⟨hk,hm⟩ | ⟨hk,c,hc,hcell⟩
 ·exact wpAny_Name (wpAny_loadName_local I.ok.kind hk hn hm fin) hd
 ·rcases hk with hk | hk
  ·exact wpAny_Name (wpAny_loadName_cell I.ok.kind hk hc hcell fin) hd
  ·exact wpAny_Name (wpAny_loadName_free I.ok.kind hk hc hcell fin hcd) hd
theorem pe_int {i j pos}:PE X (.Constant (.int i) j pos) (tC (.int i)):=fun _ _ _ H _ I h=>wpAny_Constant_int ⟨.int i,H,I.tok _,⟨_,rfl⟩,h⟩
theorem pe_bl {b j pos}:PE X (.Constant (.bool b) j pos) (tC (.bl b)):=fun _ _ _ H _ I h=>Constant_bool ⟨.bl b,H,I,rfl,h⟩
theorem pe_non {j pos}:PE X (.Constant .none j pos) (tC .non):=fun _ _ _ H _ I h=>Constant_none ⟨.non,H,I,rfl,h⟩
theorem pe_str {x j pos}:PE X (.Constant (.str x) j pos) (tC (.str x)):=fun _ _ _ H _ I h=>Calls.Constant_str ⟨.str x,H,I.tok _,⟨_,rfl⟩,h⟩
def Gl (X:Cx) (x:Str):Prop:=X.env.kindOf x=some .globalImplicit
theorem IX {E:Value→Shared→Prop} {pins:List (Addr×Obj)} {s:Shared} {σ:St} {H:Hp} {x:Str} {u:Value} {pos:Pos} {Q:Value→Shared→Prop} (I:Inv X pins σ H s) (hg:Gl X x) (hm:X.mg x=some u) (h:Q u s)
  (hd:(x==("__debug__":Str))=false:=by decide):wpAny (model X.prog X.w) X.A (eval (.Name x pos) X.env) Q E s:=
 Calls.Name_function_global I.ok.kind hg (Calls.loadGlobal_global (by rw [I.ok.glob];exact I.mod.glob.keeps I.bk) hm h) hd
theorem Dr {E:Value→Shared→Prop} {pins:List (Addr×Obj)} {s:Shared} {σ:St} {H:Hp} {x:Str} {u:Value} {pos:Pos} {Q:Value→Shared→Prop} (I:Inv X pins σ H s) (hg:Gl X x) (hm:X.mg x=none) (hv:bootBuiltins x=some u) (h:Q u s)
  (hn:x≠"__name__":=by decide) (hd:(x==("__debug__":Str))=false:=by decide):wpAny (model X.prog X.w) X.A (eval (.Name x pos) X.env) Q E s:=by
 obtain ⟨mb,h1,h2⟩:=I.mod.blt
 exact Calls.Name_function_global I.ok.kind hg (Calls.loadGlobal_builtin (by rw [I.ok.glob];exact I.mod.glob.keeps I.bk) hm (by rw [I.ok.blt];exact h1.keeps I.bk) ((h2 x hn).trans hv) h) hd
theorem Id {x:Str} {v:V} {u:Value} {pos:Pos} (hg:Gl X x) (hm:X.mg x=some u) (r:RelV v u) (hd:(x==("__debug__":Str))=false:=by decide):PE X (.Name x pos) (tC v):=
 fun _ _ _ H _ I h=>IX I hg hm ⟨v,H,I,r,h⟩ hd
theorem PK {x:Str} {v:V} {u:Value} {pos:Pos} (hg:Gl X x) (hm:X.mg x=none) (hv:bootBuiltins x=some u) (r:RelV v u) (hn:x≠"__name__":=by decide) (hd:(x==("__debug__":Str))=false:=by decide):PE X (.Name x pos) (tC v):=
 fun _ _ _ H _ I h=>Dr I hg hm hv ⟨v,H,I,r,h⟩ hn hd
variable {a b:Expr} {ta tb:TE} {pos:Pos}
def PC (X:Cx) (op:CmpOp) (a b:Expr) (t:TE):Prop:=
 ∀(pins:List (Addr×Obj)) (s:Shared) (σ:St) (H:Hp) (Q:VK),Inv X pins σ H s→t σ H Q→
  wpAny (model X.prog X.w) X.A (eval a X.env) (fun v s₁=>wpAny (model X.prog X.w) X.A (eval b X.env) (fun u s₂=>wpAny (model X.prog X.w) X.A (compareOp op v u) (EP X pins σ Q) X.xe s₂) X.xe s₁) X.xe s
theorem NZ (b:Expr) {op:CmpOp} (h:op≠.In) (h2:op≠.NotIn):behindInMarks op b=false:=by
 have e1:(op==CmpOp.In)=false:=by cases op <;> first | rfl | exact absurd rfl h
 have e2:(op==CmpOp.NotIn)=false:=by cases op <;> first | rfl | exact absurd rfl h2
 cases b <;> simp [behindInMarks,e1,e2]
def RK (ta:TE):TE:=fun σ H Q=>ta σ H fun x H1=>Q (.bl (!decide (x=.non))) H1
theorem RelV.none_iff {x:V} {v:Value} (r:RelV x v):(v==Value.none)=decide (x=.non):=by
 cases x with
 | non=>cases r;rfl
 | bl _=>cases r;rfl
 | int _=>obtain ⟨t,rfl⟩:=r;rfl
 | str _=>obtain ⟨t,rfl⟩:=r;rfl
 | byt _=>obtain ⟨t,rfl⟩:=r;rfl
 | flt _=>obtain ⟨t,rfl⟩:=r;rfl
 | ref _=>cases r;rfl
 | ty _=>cases r;rfl
theorem Pg {j pos'} (ha:PE X a ta):PC X .IsNot a (.Constant .none j pos') (RK ta):=by
 intro pins s σ H Q I h
 refine thn (ha pins s σ H _ I h) fun v s1 ⟨x,H1,I1,r1,q1⟩=>?_
 exact Constant_none (isnot_none_gen ⟨.bl _,H1,I1,by rw [r1.none_iff];rfl,q1⟩)
def tB (t:TE):TT:=fun σ H Q=>t σ H fun x H1=>∃c,x=.bl c∧Q c H1
theorem QM {op:CmpOp} {t:TE} (h:PC X op a b t) (h1:behindInMarks op b=false:=by first | exact NZ _ (by decide) (by decide) | rfl):PT X (.Compare a [op] [b] pos) (tB t):=by
 intro pins s σ H Q I hw
 refine wpAny_isTrue_Compare1 (thn (h pins s σ H _ I hw) fun v s1 h1=>thn h1 fun u s2 h2=>thn h2 fun c s3 ⟨x,H1,I1,r1,q1⟩=>?_) h1
 obtain ⟨d,rfl,q⟩:=q1
 cases r1
 exact wpAny_truthy_bool ⟨H1,I1,q⟩
theorem Q8 {e:Expr} {t:TE} (h:PE X e t) (he:∀whole,isTrue e X.env whole=(do let v ←whole;standAt e.pos;holding [v] (truthy v)):=by intro _;rfl):PT X e (tB t):=by
 intro pins s σ H Q I hw
 refine isTrue_plain (thn (h pins s σ H _ I hw) fun v s1 ⟨x,H1,I1,r1,q1⟩=>?_) (he _)
 obtain ⟨d,rfl,q⟩:=q1
 cases r1
 exact wpAny_truthy_bool ⟨H1,I1,q⟩
variable {tA tB':TT} {rest:List Expr}
def tAnd (t u:TT):TT:=fun σ H Q=>t σ H fun c H1=>if c=true then u σ H1 Q else Q false H1
def tOr (t u:TT):TT:=fun σ H Q=>t σ H fun c H1=>if c=true then Q true H1 else u σ H1 Q
def tNot (t:TT):TT:=fun σ H Q=>t σ H fun c H1=>Q (!c) H1
theorem OQ (ha:PT X a tA):PW X (.BoolOp .And [a] pos) tA:=by
 intro wh pins s σ H Q I h
 refine isTrue_and (thn (ha pins s σ H Q I h) fun c s1 e=>?_)
 cases c with
 | true=>exact isTrue_and_nil e
 | false=>exact e
theorem O7 (ha:PT X a tA):PW X (.BoolOp .Or [a] pos) tA:=by
 intro wh pins s σ H Q I h
 refine isTrue_or (thn (ha pins s σ H Q I h) fun c s1 e=>?_)
 cases c with
 | false=>exact isTrue_or_nil e
 | true=>exact e
theorem Rf (ha:PT X a tA) (hb:PW X (.BoolOp .And (b::rest) pos) tB'):PW X (.BoolOp .And (a::b::rest) pos) (tAnd tA tB'):=by
 intro wh pins s σ H Q I h
 refine isTrue_and (thn (ha pins s σ H _ I h) fun c s1 ⟨H1,I1,q1⟩=>?_)
 cases c with
 | true=>exact hb wh pins s1 σ H1 Q I1 q1
 | false=>exact ⟨H1,I1,q1⟩
theorem PZ (ha:PT X a tA) (hb:PW X (.BoolOp .Or (b::rest) pos) tB'):PW X (.BoolOp .Or (a::b::rest) pos) (tOr tA tB'):=by
 intro wh pins s σ H Q I h
 refine isTrue_or (thn (ha pins s σ H _ I h) fun c s1 ⟨H1,I1,q1⟩=>?_)
 cases c with
 | true=>exact ⟨H1,I1,q1⟩
 | false=>exact hb wh pins s1 σ H1 Q I1 q1
theorem Qq (ha:PT X a tA):PT X (.UnaryOp .Not a pos) (tNot tA):=by
 intro pins s σ H Q I h
 exact isTrue_not (ha pins s σ H (fun c H1=>Q (!c) H1) I h)
def Sh (ta tb:TE):TE:=fun σ H Q=>ta σ H fun x H1=>∃c,x=.bl c∧if c=true then tb σ H1 Q else Q (.bl false) H1
def RO (ta:TE):TE:=fun σ H Q=>ta σ H fun x H1=>∃c,x=.bl c∧Q (.bl (!c)) H1
theorem Q3 {op} {t:TE} (h:PE X a t):PE X (.BoolOp op [a] pos) t:=fun pins s σ H Q I hw=>BoolOp_one (h pins s σ H Q I hw)
theorem Rk (ha:PE X a ta) (hb:PE X (.BoolOp .And (b::rest) pos) tb):PE X (.BoolOp .And (a::b::rest) pos) (Sh ta tb):=by
 intro pins s σ H Q I h
 refine BoolOp_and (thn (ha pins s σ H _ I h) fun v s1 ⟨x,H1,I1,r1,q1⟩=>?_)
 obtain ⟨c,rfl,q1⟩:=q1
 cases r1
 refine wpAny_truthy_bool ?_
 cases c with
 | true=>exact hb pins s1 σ H1 Q I1 q1
 | false=>exact ⟨.bl false,H1,I1,rfl,q1⟩
theorem Rv (ha:PE X a ta):PE X (.UnaryOp .Not a pos) (RO ta):=by
 intro pins s σ H Q I h
 refine UnaryOp_ (thn (ha pins s σ H _ I h) fun v s1 ⟨x,H1,I1,r1,q1⟩=>?_)
 obtain ⟨c,rfl,q1⟩:=q1
 cases r1
 exact not_of (wpAny_truthy_bool ⟨.bl (!c),H1,I1,rfl,q1⟩)
def tIf (t:TT) (ta tb:TE):TE:=fun σ H Q=>t σ H fun c H1=>if c=true then ta σ H1 Q else tb σ H1 Q
theorem Ny {c:Expr} (hc:PT X c tA) (ha:PE X a ta) (hb:PE X b tb):PE X (.IfExp c a b pos) (tIf tA ta tb):=by
 intro pins s σ H Q I h
 refine wpAny_IfExp (thn (hc pins s σ H _ I h) fun d s1 ⟨H1,I1,q1⟩=>?_)
 cases d with
 | true=>exact ha pins s1 σ H1 Q I1 q1
 | false=>exact hb pins s1 σ H1 Q I1 q1
end
def SqL (K:PySem.W.Frag) (H:Hp) (a:Addr) (xs:List V):Prop:=
 Rd H a (.lst xs)∨
  ∃(o:Obj) (its:Array Value) (n:Nat),K.lookup a=some o∧o.cls=.type "list"∧o.dict=none∧o.data=.seq its n∧its.size≤sizeLine∧Vals xs its.toList
def SqT (K:PySem.W.Frag) (H:Hp) (a:Addr) (xs:List V):Prop:=
 Rd H a (.tup xs)∨
  ∃(o:Obj) (its:Array Value) (n:Nat),K.lookup a=some o∧o.cls=.type "tuple"∧o.data=.seq its n∧o.dict=none∧its.size≤sizeLine∧Vals xs its.toList
def absV:Value→Option V
 | .none=>some .non
 | .bool b=>some (.bl b)
 | .int i _=>some (.int i)
 | .str x _=>some (.str x)
 | .bytes b _=>some (.byt b)
 | .float b _=>some (.flt b)
 | .ref a=>some (.ref a)
 | .type n=>some (.ty n)
 | _=>none
theorem RelV.abs {x:V} {u:Value} (r:RelV x u):absV u=some x:=by
 cases x with
 | non=>cases r;rfl
 | bl _=>cases r;rfl
 | int _=>obtain ⟨t,rfl⟩:=r;rfl
 | str _=>obtain ⟨t,rfl⟩:=r;rfl
 | byt _=>obtain ⟨t,rfl⟩:=r;rfl
 | flt _=>obtain ⟨t,rfl⟩:=r;rfl
 | ref _=>cases r;rfl
 | ty _=>cases r;rfl
theorem RelV.inj {x y:V} {u:Value} (r:RelV x u) (q:RelV y u):x=y:=Option.some.inj (r.abs.symm.trans q.abs)
theorem Vals.inj:∀{xs ys:List V} {us:List Value},Vals xs us→Vals ys us→xs=ys
 | _,_,_,.nil,.nil=>rfl
 | _,_,_,.cons r t,.cons r' t'=>by rw [r.inj r',Vals.inj t t']
section
variable {X:Cx} {pins:List (Addr×Obj)} {σ:St} {H:Hp} {s:Shared} {a:Addr} {xs ys:List V}
theorem SqL.of {K:PySem.W.Frag} (h:H a=some (.lst xs)):SqL K H a xs:=.inl (.inl h)
theorem SqT.of {K:PySem.W.Frag} (h:H a=some (.tup xs)):SqT K H a xs:=.inl (.inl h)
theorem Inv.list (I:Inv X pins σ H s) (h:SqL X.K H a xs):∃its:List Value,Vals xs its∧PlainL s.heap a its.toArray∧xs.length≤sizeLine:=by
 rcases h with h | ⟨o,its,n,hk,hc,hd,hs,hz,r⟩
 ·obtain ⟨z,its,n,r,e⟩:=h.ok I.hok
  exact ⟨its,r,⟨_,n,e,rfl,rfl,rfl⟩,z⟩
 ·refine ⟨its.toList,r,⟨o,n,I.kIn a o hk,hc,hd,by simpa using hs⟩,?_⟩
  have e:=r.length
  simp only [Array.length_toList] at e
  omega
theorem Inv.tuple (I:Inv X pins σ H s) (h:SqT X.K H a xs):∃its:List Value,Vals xs its∧IsTup s.heap a its.toArray∧xs.length≤sizeLine:=by
 rcases h with h | ⟨o,its,n,hk,hc,hs,hd0,hz,r⟩
 ·obtain ⟨z,⟨its,r,p⟩,_⟩:=h.ok I.hok
  exact ⟨its,r,p,z⟩
 ·refine ⟨its.toList,r,⟨o,I.kIn a o hk,hc,n,by simpa using hs⟩,?_⟩
  have e:=r.length
  simp only [Array.length_toList] at e
  omega
theorem Inv.list_inj (I:Inv X pins σ H s) (h:SqL X.K H a xs) (h':SqL X.K H a ys):xs=ys:=by
 obtain ⟨its,r,⟨o,n,e,_,_,d⟩,_⟩:=I.list h
 obtain ⟨its',r',⟨o',n',e',_,_,d'⟩,_⟩:=I.list h'
 rw [e] at e';cases e'
 rw [d] at d'
 injection d' with d1 _
 have:its=its':=by simpa using congrArg Array.toList d1
 subst this
 exact r.inj r'
theorem Inv.tuple_inj (I:Inv X pins σ H s) (h:SqT X.K H a xs) (h':SqT X.K H a ys):xs=ys:=by
 obtain ⟨its,r,⟨o,e,_,n,d⟩,_⟩:=I.tuple h
 obtain ⟨its',r',⟨o',e',_,n',d'⟩,_⟩:=I.tuple h'
 rw [e] at e';cases e'
 rw [d] at d'
 injection d' with d1 _
 have:its=its':=by simpa using congrArg Array.toList d1
 subst this
 exact r.inj r'
end
abbrev Cx.wish (X:Cx) (E:Value→Shared→Prop):Cx:={X with xe:=E}
abbrev Cx.nox (X:Cx):Cx:=X.wish fun _ _=>False
theorem Cx.Ok.wish {X:Cx} (ok:X.Ok) (E:Value→Shared→Prop):(X.wish E).Ok:=
 ⟨ok.mod,ok.kind,ok.glob,ok.blt,ok.above,ok.inj,ok.has,ok.cab,ok.hd,ok.frames,ok.stk,ok.exf,ok.bs,ok.bsz,ok.noex,ok.exfs,ok.funs,ok.frf⟩
theorem Cx.Ok.unwish {X:Cx} {E:Value→Shared→Prop} (ok:(X.wish E).Ok):X.Ok:=
 ⟨ok.mod,ok.kind,ok.glob,ok.blt,ok.above,ok.inj,ok.has,ok.cab,ok.hd,ok.frames,ok.stk,ok.exf,ok.bs,ok.bsz,ok.noex,ok.exfs,ok.funs,ok.frf⟩
section
variable {X:Cx} {pins:List (Addr×Obj)} {σ:St} {H:Hp} {s:Shared} {E:Value→Shared→Prop}
theorem Inv.wish (I:Inv X pins σ H s) (E:Value→Shared→Prop):Inv (X.wish E) pins σ H s:=⟨I.ok.wish E,I.os,I.bare,I.base,I.loc,I.cell,I.free,I.freeC,I.pin,I.hok,I.len⟩
theorem Inv.unwish (I:Inv (X.wish E) pins σ H s):Inv X pins σ H s:=⟨I.ok.unwish,I.os,I.bare,I.base,I.loc,I.cell,I.free,I.freeC,I.pin,I.hok,I.len⟩
theorem SP.unwish {D:Ends} {f:Flow} {s':Shared} (h:SP (X.wish E) pins D f s'):SP X pins D f s':=by
 cases f with
 | next=>obtain ⟨σ',H',I,q⟩:=h;exact ⟨σ',H',I.unwish,q⟩
 | brk=>obtain ⟨σ',H',I,q⟩:=h;exact ⟨σ',H',I.unwish,q⟩
 | cont=>obtain ⟨σ',H',I,q⟩:=h;exact ⟨σ',H',I.unwish,q⟩
 | ret u=>obtain ⟨v,σ',H',I,r,q⟩:=h;exact ⟨v,σ',H',I.unwish,r,q⟩
theorem PSs.nox {st:List Stmt} {t:TS} (h:PSs X.nox st t):PSs X st t:=fun pins s σ H D I hw=>
 wpAny_mono (h pins s σ H D (I.wish _) hw) (fun _ _ q=>q.unwish) fun _ _ z=>False.elim z
end
section
variable {X:Cx} {st:Stmt} {rest:List Stmt} {t u:TS} {e:Expr} {te:TE} {pos:Pos}
def S0:TS:=fun D σ H=>D.nx σ H
def tSeq (t u:TS):TS:=fun D σ H=>t {D with nx:=u D} σ H
theorem pss_nil:PSs X [] S0:=fun _ _ σ H _ I h=>wpAny_execs_nil ⟨σ,H,I,h⟩
theorem A7 (h1:PS X st t) (h2:PSs X rest u):PSs X (st::rest) (tSeq t u):=by
 intro pins s σ H D I h
 refine wpAny_execs_cons (thn (h1 pins s σ H {D with nx:=u D} I h) fun f s1 q=>?_)
 cases f with
 | next=>
   obtain ⟨σ',H',I',q⟩:=q
   exact h2 pins s1 σ' H' D I' q
 | ret v=>exact q
 | brk=>exact q
 | cont=>exact q
theorem Inv.quiet {pins:List (Addr×Obj)} {σ:St} {H:Hp} {s:Shared} (I:Inv X pins σ H s):interactive X.env=false:=by simp [interactive,I.ok.kind]
def RF (te:TE):TS:=fun D σ H=>te σ H fun _ H1=>D.nx σ H1
theorem Da (he:PE X e te) (hs:swapsWith e none pos.line X.env=pure false:=by rfl):PS X (.Expr e pos) (RF te):=by
 intro pins s σ H D I h
 exact wpAny_Expr_any (thn (he pins s σ H _ I h) fun v s1 ⟨x,H1,I1,r1,q1⟩=>⟨σ,H1,I1,q1⟩) I.quiet hs
def tRet (te:TE):TS:=fun D σ H=>te σ H D.rt
theorem Fl (he:PE X e te):PS X (.Return (some e) pos) (tRet te):=by
 intro pins s σ H D I h
 exact wpAny_Return_some (thn (he pins s σ H _ I h) fun v s1 ⟨x,H1,I1,r1,q1⟩=>⟨x,σ,H1,I1,r1,q1⟩)
def tIfS (c:TT) (t u:TS):TS:=fun D σ H=>c σ H fun b H1=>if b=true then t D σ H1 else u D σ H1
theorem FB {c:Expr} {a b:List Stmt} {tc:TT} (hc:PT X c tc) (ha:PSs X a t) (hb:PSs X b u):PS X (.If c a b pos) (tIfS tc t u):=by
 intro pins s σ H D I h
 refine wpAny_If (thn (hc pins s σ H _ I h) fun d s1 ⟨H1,I1,q1⟩=>?_)
 cases d with
 | true=>exact ha pins s1 σ H1 D I1 q1
 | false=>exact hb pins s1 σ H1 D I1 q1
def O8:TS:=fun _ _ _=>False
theorem Bd {sts:List Stmt}:PSs X sts O8:=fun _ _ _ _ _ _ h=>h.elim
end
abbrev TG:=V→St→Hp→(St→Hp→Prop)→Prop
abbrev TGs:=List V→St→Hp→(St→Hp→Prop)→Prop
def PG (X:Cx) (target:Expr) (t:TG):Prop:=
 ∀(pins:List (Addr×Obj)) (s:Shared) (σ:St) (H:Hp) (v:V) (u:Value) (Q:St→Hp→Prop),Inv X pins σ H s→RelV v u→t v σ H Q→
  wpAny (model X.prog X.w) X.A (assign target X.env u) (fun _ s'=>∃σ' H',Inv X pins σ' H' s'∧Q σ' H') X.xe s
def PGs (X:Cx) (ts:List Expr) (t:TGs):Prop:=
 ∀(pins:List (Addr×Obj)) (s:Shared) (σ:St) (H:Hp) (vs:List V) (us:List Value) (Q:St→Hp→Prop),Inv X pins σ H s→Vals vs us→t vs σ H Q→
  wpAny (model X.prog X.w) X.A (assignInOrder ((assignEach ts X.env).map (·.2)) us) (fun _ s'=>∃σ' H',Inv X pins σ' H' s'∧Q σ' H') X.xe s
abbrev TSet:=V→V→V→Hp→(Hp→Prop)→Prop
def PSet (X:Cx) (t:TSet):Prop:=
 ∀(pins:List (Addr×Obj)) (s:Shared) (σ:St) (H:Hp) (o i v:V) (ov iv u:Value) (Q:Hp→Prop),Inv X pins σ H s→RelV o ov→RelV i iv→RelV v u→t o i v H Q→
  wpAny (model X.prog X.w) X.A (setItem ov iv u) (fun _ s'=>∃H',Inv X pins σ H' s'∧Q H') X.xe s
section
variable {X:Cx} {pos:Pos}
def C2 (i:Nat):TG:=fun v σ H Q=>Q (σ.set i (some v)) H
theorem Av {i:Nat} {x:Str} (hN:X.N.Nodup) (hi:X.N[i]?=some x) (hx:Loc X.env.scope x) (hf:X.fn x=true∨X.env.scope.names.lookup x=some .local:=by first | exact .inl rfl | exact .inr rfl | assumption):PG X (.Name x pos) (C2 i):=by
 intro pins s σ H v u Q I r h
 exact wpAny_assign_Name (GL I hN hi hx r (fun s' I'=>⟨_,H,I',h⟩) hf)
def gNil:TGs:=fun vs σ H Q=>vs=[]∧Q σ H
def J9 (t:TG) (u:TGs):TGs:=fun vs σ H Q=>∃v r,vs=v::r∧t v σ H fun σ' H'=>u r σ' H' Q
theorem Bu:PGs X [] gNil:=by
 intro pins s σ H vs us Q I r h
 obtain ⟨e,h⟩:=h
 subst e
 cases r
 exact assignInOrder_nil ⟨σ,H,I,h⟩
theorem Az {e:Expr} {es:List Expr} {t:TG} {u:TGs} (h1:PG X e t) (h2:PGs X es u)
  (hs:(assignEach (e::es) X.env).map (·.2)=assign e X.env::(assignEach es X.env).map (·.2):=by rfl):PGs X (e::es) (J9 t u):=by
 intro pins s σ H vs us Q I r h
 obtain ⟨v,vr,e1,h⟩:=h
 subst e1
 cases r with
 | cons r rr=>
   rw [hs]
   refine assignInOrder_cons (thn (h1 pins s σ H _ _ _ I r h) fun _ s1 ⟨σ1,H1,I1,q1⟩=>?_)
   exact h2 pins s1 σ1 H1 _ _ Q I1 rr q1
def gTup (K:PySem.W.Frag) (n:Nat) (t:TGs):TG:=fun v σ H Q=>∃a xs,v=.ref a∧SqT K H a xs∧xs.length=n∧t xs σ H Q
theorem BK {es:List Expr} {k:Nat} {t:TGs} {n:Nat} (hc:X.calm=true) (h:PGs X es t)
  (hn:(assignEach es X.env).length=n:=by rfl) (hst:(assignEach es X.env).findIdx? (·.1)=none:=by rfl):PG X (.Tuple es k pos) (gTup X.K n t):=by
 intro pins s σ H v u Q I r hw
 obtain ⟨a,xs,e1,hq,hl,hw⟩:=hw
 subst e1
 cases r
 obtain ⟨its,rv,ht,hz⟩:=I.tuple hq
 refine assign_Tuple_tuple (I.ok.hd hc) ht (by simp [hn,←hl,rv.length]) hst fun h' hx=>?_
 have I1:Inv X pins σ H {s with heap:=h'}:=I.kept (t':=s.toks) fun b o e=>hx b o (Nat.ne_of_lt (Heap.lt_size e)) e
 exact h pins _ σ H xs _ Q I1 (by simpa using rv) hw
def gSub (to ti:TE) (t:TSet):TG:=fun v σ H Q=>to σ H fun o H1=>ti σ H1 fun i H2=>t o i v H2 fun H3=>Q σ H3
theorem KG {o i:Expr} {to ti:TE} {t:TSet} (ho:PE X o to) (hi:PE X i ti) (hs:PSet X t)
  (ha:∀v,assign (.Subscript o i pos) X.env v=(do
   let ov ←holding [v] (eval o X.env)
   let iv ←holding [v,ov] (eval i X.env)
   standAt pos
   holding [v,ov,iv] (setItem ov iv v)
   release [v,ov,iv] []):=by intro _;rfl):PG X (.Subscript o i pos) (gSub to ti t):=by
 intro pins s σ H v u Q I r h
 rw [ha]
 refine wpAny_bind (wpAny_holding (thn (ho pins s σ H _ I h) fun ov s1 ⟨x,H1,I1,r1,q1⟩=>?_))
 refine wpAny_bind (wpAny_holding (thn (hi pins s1 σ H1 _ I1 q1) fun iv s2 ⟨y,H2,I2,r2,q2⟩=>?_))
 refine wpAny_bind (wpAny_standAt (wpAny_bind (wpAny_holding (thn (hs pins s2 σ H2 x y v ov iv u _ I2 r1 r2 r q2) fun _ s3 ⟨H3,I3,q3⟩=>?_))))
 exact wpAny_release ⟨σ,H3,I3,q3⟩
def tAsg (te:TE) (g:TG):TS:=fun D σ H=>te σ H fun x H1=>g x σ H1 D.nx
theorem GK {tg e:Expr} {te:TE} {g:TG} (he:PE X e te) (hg:PG X tg g) (hs:swapsWithSole [tg] e pos.line X.env=pure false:=by rfl) (hw:swappedStores [tg] e X.env=pure none:=by rfl)
  (h1:(assignEach [tg] X.env).map (·.2)=[assign tg X.env]:=by rfl):PS X (.Assign [tg] e pos) (tAsg te g):=by
 intro pins s σ H D I h
 refine wpAny_Assign_stores (thn (he pins s σ H _ I h) fun v s1 ⟨x,H1,I1,r1,q1⟩=>?_) hs hw
 rw [h1]
 exact thn (hg pins s1 σ H1 x v _ I1 r1 q1) fun _ s2 q=>q
theorem Cw {i:Nat} {x:Str} {e:Expr} {te:TE} {pos':Pos} (hN:X.N.Nodup) (hi:X.N[i]?=some x) (hx:Loc X.env.scope x) (he:PE X e te) (hs:swapsWith e (some (.Name x pos')) pos.line X.env=pure false:=by rfl) (hf:X.fn x=true∨X.env.scope.names.lookup x=some .local:=by first | exact .inl rfl | exact .inr rfl | assumption):
  PS X (.Assign [.Name x pos'] e pos) (tAsg te (C2 i)):=by
 intro pins s σ H D I h
 refine wpAny_Assign_Name (thn (he pins s σ H _ I h) fun v s1 ⟨y,H1,I1,r1,q1⟩=>?_) hs
 exact GL I1 hN hi hx r1 (fun s2 I2=>⟨_,H1,I2,q1⟩) hf
end
structure It where
 go:Nat→Hp→Prop
 yld:Nat→Hp→V→Hp→Prop
 stop:Nat→Hp→Prop
def FpOk (X:Cx) (pins:List (Addr×Obj)) (H:Hp) (b:Addr):Prop:=
 H b=none∧b≠X.env.locals∧b∉X.fs∧(b∈X.ex∨X.s₀.heap.objs.size≤b)∧(∀x c,X.env.cells.lookup x=some c→c≠b)∧∀p∈X.pn++pins,p.1≠b
theorem Inv.fpOk {X:Cx} {pins:List (Addr×Obj)} {σ:St} {H H':Hp} {s:Shared} {b:Addr} (I:Inv X pins σ H s) (hb:s.heap.objs.size≤b) (hn:H' b=none):FpOk X pins H' b:=by
 refine ⟨hn,Nat.ne_of_gt (Nat.lt_of_lt_of_le I.lt hb),I.nofs hb,.inr (Nat.le_trans I.sz hb),fun x c e z=>?_,fun p hp z=>?_⟩
 ·obtain ⟨v,q⟩:=I.cell x c e
  exact absurd (Nat.lt_of_lt_of_le q.lt (by rw [z];exact hb)) (Nat.lt_irrefl _)
 ·exact absurd (Nat.lt_of_lt_of_le (Heap.lt_size (I.pin p hp).1) (by rw [z];exact hb)) (Nat.lt_irrefl _)
structure Turn (P:Program) (w:World) (K:PySem.W.Frag) (tg:Expr) (J:It) (fp:List Addr) (it:Addr) (tn:Nat→Heap→Prop):Prop where
 mem:it∈fp
 obj:∀i h,tn i h→∀b∈fp,∃o,h.get? b=some o∧∀v,o.data≠.cell v
 keep:∀i h h',tn i h→(∀b∈fp,∀o,h.get? b=some o→h'.get? b=some o)→tn i h'
 item:∀(X:Cx),X.prog=P→X.w=w→X.K=K→X.calm=true→∀(i:Nat) (pins:List (Addr×Obj)) (s:Shared) (σ:St) (H:Hp) (E:Value→Shared→Prop),Inv X pins σ H s→(∀b∈fp,FpOk X pins H b)→tn i s.heap→J.go i H→
  wpAny (model P w) X.A (pyNext (.ref it)) (fun r s1=>∃u,r=some u∧
   wpAny (model P w) X.A (letOwnedTupleGo tg (.ref it) u) (fun _ s2=>∃x H',Inv X pins σ H' s2∧RelV x u∧J.yld i H x H'∧tn (i + 1) s2.heap∧∀b∈fp,H' b=none) E s1) E s
 done:∀(X:Cx),X.prog=P→X.w=w→X.K=K→X.calm=true→∀(i:Nat) (pins:List (Addr×Obj)) (s:Shared) (σ:St) (H:Hp) (E:Value→Shared→Prop),Inv X pins σ H s→(∀b∈fp,FpOk X pins H b)→tn i s.heap→J.stop i H→
  wpAny (model P w) X.A (pyNext (.ref it)) (fun r s1=>r=none∧Inv X pins σ H s1) E s
 self:∀(A:Around) (i:Nat) (s:Shared) (Q:Value→Shared→Prop) (E:Value→Shared→Prop),tn i s.heap→Q (.ref it) s→wpAny (model P w) A (pyIter (.ref it)) Q E s
abbrev TI:=St→Hp→(It→Hp→Prop)→Prop
def PIE (X:Cx) (pins:List (Addr×Obj)) (σ:St) (tg:Expr) (R:It→Hp→Prop) (itv:Value) (s2:Shared):Prop:=
 ∃(it:Addr) (fp:List Addr) (tn:Nat→Heap→Prop) (J:It) (H':Hp),itv=.ref it∧Inv X pins σ H' s2∧Turn X.prog X.w X.K tg J fp it tn∧tn 0 s2.heap∧(∀b∈fp,FpOk X pins H' b)∧R J H'
def PI (X:Cx) (tg iter:Expr) (wi:TI):Prop:=
 ∀(pins:List (Addr×Obj)) (s:Shared) (σ:St) (H:Hp) (R:It→Hp→Prop),Inv X pins σ H s→wi σ H R→
  wpAny (model X.prog X.w) X.A (eval iter X.env) (fun v s1=>wpAny (model X.prog X.w) X.A (pyIter v) (PIE X pins σ tg R) X.xe s1) X.xe s
theorem NT {M:Model} {A:Around} {E:Value→Shared→Prop} {s:Shared} {tg:Expr} {it:Addr} {u:Value} {o:Obj} {n:String} {vs:Array Value} {Q:Unit→Shared→Prop} (ho:s.heap.get? it=some o) (hc:o.cls=.type n) (hd:o.data=.fields vs)
  (hn:["enumerate","zip","dict_itemiterator","dict_reverseitemiterator","odict_iterator","itertools.zip_longest","itertools.pairwise"].contains n=false) (hQ:Q () s):wpAny M A (letOwnedTupleGo tg (.ref it) u) Q E s:=by
 unfold letOwnedTupleGo
 cases tg <;> first
  | exact wpAny_pure hQ
  | (cases u <;> first
    | exact wpAny_pure hQ
    | (refine wpAny_bind (wpAny_load ho ?_)
       rw [hc,hd]
       show wpAny M A (if (["enumerate","zip","dict_itemiterator","dict_reverseitemiterator","odict_iterator","itertools.zip_longest","itertools.pairwise"].contains n && vs[0]?==some (rawInt _))=true then _ else _) Q E s
       rw [if_neg (by intro h;rw [hn,Bool.false_and] at h;cases h)]
       exact wpAny_pure hQ))
def Itl (K:PySem.W.Frag) (a:Addr):It:=
 ⟨fun i H=>∃xs x,SqL K H a xs∧xs[i]?=some x,fun i H x H'=>H'=H∧∀xs,SqL K H a xs→xs[i]?=some x,fun i H=>∃xs,SqL K H a xs∧xs.length≤i⟩
def Itt (K:PySem.W.Frag) (a:Addr):It:=
 ⟨fun i H=>∃xs x,SqT K H a xs∧xs[i]?=some x,fun i H x H'=>H'=H∧∀xs,SqT K H a xs→xs[i]?=some x,fun i H=>∃xs,SqT K H a xs∧xs.length≤i⟩
def Itr (lo:Int) (n:Nat):It:=⟨fun i _=>i < n,fun i H x H'=>H'=H∧x=.int (lo + i),fun i _=>n≤i⟩
theorem LT {P:Program} {w:World} {K:PySem.W.Frag} {tg:Expr} (a it:Addr):Turn P w K tg (Itl K a) [it] it (fun i h=>h.IsListIter it a i) where
 mem:=by simp
 obj:=fun i h st b hb=>by
  have e:b=it:=by simpa using hb
  subst e
  obtain ⟨o,e,c,d⟩:=st
  exact ⟨o,e,fun v z=>by rw [d] at z;cases z⟩
 keep:=fun i h h' st k=>st.at fun o e=>k it (by simp) o e
 item:=by
  intro X hP hw hK hc i pins s σ H E I hf st hg
  subst hP hw hK
  obtain ⟨xs,x,hq,hx⟩:=hg
  obtain ⟨its,rv,p,hz⟩:=I.list hq
  obtain ⟨u,hu,ru⟩:=rv.get hx
  obtain ⟨f0,f1,f2,f3,f4,f5⟩:=hf it (by simp)
  refine wpAny_pyNext_list_item st p.isList (x:=u) (by simpa using hu) fun h' st' sb=>?_
  have I1:Inv X pins σ H {s with heap:=h'}:=I.turned (t':=s.toks) (fun b o hb e=>(sb.2 b hb).trans e) f0 f1 f3 f4 f5
  obtain ⟨o,e,c,d⟩:=id st'
  exact ⟨u,rfl,NT (s:={s with heap:=h'}) e c d (by decide) ⟨x,H,I1,ru,⟨rfl,fun ys hy=>by rw [I.list_inj hy hq];exact hx⟩,st',fun b hb=>(hf b hb).1⟩⟩
 done:=by
  intro X hP hw hK hc i pins s σ H E I hf st hg
  subst hP hw hK
  obtain ⟨xs,hq,hx⟩:=hg
  obtain ⟨its,rv,p,hz⟩:=I.list hq
  obtain ⟨f0,f1,f2,f3,f4,f5⟩:=hf it (by simp)
  have hl:=rv.length
  exact wpAny_pyNext_list_end (I.ok.hd hc) st p.isList (by simp;omega) fun h' eb=>⟨rfl,I.turned (t':=s.toks) (fun b o hb e=>eb b o hb e) f0 f1 f3 f4 f5⟩
 self:=fun _ _ _ _ _ st h=>wpAny_pyIter_listiter st h
theorem Kt {P:Program} {w:World} {K:PySem.W.Frag} {tg:Expr} (a it:Addr):Turn P w K tg (Itt K a) [it] it (fun i h=>h.IsTupleIter it a i) where
 mem:=by simp
 obj:=fun i h st b hb=>by
  have e:b=it:=by simpa using hb
  subst e
  obtain ⟨o,e,c,d⟩:=st
  exact ⟨o,e,fun v z=>by rw [d] at z;cases z⟩
 keep:=fun i h h' st k=>st.at fun o e=>k it (by simp) o e
 item:=by
  intro X hP hw hK hc i pins s σ H E I hf st hg
  subst hP hw hK
  obtain ⟨xs,x,hq,hx⟩:=hg
  obtain ⟨its,rv,p,hz⟩:=I.tuple hq
  obtain ⟨u,hu,ru⟩:=rv.get hx
  obtain ⟨f0,f1,f2,f3,f4,f5⟩:=hf it (by simp)
  refine wpAny_pyNext_tuple_item st (show s.heap.IsTuple a its.toArray from p) (x:=u) (by simpa using hu) fun h' st' sb=>?_
  have I1:Inv X pins σ H {s with heap:=h'}:=I.turned (t':=s.toks) (fun b o hb e=>(sb.2 b hb).trans e) f0 f1 f3 f4 f5
  obtain ⟨o,e,c,d⟩:=id st'
  exact ⟨u,rfl,NT (s:={s with heap:=h'}) e c d (by decide) ⟨x,H,I1,ru,⟨rfl,fun ys hy=>by rw [I.tuple_inj hy hq];exact hx⟩,st',fun b hb=>(hf b hb).1⟩⟩
 done:=by
  intro X hP hw hK hc i pins s σ H E I hf st hg
  subst hP hw hK
  obtain ⟨xs,hq,hx⟩:=hg
  obtain ⟨its,rv,p,hz⟩:=I.tuple hq
  obtain ⟨f0,f1,f2,f3,f4,f5⟩:=hf it (by simp)
  have hl:=rv.length
  exact wpAny_pyNext_tuple_end (I.ok.hd hc) st (show s.heap.IsTuple a its.toArray from p) (by simp;omega) fun h' eb=>⟨rfl,I.turned (t':=s.toks) (fun b o hb e=>eb b o hb e) f0 f1 f3 f4 f5⟩
 self:=fun _ _ _ _ _ st h=>wpAny_pyIter_tupleiter st h
theorem KC {P:Program} {w:World} {K:PySem.W.Frag} {tg:Expr} (it:Addr) (lo:Int) (n:Nat):Turn P w K tg (Itr lo n) [it] it (fun i h=>IsRangeIter h it (lo + (i:Nat) * 1) ((n:Int) - (i:Nat)) 1) where
 mem:=by simp
 obj:=fun i h st b hb=>by
  have e:b=it:=by simpa using hb
  subst e
  exact ⟨_,st,fun v z=>by
   have z':Data.fields _=Data.cell v:=z
   cases z'⟩
 keep:=fun i h h' st k=>k it (by simp) _ st
 item:=by
  intro X hP hw hK hc i pins s σ H E I hf st hg
  subst hP hw hK
  obtain ⟨f0,f1,f2,f3,f4,f5⟩:=hf it (by simp)
  have W:=Walks.range (prog:=X.prog) (w:=X.w) (I.ok.hd hc) it lo 1 n
  refine W.item i s _ _ hg st fun v h' tk hv st' kk=>?_
  obtain ⟨t,rfl⟩:=hv
  have I1:Inv X pins σ H {s with heap:=h',toks:=tk}:=I.turned (fun b o hb e=>kk b o (by simpa using hb) e) f0 f1 f3 f4 f5
  refine ⟨_,rfl,NT (s:={s with heap:=h',toks:=tk}) (n:="range_iterator") st' rfl rfl (by decide) ⟨.int (lo + i),H,I1,⟨t,?_⟩,⟨rfl,rfl⟩,st',fun b hb=>(hf b hb).1⟩⟩
  rw [Int.mul_one]
 done:=by
  intro X hP hw hK hc i pins s σ H E I hf st hg
  subst hP hw hK
  obtain ⟨f0,f1,f2,f3,f4,f5⟩:=hf it (by simp)
  exact wpAny_pyNext_range_end (I.ok.hd hc) st (by have:n≤i:=hg;omega) fun h' eb=>⟨rfl,I.turned (t':=s.toks) (fun b o hb e=>eb b o hb e) f0 f1 f3 f4 f5⟩
 self:=fun _ _ _ _ _ st h=>wpAny_pyIter_rangeiter st h
section
variable {X:Cx} {tg:Expr}
def RJ (K:PySem.W.Frag) (tl:TE):TI:=fun σ H R=>tl σ H fun x H1=>∃a,x=.ref a∧(∃xs,SqL K H1 a xs)∧R (Itl K a) H1
def iTup (K:PySem.W.Frag) (tl:TE):TI:=fun σ H R=>tl σ H fun x H1=>∃a,x=.ref a∧(∃xs,SqT K H1 a xs)∧R (Itt K a) H1
theorem Pt {l:Expr} {tl:TE} (hl:PE X l tl):PI X tg l (RJ X.K tl):=by
 intro pins s σ H R I h
 refine thn (hl pins s σ H _ I h) fun v s1 ⟨x,H1,I1,r1,q1⟩=>?_
 obtain ⟨a,e,⟨xs,hq⟩,q⟩:=q1
 subst e
 cases r1
 obtain ⟨its,rv,p,hz⟩:=I1.list hq
 refine wpAny_pyIter_list p.isList ?_
 refine ⟨s1.heap.objs.size,[s1.heap.objs.size],_,_,H1,rfl,I1.kept (t':=s1.toks) fun b o e=>Heap.get?_push_of_some _ e,LT a _,⟨_,Heap.get?_push_size _ rfl,rfl,rfl⟩,fun b hb=>?_,q⟩
 have e:b=s1.heap.objs.size:=by simpa using hb
 subst e
 exact I1.fpOk (Nat.le_refl _) (I1.hok.fresh (Nat.le_refl _))
theorem Q1 {l:Expr} {tl:TE} (hl:PE X l tl):PI X tg l (iTup X.K tl):=by
 intro pins s σ H R I h
 refine thn (hl pins s σ H _ I h) fun v s1 ⟨x,H1,I1,r1,q1⟩=>?_
 obtain ⟨a,e,⟨xs,hq⟩,q⟩:=q1
 subst e
 cases r1
 obtain ⟨its,rv,p,hz⟩:=I1.tuple hq
 refine wpAny_pyIter_tuple (show s1.heap.IsTuple a its.toArray from p) ?_
 refine ⟨s1.heap.objs.size,[s1.heap.objs.size],_,_,H1,rfl,I1.kept (t':=s1.toks) fun b o e=>Heap.get?_push_of_some _ e,Kt a _,⟨_,Heap.get?_push_size _ rfl,rfl,rfl⟩,fun b hb=>?_,q⟩
 have e:b=s1.heap.objs.size:=by simpa using hb
 subst e
 exact I1.fpOk (Nat.le_refl _) (I1.hok.fresh (Nat.le_refl _))
theorem J5 {pins:List (Addr×Obj)} {σ:St} {H:Hp} {s:Shared} {R:It→Hp→Prop} {E:Value→Shared→Prop} {lo hi:Int} {t u v:Tok} {tk:Nat} (I:Inv X pins σ H s) (h1:-(2 ^ 62)≤lo) (h2:lo < 2 ^ 62) (h3:-(2 ^ 62)≤hi) (h4:hi < 2 ^ 62)
  (q:R (Itr lo (hi - lo).toNat) H):wpAny (model X.prog X.w) X.A (pyIter (.ref s.heap.objs.size)) (PIE X pins σ tg R) E {s with heap:=s.heap.push {cls:=.type "range",data:=.fields #[.int lo t,.int hi u,.int 1 v]},toks:=tk}:=by
 refine wpAny_pyIter_range (IsRange.new ..) (small_one h1 h2 h3 h4) ?_
 have I1:Inv X pins σ H {s with heap:=s.heap.push {cls:=.type "range",data:=.fields #[.int lo t,.int hi u,.int 1 v]},toks:=tk}:=I.kept fun b o e=>Heap.get?_push_of_some _ e
 refine ⟨(s.heap.push {cls:=.type "range",data:=.fields #[.int lo t,.int hi u,.int 1 v]}).objs.size,[(s.heap.push {cls:=.type "range",data:=.fields #[.int lo t,.int hi u,.int 1 v]}).objs.size],_,_,H,rfl,
  I1.kept (t':=tk) fun b o e=>Heap.get?_push_of_some _ e,KC _ lo (hi - lo).toNat,?_,fun b hb=>?_,q⟩
 ·have e1:lo + ((0:Nat):Int) * 1=lo:=by simp
  have e2:(((hi - lo).toNat:Nat):Int) - ((0:Nat):Int)=Builtin.Range.rangeSize lo hi 1:=by rw [rangeSize_one];split <;> omega
  show IsRangeIter _ _ (lo + ((0:Nat):Int) * 1) ((((hi - lo).toNat:Nat):Int) - ((0:Nat):Int)) 1
  rw [e1,e2]
  exact Heap.get?_push_size _ rfl
 ·have e:b=(s.heap.push {cls:=.type "range",data:=.fields #[.int lo t,.int hi u,.int 1 v]}).objs.size:=by simpa using hb
  subst e
  exact I1.fpOk (Nat.le_refl _) (I1.hok.fresh (Nat.le_refl _))
def RC (ta:TA):TI:=fun σ H R=>ta σ H fun vs H1=>∃j:Int,vs=[.int j]∧-(2 ^ 62)≤j∧j < 2 ^ 62∧R (Itr 0 j.toNat) H1
def S2 (ta:TA):TI:=fun σ H R=>ta σ H fun vs H1=>∃i j:Int,vs=[.int i,.int j]∧(-(2 ^ 62)≤i∧i < 2 ^ 62∧-(2 ^ 62)≤j∧j < 2 ^ 62)∧R (Itr i (j - i).toNat) H1
theorem Ff {a:Expr} {ta:TA} {p pos:Pos} (hg:Gl X "range") (hm:X.mg "range"=none) (ha:PA X [a] ta) (hs:starEach [a] X.env=[(false,eval a X.env)]:=by rfl):PI X tg (.Call (.Name "range" p) [a] [] pos) (RC ta):=by
 intro pins s σ H R I h
 refine Call_ (Dr I hg hm boot_range (PyProof.Rows.callWith_type1 (thn (ha pos pins s σ H _ I h) fun us s1 ⟨vs,H1,I1,r1,q1⟩=>?_) hs rfl))
 obtain ⟨j,e,q1,q2,q⟩:=q1
 subst e
 cases r1 with
 | cons r rr=>
   cases rr
   obtain ⟨t,rfl⟩:=r
   exact call_range_1 (J5 I1 (by omega) (by omega) q1 q2 (by simpa using q))
theorem Mb {a b:Expr} {ta:TA} {p pos:Pos} (hg:Gl X "range") (hm:X.mg "range"=none) (ha:PA X [a,b] ta) (hs:starEach [a,b] X.env=[(false,eval a X.env),(false,eval b X.env)]:=by rfl) (hs2:starEach [b] X.env=[(false,eval b X.env)]:=by rfl):
  PI X tg (.Call (.Name "range" p) [a,b] [] pos) (S2 ta):=by
 intro pins s σ H R I h
 refine Call_ (Dr I hg hm boot_range (PyProof.Rows.callWith_type1 (thn (ha pos pins s σ H _ I h) fun us s1 ⟨vs,H1,I1,r1,q1⟩=>?_) (by rw [hs,hs2]) (by rw [hs2];rfl)))
 obtain ⟨i,j,e,⟨q1,q2,q3,q4⟩,q⟩:=q1
 subst e
 cases r1 with
 | cons r rr=>
   cases rr with
   | cons r' rr=>
     cases rr
     obtain ⟨t,rfl⟩:=r
     obtain ⟨t',rfl⟩:=r'
     exact call_range_2 (J5 I1 q1 q2 q3 q4 q)
def tFor (wi:TI) (g:TG) (tb:TS):TS:=fun D σ H=>wi σ H fun J H1=>∃W:Nat→Nat→St→Hp→Prop,(∃m,W 0 m σ H1)∧∀i m σ H,W i m σ H→
 (J.stop i H∧D.nx σ H)∨(J.go i H∧∃N:St→Hp→Prop,(∀σ' H',N σ' H'→∃m',m' < m∧W (i + 1) m' σ' H')∧∀x H',J.yld i H x H'→g x σ H' fun σ2 H2=>tb {D with nx:=N,ct:=N,bk:=D.nx} σ2 H2)
def GF (fp:List Addr) (h:Heap):List (Addr×Obj):=fp.filterMap fun b=>(h.get? b).map fun o=>(b,o)
theorem Dg {fp:List Addr} {h:Heap} {b:Addr} {o:Obj} (hb:b∈fp) (e:h.get? b=some o):(b,o)∈GF fp h:=List.mem_filterMap.mpr ⟨b,hb,by rw [e];rfl⟩
theorem Mj {fp:List Addr} {h:Heap} {p:Addr×Obj} (hp:p∈GF fp h):p.1∈fp∧h.get? p.1=some p.2:=by
 obtain ⟨b,hb,e⟩:=List.mem_filterMap.mp hp
 cases q:h.get? b with
 | none=>rw [q] at e;cases e
 | some o=>
   rw [q] at e
   have e':(b,o)=p:=Option.some.inj e
   subst e'
   exact ⟨hb,q⟩
theorem Inv.pinned {pins:List (Addr×Obj)} {σ:St} {H:Hp} {s:Shared} {fp:List Addr} (I:Inv X pins σ H s) (hf:∀b∈fp,FpOk X pins H b) (ho:∀b∈fp,∃o,s.heap.get? b=some o∧∀v,o.data≠.cell v):Inv X (pins++GF fp s.heap) σ H s:=
 I.pins_of fun p hp=>(List.mem_append.mp hp).elim (fun z=>I.pin p (List.mem_append_right _ z)) fun z=>by
   obtain ⟨hb,e⟩:=Mj z
   obtain ⟨f0,f1,f2,_⟩:=hf p.1 hb
   obtain ⟨o,e',d⟩:=ho p.1 hb
   rw [e] at e';cases e'
   exact ⟨e,f0,f1,f2,d⟩
theorem Inv.unpinned {pins pl:List (Addr×Obj)} {σ:St} {H:Hp} {s:Shared} (I:Inv X (pins++pl) σ H s):Inv X pins σ H s:=I.pins_of fun p hp=>I.pin p (List.mem_append_right _ (List.mem_append_left _ hp))
theorem IP {iter:Expr} {body:List Stmt} {wi:TI} {g:TG} {tb:TS} {pos:Pos} (hp:PassesOwn (model X.prog X.w) X.A X.env X.xe) (hc:X.calm=true) (hi:PI X tg iter wi) (hg:PG X tg g) (hb:PSs X body tb)
  (hs:∀x,foldedSetIterable iter X.env x=pure x:=by intro _;rfl):PS X (.For tg iter body [] pos) (tFor wi g tb):=by
 intro pins s σ H D I h
 refine wpAny_For (thn (hi pins s σ H _ I h) fun v s1 h1=>thn h1 fun itv s2 h2=>?_) hs
 obtain ⟨it,fp,tn,J,H2,e,I2,T,st2,f2,W,⟨m0,w0⟩,turn⟩:=h2
 subst e
 have stat:∀{H':Hp},(∀b∈fp,H' b=none)→∀b∈fp,FpOk X pins H' b:=fun hn b hb=>⟨hn b hb,(f2 b hb).2⟩
 refine codeAny_forLoop_any (fun n s'=>∃i σ' H',Inv X pins σ' H' s'∧tn i s'.heap∧(∀b∈fp,H' b=none)∧W i n σ' H') ?_ m0 ⟨0,σ,H2,I2,st2,fun b hb=>(f2 b hb).1,w0⟩
 rintro n s3 ⟨i,σ3,H3,I3,st3,fr3,w3⟩
 rcases turn i n σ3 H3 w3 with ⟨stop,qn⟩ | ⟨go,N,hN,step⟩
 ·refine wpAny_passesOwn hp (thn (T.done X rfl rfl rfl hc i pins s3 σ3 H3 X.xe I3 (stat fr3) st3 stop) fun r s4 ⟨hr,I4⟩=>?_)
  subst hr
  exact wpAny_execs_nil ⟨σ3,H3,I4,qn⟩
 ·refine wpAny_passesOwn hp (thn (T.item X rfl rfl rfl hc i pins s3 σ3 H3 X.xe I3 (stat fr3) st3 go) fun r s4 ⟨u,hr,h4⟩=>?_)
  subst hr
  refine wpAny_passesOwn hp (thn h4 fun _ s5 ⟨x,H5,I5,r5,y5,st5,fr5⟩=>?_)
  have I5':=I5.pinned (stat fr5) (T.obj _ _ st5)
  refine wpAny_passesOwn hp (thn (hg _ s5 σ3 H5 x u _ I5' r5 (step x H5 y5)) fun _ s6 ⟨σ6,H6,I6,q6⟩=>?_)
  refine wpAny_passesOwn hp (thn (hb _ s6 σ6 H6 _ I6 q6) fun f s7 q7=>?_)
  have again:∀{σ7:St} {H7:Hp},Inv X (pins++GF fp s5.heap) σ7 H7 s7→N σ7 H7→∃m,m < n∧∃i σ' H',Inv X pins σ' H' s7∧tn i s7.heap∧(∀b∈fp,H' b=none)∧W i m σ' H':=fun {σ7 H7} I7 n7=>by
   obtain ⟨m',hm,w7⟩:=hN σ7 H7 n7
   refine ⟨m',hm,i + 1,σ7,H7,I7.unpinned,T.keep _ _ _ st5 fun b hb o e=>(I7.pin (b,o) (List.mem_append_right _ (List.mem_append_right _ (Dg hb e)))).1,fun b hb=>?_,w7⟩
   obtain ⟨o,e,d⟩:=T.obj _ _ st5 b hb
   exact (I7.pin (b,o) (List.mem_append_right _ (List.mem_append_right _ (Dg hb e)))).2.1
  cases f with
  | next=>obtain ⟨σ7,H7,I7,n7⟩:=q7;exact again I7 n7
  | cont=>obtain ⟨σ7,H7,I7,n7⟩:=q7;exact again I7 n7
  | brk=>obtain ⟨σ7,H7,I7,q7⟩:=q7;exact ⟨σ7,H7,I7.unpinned,q7⟩
  | ret v=>obtain ⟨x7,σ7,H7,I7,r7,q7⟩:=q7;exact ⟨x7,σ7,H7,I7.unpinned,r7,q7⟩
end
theorem HB {lo:Int} {n:Nat} {g:TG} {tb:TS} {D:Ends} {σ:St} {H:Hp} (Pv:Nat→St→Hp→Prop) (h0:Pv 0 σ H)
  (hs:∀i σ H,i < n→Pv i σ H→g (.int (lo + i)) σ H fun σ2 H2=>tb {D with nx:=Pv (i + 1),ct:=Pv (i + 1),bk:=D.nx} σ2 H2) (hd:∀σ H,Pv n σ H→D.nx σ H):
  ∃W:Nat→Nat→St→Hp→Prop,(∃m,W 0 m σ H)∧∀i m σ H,W i m σ H→
   ((Itr lo n).stop i H∧D.nx σ H)∨((Itr lo n).go i H∧∃N:St→Hp→Prop,(∀σ' H',N σ' H'→∃m',m' < m∧W (i + 1) m' σ' H')∧∀x H',(Itr lo n).yld i H x H'→g x σ H' fun σ2 H2=>tb {D with nx:=N,ct:=N,bk:=D.nx} σ2 H2):=by
 refine ⟨fun i m σ H=>m=n - i∧i≤n∧Pv i σ H,⟨n,by simp,Nat.zero_le _,h0⟩,?_⟩
 rintro i m σ H ⟨rfl,hi,p⟩
 by_cases hlt:i < n
 ·refine .inr ⟨hlt,Pv (i + 1),fun σ' H' p'=>⟨n - (i + 1),by omega,rfl,hlt,p'⟩,fun x H' y=>?_⟩
  obtain ⟨e,y⟩:=y
  subst e y
  exact hs i σ _ hlt p
 ·have e:i=n:=by omega
  subst e
  exact .inl ⟨Nat.le_refl _,hd σ H p⟩
abbrev R2:=V→V→Hp→VK→Prop
def OpR (X:Cx) (f:Value→Value→Sem Value) (r:R2):Prop:=
 ∀(pins:List (Addr×Obj)) (s:Shared) (σ:St) (H:Hp) (x y:V) (v u:Value) (Q:VK),Inv X pins σ H s→RelV x v→RelV y u→r x y H Q→
  wpAny (model X.prog X.w) X.A (f v u) (EP X pins σ Q) X.xe s
def UnR (X:Cx) (f:Value→Sem Value) (r:V→Hp→VK→Prop):Prop:=
 ∀(pins:List (Addr×Obj)) (s:Shared) (σ:St) (H:Hp) (x:V) (v:Value) (Q:VK),Inv X pins σ H s→RelV x v→r x H Q→
  wpAny (model X.prog X.w) X.A (f v) (EP X pins σ Q) X.xe s
def CallR (X:Cx) (f:Value) (r:List V→Hp→VK→Prop):Prop:=
 ∀(pins:List (Addr×Obj)) (s:Shared) (σ:St) (H:Hp) (xs:List V) (us:List Value) (Q:VK),Inv X pins σ H s→Vals xs us→r xs H Q→
  wpAny (model X.prog X.w) X.A (call f us) (EP X pins σ Q) X.xe s
def tOp (r:R2) (ta tb:TE):TE:=fun σ H Q=>ta σ H fun x H1=>tb σ H1 fun y H2=>r x y H2 Q
def tUn (r:V→Hp→VK→Prop) (ta:TE):TE:=fun σ H Q=>ta σ H fun x H1=>r x H1 Q
def rI (C:Int→Int→Prop) (g:Int→Int→V):R2:=fun x y H Q=>∃i j,x=.int i∧y=.int j∧C i j∧Q (g i j) H
def rI0 (g:Int→Int→V):R2:=fun x y H Q=>∃i j,x=.int i∧y=.int j∧Q (g i j) H
def rU (g:Int→V):V→Hp→VK→Prop:=fun x H Q=>∃i,x=.int i∧Q (g i) H
section
variable {X:Cx} {a b c:Expr} {ta tb tc:TE} {pos:Pos}
theorem binT (ha:PE X a ta) (hb:PE X b tb) {pins:List (Addr×Obj)} {s:Shared} {σ:St} {H:Hp} {R:V→V→Hp→Prop} (I:Inv X pins σ H s)
  (h:ta σ H fun x H1=>tb σ H1 fun y H2=>R x y H2) {Q:Value→Shared→Prop} {f:Value→Value→Sem Value}
  (hf:∀v u s2 x y H2,Inv X pins σ H2 s2→RelV x v→RelV y u→R x y H2→wpAny (model X.prog X.w) X.A (f v u) Q X.xe s2):
  wpAny (model X.prog X.w) X.A (eval a X.env) (fun v s₁=>wpAny (model X.prog X.w) X.A (eval b X.env) (fun u s₂=>wpAny (model X.prog X.w) X.A (f v u) Q X.xe s₂) X.xe s₁) X.xe s:=by
 refine thn (ha pins s σ H _ I h) fun v s1 ⟨x,H1,I1,r1,q1⟩=>?_
 refine thn (hb pins s1 σ H1 _ I1 q1) fun u s2 ⟨y,H2,I2,r2,q2⟩=>?_
 exact hf v u s2 x y H2 I2 r1 r2 q2
theorem Qb {op:Operator} {r:R2} (ho:OpR X (binaryOp op) r) (ha:PE X a ta) (hb:PE X b tb):PE X (.BinOp a op b pos) (tOp r ta tb):=by
 intro pins s σ H Q I h
 exact wpAny_BinOp (binT ha hb I h fun v u s2 x y H2 I2 rx ry q=>ho pins s2 σ H2 x y v u Q I2 rx ry q)
theorem Su {op:UnaryOp} {r:V→Hp→VK→Prop} (ho:UnR X (unaryOp op) r) (ha:PE X a ta):PE X (.UnaryOp op a pos) (tUn r ta):=by
 intro pins s σ H Q I h
 exact UnaryOp_ (thn (ha pins s σ H _ I h) fun v s1 ⟨x,H1,I1,r1,q1⟩=>ho pins s1 σ H1 x v Q I1 r1 q1)
theorem opI {f:Value→Value→Sem Value} {C:Int→Int→Prop} {g:Int→Int→Int}
  (rule:∀(i j:Int) (t u:Tok) (s:Shared) (Q:Value→Shared→Prop) (E:Value→Shared→Prop),C i j→Q (.int (g i j) s.toks) {s with toks:=s.toks + 1}→wpAny (model X.prog X.w) X.A (f (.int i t) (.int j u)) Q E s):
  OpR X f (rI C fun i j=>.int (g i j)):=by
 intro pins s σ H x y v u Q I rx ry h
 obtain ⟨i,j,rfl,rfl,hc,q⟩:=h
 obtain ⟨t,rfl⟩:=rx
 obtain ⟨t',rfl⟩:=ry
 exact rule i j t t' s _ _ hc ⟨.int (g i j),H,I.tok _,⟨_,rfl⟩,q⟩
theorem opI0 {f:Value→Value→Sem Value} {g:Int→Int→Int}
  (rule:∀(i j:Int) (t u:Tok) (s:Shared) (Q:Value→Shared→Prop) (E:Value→Shared→Prop),Q (.int (g i j) s.toks) {s with toks:=s.toks + 1}→wpAny (model X.prog X.w) X.A (f (.int i t) (.int j u)) Q E s):
  OpR X f (rI0 fun i j=>.int (g i j)):=by
 intro pins s σ H x y v u Q I rx ry h
 obtain ⟨i,j,rfl,rfl,q⟩:=h
 obtain ⟨t,rfl⟩:=rx
 obtain ⟨t',rfl⟩:=ry
 exact rule i j t t' s _ _ ⟨.int (g i j),H,I.tok _,⟨_,rfl⟩,q⟩
theorem opB0 {f:Value→Value→Sem Value} {g:Int→Int→Bool}
  (rule:∀(i j:Int) (t u:Tok) (s:Shared) (Q:Value→Shared→Prop) (E:Value→Shared→Prop),Q (.bool (g i j)) s→wpAny (model X.prog X.w) X.A (f (.int i t) (.int j u)) Q E s):
  OpR X f (rI0 fun i j=>.bl (g i j)):=by
 intro pins s σ H x y v u Q I rx ry h
 obtain ⟨i,j,rfl,rfl,q⟩:=h
 obtain ⟨t,rfl⟩:=rx
 obtain ⟨t',rfl⟩:=ry
 exact rule i j t t' s _ _ ⟨.bl (g i j),H,I,rfl,q⟩
def CDiv (i j:Int):Prop:=0 < j∧j < 1073741824
def CPow (i j:Int):Prop:=0≤j∧j≤1000000∧i.natAbs < 2 ^ 64
def CMul (i j:Int):Prop:=(-(2 ^ 64) < i∧i < 2 ^ 64)∨(-(2 ^ 64) < j∧j < 2 ^ 64)
theorem CMul.ok {i j:Int} (h:CMul i j):IntMulOk i j:=by
 rcases h with ⟨h1,h2⟩ | ⟨h1,h2⟩
 ·exact .of_left (intBits_le_64 h1 h2)
 ·exact .of_right (intBits_le_64 h1 h2)
theorem QQ:OpR X (binaryOp .Add) (rI0 fun i j=>.int (i + j)):=opI0 fun _ _ _ _ _ _ _ q=>add_int q
theorem QK:OpR X (binaryOp .Sub) (rI0 fun i j=>.int (i - j)):=opI0 fun _ _ _ _ _ _ _ q=>sub_int q
theorem Qs:OpR X (binaryOp .Mult) (rI CMul fun i j=>.int (i * j)):=opI fun _ _ _ _ _ _ _ hc q=>mul_int q hc.ok
theorem P4:OpR X (binaryOp .FloorDiv) (rI CDiv fun i j=>.int (i / j)):=opI fun i j _ _ _ _ _ hc q=>by
 have h1:(0:Int) < j:=hc.1
 have h2:j < 1073741824:=hc.2
 exact floordiv_int (by omega) (by rw [Int.fdiv_eq_ediv_of_nonneg i (by omega)];exact q) (.inl (PyProof.noPylong_small (by omega)))
theorem QP:OpR X (binaryOp .Mod) (rI (fun _ j=>0 < j) fun i j=>.int (i % j)):=opI fun i j _ _ _ _ _ hc q=>by
 have h1:(0:Int) < j:=hc
 exact mod_int' (by omega) (by rw [Int.fmod_eq_emod_of_nonneg i (by omega)];exact q)
theorem QY:OpR X (binaryOp .Pow) (rI CPow fun i j=>.int (i ^ j.toNat)):=opI fun _ _ _ _ _ _ _ hc q=>pow_int_small hc.1 hc.2.1 hc.2.2 q
theorem Re:OpR X (binaryOp .BitAnd) (rI0 fun i j=>.int (Builtin.bitAnd i j)):=opI0 fun _ _ _ _ _ _ _ q=>and_int q
theorem QU:OpR X (binaryOp .BitXor) (rI0 fun i j=>.int (Builtin.bitXor i j)):=opI0 fun _ _ _ _ _ _ _ q=>xor_int q
theorem unI {f:Value→Sem Value} {g:Int→Int}
  (rule:∀(i:Int) (t:Tok) (s:Shared) (Q:Value→Shared→Prop) (E:Value→Shared→Prop),Q (.int (g i) s.toks) {s with toks:=s.toks + 1}→wpAny (model X.prog X.w) X.A (f (.int i t)) Q E s):
  UnR X f (rU fun i=>.int (g i)):=by
 intro pins s σ H x v Q I rx h
 obtain ⟨i,rfl,q⟩:=h
 obtain ⟨t,rfl⟩:=rx
 exact rule i t s _ _ ⟨.int (g i),H,I.tok _,⟨_,rfl⟩,q⟩
theorem QB:UnR X (unaryOp .USub) (rU fun i=>.int (-i)):=unI fun _ _ _ _ _ q=>neg_int q
theorem RT:OpR X (compareOp .Lt) (rI0 fun i j=>.bl (decide (i < j))):=opB0 fun _ _ _ _ _ _ _ q=>lt_int q
theorem RH:OpR X (compareOp .LtE) (rI0 fun i j=>.bl (decide (i≤j))):=opB0 fun _ _ _ _ _ _ _ q=>le_int q
theorem Sc:OpR X (compareOp .Gt) (rI0 fun i j=>.bl (decide (j < i))):=opB0 fun _ _ _ _ _ _ _ q=>gt_int q
theorem Sf:OpR X (compareOp .GtE) (rI0 fun i j=>.bl (decide (j≤i))):=opB0 fun _ _ _ _ _ _ _ q=>ge_int q
theorem Ak (b:Expr) {op:CmpOp} (h:op≠.In:=by decide) (h2:op≠.NotIn:=by decide):behindInMarks op b=false:=by
 have e1:(op==CmpOp.In)=false:=by cases op <;> first | rfl | exact absurd rfl h
 have e2:(op==CmpOp.NotIn)=false:=by cases op <;> first | rfl | exact absurd rfl h2
 cases b <;> simp [behindInMarks,e1,e2]
theorem Pb {op:CmpOp} {r:R2} (ho:OpR X (compareOp op) r) (ha:PE X a ta) (hb:PE X b tb) (hm:behindInMarks op b=false):PE X (.Compare a [op] [b] pos) (tOp r ta tb):=by
 intro pins s σ H Q I h
 exact wpAny_Compare1 (binT ha hb I h fun v u s2 x y H2 I2 rx ry q=>ho pins s2 σ H2 x y v u Q I2 rx ry q) hm
def PL (t:TE):TT:=fun σ H Q=>t σ H fun x H'=>∃k,x=.bl k∧Q k H'
theorem Ix {op:CmpOp} {r:R2} (ho:OpR X (compareOp op) r) (ha:PE X a ta) (hb:PE X b tb) (hm:behindInMarks op b=false):PT X (.Compare a [op] [b] pos) (PL (tOp r ta tb)):=by
 intro pins s σ H Q I h
 refine wpAny_isTrue_Compare1 (thn (ha pins s σ H _ I h) fun v s1 ⟨x,H1,I1,r1,q1⟩=>thn (hb pins s1 σ H1 _ I1 q1) fun u s2 ⟨y,H2,I2,r2,q2⟩=>
  thn (ho pins s2 σ H2 x y v u _ I2 r1 r2 q2) fun c s3 ⟨z,H3,I3,r3,k,e,q3⟩=>?_) hm
 subst e
 cases r3
 exact wpAny_truthy_bool ⟨H3,I3,q3⟩
def O0 (r r':R2) (ta tb tc:TE):TE:=fun σ H Q=>ta σ H fun x H1=>tb σ H1 fun y H2=>r x y H2 fun z H3=>∃k,z=.bl k∧
 (if k=true then tc σ H3 fun w' H4=>r' y w' H4 Q else Q (.bl false) H3)
theorem MQ {op op':CmpOp} {r r':R2} (ho:OpR X (compareOp op) r) (ho':OpR X (compareOp op') r') (ha:PE X a ta) (hb:PE X b tb) (hc:PE X c tc)
  (hm:lastMarks [op,op'] [b,c]=false:=by with_unfolding_all rfl):PE X (.Compare a [op,op'] [b,c] pos) (O0 r r' ta tb tc):=by
 intro pins s σ H Q I h
 refine Compare_chain (thn (ha pins s σ H _ I h) fun v s1 ⟨x,H1,I1,r1,q1⟩=>chain_link (thn (hb pins s1 σ H1 _ I1 q1) fun u s2 ⟨y,H2,I2,r2,q2⟩=>
  thn (ho pins s2 σ H2 x y v u _ I2 r1 r2 q2) fun d s3 ⟨z,H3,I3,r3,k,e,q3⟩=>?_)) hm
 subst e
 cases r3
 refine wpAny_truthy_bool ?_
 cases k with
 | false=>exact ite_ff ⟨.bl false,H3,I3,rfl,q3⟩
 | true=>exact ite_tt (chain_last (thn (hc pins s3 σ H3 _ I3 q3) fun w' s4 ⟨z',H4,I4,r4,q4⟩=>ho' pins s4 σ H4 y z' u w' Q I4 r2 r4 q4))
theorem JY {op op':CmpOp} {r r':R2} (ho:OpR X (compareOp op) r) (ho':OpR X (compareOp op') r') (ha:PE X a ta) (hb:PE X b tb) (hc:PE X c tc)
  (hm:lastMarks [op,op'] [b,c]=false:=by with_unfolding_all rfl):PT X (.Compare a [op,op'] [b,c] pos) (PL (O0 r r' ta tb tc)):=by
 intro pins s σ H Q I h
 refine isTrue_chain (thn (ha pins s σ H _ I h) fun v s1 ⟨x,H1,I1,r1,q1⟩=>test_link (thn (hb pins s1 σ H1 _ I1 q1) fun u s2 ⟨y,H2,I2,r2,q2⟩=>
  thn (ho pins s2 σ H2 x y v u _ I2 r1 r2 q2) fun d s3 ⟨z,H3,I3,r3,k,e,q3⟩=>?_)) hm
 subst e
 cases r3
 refine wpAny_truthy_bool ?_
 cases k with
 | false=>
   obtain ⟨k',e',q'⟩:=q3
   cases e'
   exact ite_ff ⟨H3,I3,q'⟩
 | true=>
   refine ite_tt (test_last (thn (hc pins s3 σ H3 _ I3 q3) fun w' s4 ⟨z',H4,I4,r4,q4⟩=>thn (ho' pins s4 σ H4 y z' u w' _ I4 r2 r4 q4) fun d' s5 ⟨z2,H5,I5,r5,k2,e2,q5⟩=>?_))
   subst e2
   cases r5
   exact wpAny_truthy_bool ⟨H5,I5,q5⟩
theorem GJ:(sizeLine:Nat) < 2 ^ 63:=by rw [sizeLine_eq];decide
theorem vals1 {x:V} {us:List Value} (r:Vals [x] us):∃u,us=[u]∧RelV x u:=by
 cases r with
 | cons r1 r2=>cases r2;exact ⟨_,rfl,r1⟩
theorem vals2 {x y:V} {us:List Value} (r:Vals [x,y] us):∃u w',us=[u,w']∧RelV x u∧RelV y w':=by
 cases r with
 | cons r1 r2=>
   cases r2 with
   | cons r3 r4=>cases r4;exact ⟨_,_,rfl,r1,r3⟩
theorem MC (hc:X.calm=true):CallR X (.builtin "max") (fun xs H Q=>∃i j,xs=[.int i,.int j]∧Q (.int (if j > i then j else i)) H):=by
 intro pins s σ H xs us Q I r h
 obtain ⟨i,j,rfl,q⟩:=h
 obtain ⟨u,w',rfl,⟨t,rfl⟩,⟨t',rfl⟩⟩:=vals2 r
 refine max_two_ints (I.ok.hd hc) fun h' tk k=>⟨_,H,I.kept k,?_,q⟩
 by_cases hj:j > i
 ·rw [if_pos hj,if_pos hj];exact ⟨_,rfl⟩
 ·rw [if_neg hj,if_neg hj];exact ⟨_,rfl⟩
theorem Mv (hc:X.calm=true):CallR X (.builtin "min") (fun xs H Q=>∃i j,xs=[.int i,.int j]∧Q (.int (if j < i then j else i)) H):=by
 intro pins s σ H xs us Q I r h
 obtain ⟨i,j,rfl,q⟩:=h
 obtain ⟨u,w',rfl,⟨t,rfl⟩,⟨t',rfl⟩⟩:=vals2 r
 refine min_two_ints (I.ok.hd hc) fun h' tk k=>⟨_,H,I.kept k,?_,q⟩
 by_cases hj:j < i
 ·rw [if_pos hj,if_pos hj];exact ⟨_,rfl⟩
 ·rw [if_neg hj,if_neg hj];exact ⟨_,rfl⟩
theorem call_int1:CallR X (.type "int") (fun xs H Q=>(∃i,xs=[.int i]∧Q (.int i) H)∨∃k,xs=[.bl k]∧Q (.int (if k then 1 else 0)) H):=by
 intro pins s σ H xs us Q I r h
 rcases h with ⟨i,rfl,q⟩ | ⟨k,rfl,q⟩
 ·obtain ⟨u,rfl,t,rfl⟩:=vals1 r
  exact call_int_int ⟨.int i,H,I,⟨_,rfl⟩,q⟩
 ·obtain ⟨u,rfl,r1⟩:=vals1 r
  cases r1
  exact call_int_bool ⟨.int (if k then 1 else 0),H,I.tok _,⟨_,rfl⟩,q⟩
end
structure ObjM (h:Heap) (x dx C:Addr) (mA:Str→Option Value):Prop where
 obj:h.get? x=some (PySem.W.instObj C dx)
 ns:h.Ns1 dx mA
 ne:dx≠x
theorem Mp {h:Heap} {dx:Addr} {mA:Str→Option Value} (n:h.Ns1 dx mA):∃od,h.get? dx=some od∧∀name,PySem.W.lookIn name od=some (mA name):=by
 obtain ⟨o,es,ep,ho,hd,hk,_,hm⟩:=n
 refine ⟨o,ho,fun name=>?_⟩
 have e:=hm name
 unfold nsFind findBy at e
 rw [←Array.find?_toList] at e
 unfold PySem.W.lookIn
 rw [hd]
 dsimp only
 split
 ·rename_i y q
  rw [q] at e
  exact congrArg some e
 ·rename_i q
  rw [q] at e
  have a:es.toList.any (·.refKey)=false:=by
   rw [List.any_eq_false]
   intro y hy
   obtain ⟨z,t,hkey⟩:=hk y (Array.mem_toList_iff.mp hy)
   simp [DictEntry.refKey,hkey]
  have a':¬es.toList.any (·.refKey)=true:=by rw [a];exact Bool.false_ne_true
  rw [if_neg a']
  exact congrArg some e
theorem ObjM.look {h:Heap} {x dx C:Addr} {mA:Str→Option Value} (I:ObjM h x dx C mA):∃od,PySem.W.InstAt h x (PySem.W.instObj C dx) C (some od)∧∀name,PySem.W.lookIn name od=some (mA name):=
 let ⟨od,ho,hl⟩:=Mp I.ns
 ⟨od,⟨I.obj,rfl,rfl,ho⟩,hl⟩
section
variable {prog:Program} {w:World} {A:Around} {E:Value→Shared→Prop} {s:Shared} {K:PySem.W.Frag} {x dx C f:Addr} {mA:Str→Option Value} {name:Str} {v:Value}
theorem get_map {expr:Bool} {Q:Value→Shared→Prop} (X:K.In s.heap) (I:ObjM s.heap x dx C mA) (hg:PySem.W.plainGet K C name=true) (hh:PySem.W.hasDictIn K C=true)
  (ha:PySem.W.findIn K (.ref C) name=some none) (hv:mA name=some v) (hv':PySem.W.handedIn v=true) (h:Q v {s with toks:=s.toks + 1}):
  wpAny (model prog w) A (getAttr (.ref x) name expr) Q E s:=by
 obtain ⟨od,J,hl⟩:=I.look
 exact PySem.W.get_value X J (PySem.W.plainGet_of hg).1 (PySem.W.findObj_own hh ha rfl (by rw [hl,hv])) hv' h
theorem NQ {pl:Sem Bool} {Q:Value×List Value→Shared→Prop} (X:K.In s.heap) (I:ObjM s.heap x dx C mA) (hg:PySem.W.plainGet K C name=true)
  (hf:PySem.W.findIn K (.ref C) name=some (some (.ref f))) (ht:PySem.W.isFn K (.ref f)=true) (hv:mA name=none) (h:Q (.ref f,[.ref x]) s):
  wpAny (model prog w) A (getMethod (.ref x) name pl) Q E s:=by
 obtain ⟨od,J,hl⟩:=I.look
 exact PySem.W.method_fn X J (PySem.W.plainGet_of hg).1 (PySem.W.plainGet_of hg).2 hf (beq_iff_eq.mp ht) (by show (PySem.W.lookIn name od).map (·.isSome)=some false;rw [hl,hv];rfl) h
theorem Px {ns:List Str} {Q:Unit→Shared→Prop} (X:K.In s.heap) (I:ObjM s.heap x dx C mA)
  (hs:PySem.W.findIn K (.ref C) "__setattr__"=some (some (.builtin "object.__setattr__"))) (hp:PySem.W.plainOver K C=true) (ht:PySem.W.takerIn K C name=some none) (hh:PySem.W.hasDictIn K C=true)
  (hw:PySem.Within mA ns) (hsz:ns.length≤sizeLine)
  (h:∀h',ObjM h' x dx C (fun y=>if y=name then some v else mA y)→Heap.SameBut dx s.heap h'→Q () {s with heap:=h',toks:=s.toks + 2}):
  wpAny (model prog w) A (setAttr (.ref x) name v) Q E s:=by
 obtain ⟨od,J,hl⟩:=I.look
 refine PySem.W.set_plain X J hs (PySem.W.osa_open (s:={s with toks:=s.toks + 1}) (r:=none) X J hp ht fun b=>?_)
 obtain ⟨cd,hc,hd'⟩:=PySem.W.any_some hh
 have hx:s.heap.get? x=some ⟨.ref C,some dx,.plain,#[]⟩:=I.obj
 refine wpAny_bind (wpAny_pure (wpAny_bind (wpAny_bind (wpAny_loadPart hx (wpAny_bind (PySem.W.Looks.here (s:={s with toks:=s.toks + 1}) (PySem.W.looks_clsIn X hc) ?_))))))
 rw [hd']
 refine wpAny_pure (a:=some dx) (wpAny_bind (wpAny_pure (wpAny_bind ?_)))
 refine wpAny_nsSet1 (s:={s with toks:=s.toks + 1}) I.ns fun h' hn2 hs2=>?_
 obtain ⟨oD,esD,epD,hoD,hdD,hcD⟩:=hn2.count (PySem.Within.cons name v hw)
 refine wpAny_bind (wpAny_lookBehind hoD (by rw [hdD];exact pastItsLine_dict (Nat.le_trans hcD (by rw [List.length_cons];omega))) ?_)
 exact wpAny_pure (h _ ⟨(hs2.2 _ (Ne.symm I.ne)).trans I.obj,hn2,I.ne⟩ hs2)
theorem Od {R:Result→Shared→Prop} {vs:List Value} {kw:List (Str×Value)} (X:K.In s.heap) (hm:PySem.W.makesIn K C=true)
  (hi:PySem.W.findIn K (.ref C) "__init__"=some (some (.ref f))) (hf:PySem.W.typeIn K (.ref f)=some (.type "function"))
  (h:codeAny (model prog w) (A.under (.builtin "type.__call__" ⟨.ref C::vs,kw⟩)) (.call (.ref f) ⟨.ref (s.heap.objs.size + 1)::vs,kw⟩) (PySem.W.InitBack (s.heap.objs.size + 1) R)
   {s with heap:=(s.heap.push PySem.W.emptyDict).push (PySem.W.instObj C s.heap.objs.size)}):
  codeAny (model prog w) A (.call (.ref C) ⟨vs,kw⟩) R s:=by
 obtain ⟨hh,g,d,t,os⟩:=s
 exact PySem.W.make_core (PySem.W.makes_of X hm) (PySem.W.looks_findIn X hi) (fun self=>PySem.W.bind_fn X self hf) (.inl rfl) h
end
def putF (f:Str) (v:V):List (Str×V)→List (Str×V)
 | []=>[(f,v)]
 | (g,x)::r=>if g=f then (g,v)::r else (g,x)::putF f v r
theorem A5 (f g:Str) (v:V):∀fs:List (Str×V),(putF f v fs).lookup g=if g=f then some v else fs.lookup g
 | []=>by
   show List.lookup g [(f,v)]=_
   by_cases h:g=f
   ·have hb:(g==f)=true:=beq_iff_eq.mpr h
    simp only [List.lookup,hb,if_pos h]
   ·have hb:(g==f)=false:=beq_eq_false_iff_ne.mpr h
    simp only [List.lookup,hb,if_neg h]
 | (k,x)::r=>by
   have ih:=A5 f g v r
   rw [show putF f v ((k,x)::r)=(if k=f then (k,v)::r else (k,x)::putF f v r) from rfl]
   by_cases hk:k=f
   ·rw [if_pos hk]
    by_cases h:g=k
    ·have hb:(g==k)=true:=beq_iff_eq.mpr h
     simp only [List.lookup,hb,if_pos (h.trans hk)]
    ·have hb:(g==k)=false:=beq_eq_false_iff_ne.mpr h
     simp only [List.lookup,hb,if_neg (fun e:g=f=>h (e.trans hk.symm))]
   ·rw [if_neg hk]
    by_cases h:g=k
    ·have hb:(g==k)=true:=beq_iff_eq.mpr h
     simp only [List.lookup,hb,if_neg (fun e:g=f=>hk (h.symm.trans e))]
    ·have hb:(g==k)=false:=beq_eq_false_iff_ne.mpr h
     simp only [List.lookup,hb]
     exact ih
theorem Fi (f:Str) (v:V):∀fs:List (Str×V),f∈(putF f v fs).map (·.1)∧∀g,g∈fs.map (·.1)→g∈(putF f v fs).map (·.1)
 | []=>⟨by simp [putF],fun g h=>by simp at h⟩
 | (k,x)::r=>by
   obtain ⟨i1,i2⟩:=Fi f v r
   rw [show putF f v ((k,x)::r)=(if k=f then (k,v)::r else (k,x)::putF f v r) from rfl]
   by_cases hk:k=f
   ·rw [if_pos hk]
    subst hk
    exact ⟨by simp,fun g h=>by simpa using h⟩
   ·rw [if_neg hk]
    refine ⟨?_,fun g h=>?_⟩
    ·rw [List.map_cons]
     exact List.mem_cons_of_mem _ i1
    ·rw [List.map_cons] at h ⊢
     rcases List.mem_cons.mp h with e | e
     ·exact List.mem_cons.mpr (.inl e)
     ·exact List.mem_cons_of_mem _ (i2 g e)
theorem C0 (f:Str) (v:V):∀fs:List (Str×V),(putF f v fs).length≤fs.length + 1
 | []=>by simp [putF]
 | (k,x)::r=>by
   have ih:=C0 f v r
   rw [show putF f v ((k,x)::r)=(if k=f then (k,v)::r else (k,x)::putF f v r) from rfl]
   by_cases hk:k=f
   ·rw [if_pos hk,List.length_cons,List.length_cons];omega
   ·rw [if_neg hk,List.length_cons,List.length_cons];omega
theorem RelO.some_of {v:V} {o:Option Value} (r:RelO (some v) o):∃u,o=some u∧RelV v u:=by
 cases o with
 | none=>exact (show False from r).elim
 | some u=>exact ⟨u,rfl,r⟩
theorem RelO.none_of {o:Option Value} (r:RelO none o):o=none:=by
 cases o with
 | none=>rfl
 | some u=>exact (show False from r).elim
theorem Mg {v:V} {u:Value} (r:RelV v u):PySem.W.handedIn u=true:=by
 cases v with
 | non=>cases (show u=Value.none from r);rfl
 | bl b=>cases (show u=Value.bool b from r);rfl
 | int i=>obtain ⟨t,e⟩:=(show ∃t,u=Value.int i t from r);cases e;rfl
 | str x=>obtain ⟨t,e⟩:=(show ∃t,u=Value.str x t from r);cases e;rfl
 | byt b=>obtain ⟨t,e⟩:=(show ∃t,u=Value.bytes b t from r);cases e;rfl
 | flt b=>obtain ⟨t,e⟩:=(show ∃t,u=Value.float b t from r);cases e;rfl
 | ref a=>cases (show u=Value.ref a from r);rfl
 | ty n=>cases (show u=Value.type n from r);rfl
section
variable {P:Program} {w:World} {H H':Hp} {h h':Heap} {a C dx:Addr} {fs fs':List (Str×V)}
theorem Gh (hok:HOk P w H h) (e:H a=some (.ins C dx fs)):∃mA,ObjM h a dx C mA∧(∀f,RelO (fs.lookup f) (mA f))∧PySem.Within mA (fs.map (·.1))∧fs.length≤1000∧H dx=some (.own a):=by
 obtain ⟨d,z,ne,ob,mA,n,r,q⟩:=(show ObjOk P w H h a (.ins C dx fs) from hok a _ e)
 exact ⟨mA,⟨ob,n,ne⟩,r,q,z,d⟩
end
structure Cls (K:PySem.W.Frag) (C:Addr):Prop where
 pg:PySem.W.plainGet K C Str.empty=true
 hd:PySem.W.hasDictIn K C=true
 po:PySem.W.plainOver K C=true
 sa:PySem.W.findIn K (.ref C) "__setattr__"=some (some (.builtin "object.__setattr__"))
theorem Cls.get {K:PySem.W.Frag} {C:Addr} (c:Cls K C) (f:Str):PySem.W.plainGet K C f=true:=c.pg
def NoAttr (K:PySem.W.Frag) (C:Addr) (f:Str):Prop:=PySem.W.findIn K (.ref C) f=some none
theorem NoAttr.taker {K:PySem.W.Frag} {C:Addr} {f:Str} (n:NoAttr K C f):PySem.W.takerIn K C f=some none:=by
 unfold PySem.W.takerIn
 rw [show PySem.W.findIn K (.ref C) f=some none from n]
 rfl
structure Con (K:PySem.W.Frag) (C:Addr) (f:Str) (v:V) (u:Value):Prop where
 at_:PySem.W.findIn K (.ref C) f=some (some u)
 rel:RelV v u
 get:PySem.W.specialIn K u "__get__"=some none
 cp:PySem.W.copiedNames.contains f=false
structure Meth (K:PySem.W.Frag) (C:Addr) (m:Str) (f:Addr):Prop where
 at_:PySem.W.findIn K (.ref C) m=some (some (.ref f))
 fn:PySem.W.isFn K (.ref f)=true
 kp:PySem.W.keepIn K (.ref f)=true
section
variable {X:Cx} {pins:List (Addr×Obj)} {σ:St} {H:Hp} {s:Shared} {a C dx:Addr} {fs:List (Str×V)} {f:Str} {v:V} {A:Around} {E:Value→Shared→Prop}
theorem Hd {b:Bool} {Q:Value→Shared→Prop} (I:Inv X pins σ H s) (e:H a=some (.ins C dx fs)) (c:Cls X.K C) (n:NoAttr X.K C f) (l:fs.lookup f=some v)
  (h:∀u s',Inv X pins σ H s'→RelV v u→Q u s'):wpAny (model X.prog X.w) A (getAttr (.ref a) f b) Q E s:=by
 obtain ⟨mA,O,r,_,_,_⟩:=Gh I.hok e
 obtain ⟨u,hu,ru⟩:=RelO.some_of (v:=v) (o:=mA f) (by rw [←l];exact r f)
 exact get_map I.kIn O (c.get f) c.hd n hu (Mg ru) (h u _ (I.tok _) ru)
theorem GG {m:Str} {g:Addr} {pl:Sem Bool} {Q:Value×List Value→Shared→Prop} (I:Inv X pins σ H s) (e:H a=some (.ins C dx fs)) (c:Cls X.K C) (k:Meth X.K C m g) (l:fs.lookup m=none)
  (h:Q (.ref g,[.ref a]) s):wpAny (model X.prog X.w) A (getMethod (.ref a) m pl) Q E s:=by
 obtain ⟨mA,O,r,_,_,_⟩:=Gh I.hok e
 have hn:mA m=none:=RelO.none_of (by rw [←l];exact r m)
 exact NQ I.kIn O (c.get m) k.at_ k.fn hn h
theorem GP {y:V} {u:Value} {Q:Unit→Shared→Prop} (I:Inv X pins σ H s) (e:H a=some (.ins C dx fs)) (c:Cls X.K C) (n:NoAttr X.K C f) (hl:fs.length < 1000) (ry:RelV y u)
  (h:∀s',Inv X pins σ (upd H a (.ins C dx (putF f y fs))) s'→Q () s'):wpAny (model X.prog X.w) A (setAttr (.ref a) f u) Q E s:=by
 obtain ⟨mA,O,r,wi,_,ho⟩:=Gh I.hok e
 have hz:(fs.map (·.1)).length≤sizeLine:=by rw [List.length_map,sizeLine_eq];omega
 refine Px I.kIn O c.sa c.po n.taker c.hd wi hz fun h' O' sb=>h _ ?_
 have hd:∃o,h'.get? dx=some o:=let ⟨o,_,_,e',_⟩:=O'.ns;⟨o,e'⟩
 refine I.write (x:=a) (e:=dx) (by rw [e];exact True.intro) (.inr ho) (fun b q hb z=>(sb.2 b hb).trans z) hd ?_
 refine ⟨by rw [Au O.ne];exact ho,?_,O.ne,O'.obj,_,O'.ns,fun g=>?_,fun g hg=>?_⟩
 ·have:=C0 f y fs;omega
 ·show RelO ((putF f y fs).lookup g) (if g=f then some u else mA g)
  rw [A5]
  by_cases q:g=f
  ·rw [if_pos q,if_pos q];exact ry
  ·rw [if_neg q,if_neg q];exact r g
 ·by_cases q:g=f
  ·rw [q];exact (Fi f y fs).1
  ·refine (Fi f y fs).2 g (wi g fun z=>hg ?_)
   show (if g=f then some u else mA g)=none
   rw [if_neg q];exact z
theorem Inv.made (I:Inv X pins σ H s):Inv X pins σ (upd (upd H s.heap.objs.size (.own (s.heap.objs.size + 1))) (s.heap.objs.size + 1) (.ins C s.heap.objs.size []))
  {s with heap:=(s.heap.push PySem.W.emptyDict).push (PySem.W.instObj C s.heap.objs.size)}:=by
 have e1:(s.heap.push PySem.W.emptyDict).get? s.heap.objs.size=some PySem.W.emptyDict:=Heap.get?_push_size s.heap rfl
 have e2:((s.heap.push PySem.W.emptyDict).push (PySem.W.instObj C s.heap.objs.size)).get? (s.heap.objs.size + 1)=some (PySem.W.instObj C s.heap.objs.size):=by
  have:=Heap.get?_push_size (s.heap.push PySem.W.emptyDict) (o:=PySem.W.instObj C s.heap.objs.size) rfl
  rwa [Heap.size_push] at this
 have e3:(s.heap.push PySem.W.emptyDict).Ns s.heap.objs.size (fun _=>none):=⟨PySem.W.emptyDict,#[],_,e1,rfl,(fun e he=>absurd he (by simp)),fun _=>rfl⟩
 have I1:=I.laid (a:=s.heap.objs.size) (o:=.own (s.heap.objs.size + 1)) (h':=s.heap.push PySem.W.emptyDict) (t':=s.toks) (fun b u q=>Heap.get?_push_of_some _ q) (Nat.le_refl _) ⟨_,e1⟩
 refine I1.laid (a:=s.heap.objs.size + 1) (o:=.ins C s.heap.objs.size []) (t':=s.toks) (fun b u q=>Heap.get?_push_of_some _ q) (Nat.le_of_eq (Heap.size_push _ _)) ?_
 have ne:s.heap.objs.size≠s.heap.objs.size + 1:=Nat.ne_of_lt (Nat.lt_succ_self _)
 refine ⟨by rw [Au ne,Aw],Nat.zero_le _,ne,e2,fun _=>none,(Heap.Ns1.of_empty e3).at fun o q=>Heap.get?_push_of_some _ q,fun _=>True.intro,fun y hy=>absurd rfl hy⟩
theorem Ps {prog:Program} {w:World} {env:Env} {e:Expr} {f:Str} {pos:Pos} {s:Shared} {Q:Value→Shared→Prop} (hb:attributeBase e f env (eval e env)=eval e env)
  (h:wpAny (model prog w) A (eval e env) (fun o s₁=>wpAny (model prog w) A (getAttr o f true) Q E s₁) E s):wpAny (model prog w) A (eval (.Attribute e f pos) env) Q E s:=
 Attribute_any_ h (by rw [arm_eval_Attribute,hb])
end
def tFld (K:PySem.W.Frag) (ta:TE) (f:Str):TE:=fun σ H Q=>ta σ H fun x H1=>∃a C dx fs v,x=.ref a∧H1 a=some (.ins C dx fs)∧Cls K C∧NoAttr K C f∧fs.lookup f=some v∧Q v H1
def sFld (K:PySem.W.Frag) (ta tv:TE) (f:Str):TS:=fun D σ H=>tv σ H fun y H1=>ta σ H1 fun x H2=>∃a C dx fs,x=.ref a∧H2 a=some (.ins C dx fs)∧Cls K C∧NoAttr K C f∧fs.length < 1000∧
 D.nx σ (upd H2 a (.ins C dx (putF f y fs)))
def InOp (X:Cx) (op:Operator) (rd:V→V→Hp→VK→Prop):Prop:=
 ∀(pins:List (Addr×Obj)) (s:Shared) (σ:St) (H:Hp) (x y:V) (u v:Value) (Q:VK),Inv X pins σ H s→RelV x u→RelV y v→rd x y H Q→wpAny (model X.prog X.w) X.A (inplaceOp op u v) (EP X pins σ Q) X.xe s
def Pu (K:PySem.W.Frag) (ta tv:TE) (rd:V→V→Hp→VK→Prop) (f:Str):TS:=fun D σ H=>ta σ H fun x H1=>∃a C dx fs v,x=.ref a∧H1 a=some (.ins C dx fs)∧Cls K C∧NoAttr K C f∧fs.lookup f=some v∧
 tv σ H1 fun y H2=>rd v y H2 fun z H3=>∃dx' fs',H3 a=some (.ins C dx' fs')∧fs'.length < 1000∧D.nx σ (upd H3 a (.ins C dx' (putF f z fs')))
section
variable {X:Cx} {o e value:Expr} {f:Str} {pos pos' tpos:Pos} {ta tv:TE}
theorem K9 (he:PE X e ta) (hb:attributeBase e f X.env (eval e X.env)=eval e X.env):PE X (.Attribute e f pos) (tFld X.K ta f):=by
 intro pins s σ H Q I h
 refine Ps hb (thn (he pins s σ H _ I h) fun u s1 ⟨x,H1,I1,rx,a,C,dx,fs,v,ex,ea,c,n,l,q⟩=>?_)
 subst ex
 obtain rfl:u=Value.ref a:=rx
 exact Hd I1 ea c n l fun u' s2 I2 ru=>⟨v,H1,I2,ru,q⟩
theorem Ig (ha:PE X o ta) (hv:PE X value tv) (hs:swapsWith value (some (.Attribute o f pos')) pos.line X.env=pure false):PS X (.Assign [.Attribute o f pos'] value pos) (sFld X.K ta tv f):=by
 intro pins s σ H D I h
 refine plainObj_wpAny_Assign_Attribute (thn (hv pins s σ H _ I h) fun u s1 ⟨y,H1,I1,ry,q⟩=>thn (ha pins s1 σ H1 _ I1 q) fun ov s2 ⟨x,H2,I2,rx,a,C,dx,fs,ex,ea,c,n,l,q2⟩=>?_) hs
 subst ex
 obtain rfl:ov=Value.ref a:=rx
 exact GP I2 ea c n l ry fun s3 I3=>⟨σ,_,I3,q2⟩
theorem M6 {op:Operator} {rd:V→V→Hp→VK→Prop} (ha:PE X o ta) (hv:PE X value tv) (hop:InOp X op rd):PS X (.AugAssign (.Attribute o f tpos) op value pos) (Pu X.K ta tv rd f):=by
 intro pins s σ H D I h
 refine wpAny_AugAssign_AttributeAny (thn (ha pins s σ H _ I h) fun ov s1 ⟨x,H1,I1,rx,a,C,dx,fs,v,ex,ea,c,n,l,q⟩=>?_)
 subst ex
 obtain rfl:ov=Value.ref a:=rx
 refine Hd I1 ea c n l fun u s2 I2 ru=>thn (hv pins s2 σ H1 _ I2 q) fun w3 s3 ⟨y,H2,I3,ry,q3⟩=>thn (hop pins s3 σ H2 v y u w3 _ I3 ru ry q3) fun w4 s4 ⟨z,H3,I4,rz,dx',fs',ea',l',q4⟩=>?_
 exact GP I4 ea' c n l' rz fun s5 I5=>⟨σ,_,I5,q4⟩
def rAdd:V→V→Hp→VK→Prop:=fun x y H Q=>∃i j,x=.int i∧y=.int j∧Q (.int (i + j)) H
theorem QI:InOp X .Add rAdd:=by
 rintro pins s σ H x y u v Q I rx ry ⟨i,j,rfl,rfl,q⟩
 obtain ⟨t,rfl⟩:=(show ∃t,u=Value.int i t from rx)
 obtain ⟨t',rfl⟩:=(show ∃t',v=Value.int j t' from ry)
 exact PyProof.Rows.iadd_int ⟨.int (i + j),H,I.tok _,⟨_,rfl⟩,q⟩
end
section
variable {X:Cx} {pins:List (Addr×Obj)} {σ:St} {H:Hp} {s:Shared} {A:Around} {E:Value→Shared→Prop} {Q:Value→Shared→Prop} {c:Value} {b:Bool}
inductive TyOf (K:PySem.W.Frag) (H:Hp):V→Value→Prop where
 | non:TyOf K H .non (.type "NoneType")
 | bl (x:Bool):TyOf K H (.bl x) (.type "bool")
 | int (i:Int):TyOf K H (.int i) (.type "int")
 | str (x:Str):TyOf K H (.str x) (.type "str")
 | flt (x:UInt64):TyOf K H (.flt x) (.type "float")
 | lst {a:Addr} {xs:List V} (e:H a=some (.lst xs)):TyOf K H (.ref a) (.type "list")
 | frz {a:Addr} {o:Obj} {xs:List V} (e:H a=some (.frz o (.lst xs))):TyOf K H (.ref a) (.type "list")
 | tup {a:Addr} {xs:List V} (e:H a=some (.tup xs)):TyOf K H (.ref a) (.type "tuple")
 | dK {a:Addr} {kvs:List (Key×V)} (e:H a=some (.dK kvs)):TyOf K H (.ref a) (.type "dict")
 | dT {a:Addr} {kvs:List (List Key×V)} (e:H a=some (.dT kvs)):TyOf K H (.ref a) (.type "dict")
 | ins {a C dx:Addr} {fs:List (Str×V)} (e:H a=some (.ins C dx fs)) (cl:Cls K C) (ha:PySem.W.findIn K (.ref C) "__class__"=some (some (.builtin "object.__class__")))
   (hn:PySem.W.specialIn K (.builtin "object.__class__") "__get__"=some (some (.builtin "getset_descriptor.__get__"))) (htk:PySem.W.takesIn K (.builtin "object.__class__")=some true)
   (hm:PySem.W.mroIn K C (.type "object")=some true):TyOf K H (.ref a) (.ref C)
theorem DS {x:V} {u t:Value} (I:Inv X pins σ H s) (rx:RelV x u) (ty:TyOf X.K H x t) (e:PySem.W.kitOne X.K t c=some b) (h:∀tk,Q (.bool b) {s with toks:=tk}):
  wpAny (model X.prog X.w) A (call (.builtin "isinstance") [u,c]) Q E s:=by
 cases ty with
 | non=>cases (show u=Value.none from rx);exact PySem.W.kia_one PySem.W.kitx_none I.kIn True.intro e (fun z=>nomatch z) h
 | bl y=>cases (show u=Value.bool y from rx);exact PySem.W.kia_one PySem.W.kitx_bool I.kIn True.intro e (fun z=>nomatch z) h
 | int i=>obtain ⟨t,q⟩:=(show ∃t,u=Value.int i t from rx);cases q;exact PySem.W.kia_one PySem.W.kitx_int I.kIn True.intro e (fun z=>nomatch z) h
 | str y=>obtain ⟨t,q⟩:=(show ∃t,u=Value.str y t from rx);cases q;exact PySem.W.kia_one PySem.W.kitx_str I.kIn True.intro e (fun z=>nomatch z) h
 | flt y=>obtain ⟨t,q⟩:=(show ∃t,u=Value.float y t from rx);cases q;exact PySem.W.kia_one PySem.W.kitx_float I.kIn True.intro e (fun z=>nomatch z) h
 | @lst a xs ea=>
   cases (show u=Value.ref a from rx)
   obtain ⟨_,_,n,_,h1⟩:=(show ObjOk X.prog X.w H s.heap a (.lst xs) from I.hok a _ ea)
   exact PySem.W.kia_one PySem.W.kitx_list I.kIn ⟨_,h1,rfl⟩ e (fun z=>nomatch z) h
 | @frz a ob xs ea=>
   cases (show u=Value.ref a from rx)
   obtain ⟨_,_,_,n,_,h1⟩:=(show ObjOk X.prog X.w H s.heap a (.frz ob (.lst xs)) from I.hok a _ ea)
   exact PySem.W.kia_one PySem.W.kitx_list I.kIn ⟨_,h1,rfl⟩ e (fun z=>nomatch z) h
 | @tup a xs ea=>
   cases (show u=Value.ref a from rx)
   obtain ⟨_,⟨_,_,p⟩,_⟩:=(show ObjOk X.prog X.w H s.heap a (.tup xs) from I.hok a _ ea)
   obtain ⟨o,h1,h2,_⟩:=p
   exact PySem.W.kia_one PySem.W.kitx_tuple I.kIn ⟨o,h1,h2⟩ e (fun z=>nomatch z) h
 | @dK a kvs ea=>
   cases (show u=Value.ref a from rx)
   obtain ⟨_,_,vs,_,p⟩:=(show ObjOk X.prog X.w H s.heap a (.dK kvs) from I.hok a _ ea)
   obtain ⟨o,es,ep,h1,h2,_⟩:=p
   exact PySem.W.kia_one PySem.W.kitx_dict I.kIn ⟨o,h1,h2.1⟩ e (fun z=>nomatch z) h
 | @dT a kvs ea=>
   cases (show u=Value.ref a from rx)
   obtain ⟨_,_,xs,_,o,es,ep,h1,h2,_⟩:=(show ObjOk X.prog X.w H s.heap a (.dT kvs) from I.hok a _ ea)
   exact PySem.W.kia_one PySem.W.kitx_dict I.kIn ⟨o,h1,h2.1⟩ e (fun z=>nomatch z) h
 | @ins a C dx fs ea cl ha hn htk hm=>
   cases (show u=Value.ref a from rx)
   obtain ⟨mA,O,_⟩:=Gh I.hok ea
   obtain ⟨od,J,_⟩:=O.look
   exact PySem.W.kia_one (PySem.W.kitx_own (cl.get _) cl.hd ha hn htk hm) I.kIn J e (fun z=>nomatch z) h
end
structure Room (k:Nat) (A:Around):Prop where
 hd:A.handled=none
 dp:A.depth + 3 * k + 5 < recursionLimit
 un:A.units + 16 * k + 200 < cLine
theorem Room.mono {j k:Nat} {A:Around} (r:Room k A) (h:j≤k):Room j A:=⟨r.hd,by have:=r.dp;omega,by have:=r.un;omega⟩
theorem Room.deeper {k:Nat} {A:Around} (r:Room (k + 1) A) (env:Env):Room k (A.deeper env):=
 ⟨r.hd,by have:=r.dp;show A.depth + 1 + 3 * k + 5 < _;omega,by have:=r.un;show A.units + 3 + 16 * k + 200 < _;omega⟩
theorem Kw {A:Around} {C:Addr} {us:List Value} {kw:List (Str×Value)}:(A.under (.builtin "type.__call__" ⟨.ref C::us,kw⟩)).depth=A.depth + 1:=by
 first | rfl | simp [Around.under,Code.weight,Code.isCreation,Code.isGuard,Code.isCaller,Code.frames,Code.isFrame,guardIds]
theorem Ks {A:Around} {C:Addr} {us:List Value} {kw:List (Str×Value)}:(A.under (.builtin "type.__call__" ⟨.ref C::us,kw⟩)).units=A.units + 1:=by
 first | rfl | simp [Around.under,Code.cUnits,Code.frames,Code.isFrame]
theorem Room.make {k:Nat} {A:Around} (r:Room (k + 1) A) (C:Addr) (us:List Value) (kw:List (Str×Value)):Room k (A.under (.builtin "type.__call__" ⟨.ref C::us,kw⟩)):=
 ⟨r.hd,by have:=r.dp;rw [Kw];omega,by have:=r.un;rw [Ks];omega⟩
theorem Room.depth {k:Nat} {A:Around} (r:Room k A):A.depth < recursionLimit:=by have:=r.dp;omega
theorem Room.units {k:Nat} {A:Around} (r:Room k A):A.units + 64 < cLine:=by have:=r.un;omega
def tNil:TA:=fun _ H Q=>Q [] H
def Sa (ta:TE) (tr:TA):TA:=fun σ H Q=>ta σ H fun x H1=>tr σ H1 fun xs H2=>Q (x::xs) H2
section
variable {X:Cx} {e:Expr} {es:List Expr} {te:TE} {t:TA} {pos:Pos}
theorem pa_nil:PA X [] tNil:=fun _ _ _ _ H Q I h=>Calls.spliced_nil ⟨[],H,I,.nil,h⟩
theorem BD (ha:PE X e te) (hr:PA X es t) (hs:starEach (e::es) X.env=(false,eval e X.env)::starEach es X.env:=by rfl):PA X (e::es) (Sa te t):=by
 intro pos pins s σ H Q I h
 rw [hs]
 show wpAny _ _ (spliced ((false,eval e X.env)::backTo pos (starEach es X.env))) _ _ s
 refine Calls.spliced_cons (thn (ha pins s σ H _ I h) fun u s1 ⟨x,H1,I1,r1,q1⟩=>?_)
 exact thn (hr pos pins s1 σ H1 _ I1 q1) fun us s2 ⟨xs,H2,I2,r2,q2⟩=>⟨x::xs,H2,I2,.cons r1 r2,q2⟩
def tTup (t:TA):TE:=fun σ H Q=>t σ H fun xs H1=>xs.length≤sizeLine∧∀p,H1 p=none→Q (.ref p) (upd H1 p (.tup xs))
def tLst (t:TA):TE:=fun σ H Q=>t σ H fun xs H1=>xs.length≤sizeLine∧∀p,H1 p=none→Q (.ref p) (upd H1 p (.lst xs))
theorem NA {x1} (h:PA X es t):PE X (.Tuple es x1 pos) (tTup t):=by
 intro pins s σ H Q I hq
 refine wpAny_Tuple_spliced (thn (h pos pins s σ H _ I hq) fun us s1 ⟨xs,H1,I1,r,z,q⟩=>⟨by rw [←r.length];exact z,?_⟩)
 have hf:H1 s1.heap.objs.size=none:=I1.hok.fresh (Nat.le_refl _)
 refine ⟨.ref s1.heap.objs.size,upd H1 s1.heap.objs.size (.tup xs),I1.laid (t':=s1.toks) (fun b u e=>Heap.get?_push_of_some _ e) (Nat.le_refl _) ?_,rfl,q _ hf⟩
 exact ⟨z,⟨us,r,⟨_,Heap.get?_push_size _ rfl,rfl,_,rfl⟩⟩,_,Heap.get?_push_size _ rfl,rfl⟩
theorem G5 (h:PA X es t):PE X (.List es pos) (tLst t):=by
 intro pins s σ H Q I hq
 refine wpAny_List_spliced (thn (h pos pins s σ H _ I hq) fun us s1 ⟨xs,H1,I1,r,z,q⟩=>⟨by rw [←r.length];exact z,?_⟩)
 have hf:H1 s1.heap.objs.size=none:=I1.hok.fresh (Nat.le_refl _)
 refine ⟨.ref s1.heap.objs.size,upd H1 s1.heap.objs.size (.lst xs),I1.laid (t':=s1.toks) (fun b u e=>Heap.get?_push_of_some _ e) (Nat.le_refl _) ?_,rfl,q _ hf⟩
 exact ⟨z,us,0,r,Heap.get?_push_size _ rfl⟩
end
abbrev Sp:=List V→Hp→VK→XK→Prop
abbrev CXT:=List Env→Hp→Shared→XK→Value→Shared→Prop
structure Env0 (P:Program) (w:World) (K:PySem.W.Frag) (mg:Str→Option Value) (base:Heap) (A:Around) (outer:List Env) (s:Shared) (H:Hp):Prop where
 frames:A.frames=some outer
 mod:Mod K mg base
 bs:∀b o,base.get? b=some o→s.heap.get? b=some o∧H b=none
 bsz:base.objs.size≤s.heap.objs.size
 funs:s.heap.FunFrames base outer
 frf:∀b∈frs outer,H b=none
 hok:HOk P w H s.heap
 bare:AllBare s.gens
def CE (outer:List Env) (P:Program) (w:World) (H:Hp) (s:Shared) (Q:VK) (u:Value) (s':Shared):Prop:=
 ∃v H',s'.os=s.os∧AllBare s'.gens∧Un (frs outer) [] H H' s.heap s'.heap∧HOk P w H' s'.heap∧RelV v u∧Q v H'
def CR (CX:CXT) (outer:List Env) (P:Program) (w:World) (H:Hp) (s:Shared) (Q:VK) (E:XK) (r:Result) (s':Shared):Prop:=
 match r with
 | .ok (.ret u)=>CE outer P w H s Q u s'
 | .ok _=>False
 | .error e=>CX outer H s E e s'
structure FnOk (P:Program) (w:World) (K:PySem.W.Frag) (mg:Str→Option Value) (base:Heap) (CX:CXT) (k:Nat) (f:Addr) (fd:FuncData) (ps:List Str) (sp:Sp):Prop where
 len:∀vs H Q E,sp vs H Q E→vs.length=ps.length
 run:∀(A:Around) (outer:List Env) (s:Shared) (H:Hp) (args:Args) (us:List Value) (vs:List V) (Q:VK) (E:XK),Room k A→Env0 P w K mg base A outer s H→BindsTo s fd args (ps.zip us)→Vals vs us→sp vs H Q E→
  codeAny (model P w) A (.call (.ref f) args) (CR CX outer P w H s Q E) s
theorem Env0.make {P:Program} {w:World} {K:PySem.W.Frag} {mg:Str→Option Value} {base:Heap} {A:Around} {outer:List Env} {s:Shared} {H:Hp} (e:Env0 P w K mg base A outer s H) (C:Addr) (us:List Value) (kw:List (Str×Value)):
  Env0 P w K mg base (A.under (.builtin "type.__call__" ⟨.ref C::us,kw⟩)) outer s H:=⟨by first | exact e.frames | (simpa [Around.under,Code.envs,Code.isFrame,pushEnvs] using e.frames),e.mod,e.bs,e.bsz,e.funs,e.frf,e.hok,e.bare⟩
section
variable {X:Cx} {pins:List (Addr×Obj)} {σ:St} {H:Hp} {s s':Shared}
theorem Inv.env0 (I:Inv X pins σ H s):Env0 X.prog X.w X.K X.mg X.base X.A X.stack s H:=
 ⟨I.ok.frames,I.ok.mod,I.bs,Nat.le_trans I.ok.bsz I.sz,I.stack,I.stkFree,I.hok,I.bare⟩
theorem Inv.after {Q:VK} {u:Value} (I:Inv X pins σ H s) (h:CE X.stack X.prog X.w H s Q u s'):EP X pins σ Q u s':=by
 obtain ⟨v,H',os,bare,un,hok,r,q⟩:=h
 obtain ⟨hh,g,d,t,os'⟩:=s'
 obtain rfl:os'=s.os:=os
 exact ⟨v,H',I.call (h':=hh) (g':=g) (d':=d) (t':=t) (ch:=[]) un hok bare (fun b z=>absurd z (by simp)),r,q⟩
end
def RX (sp:Sp) (dvs:List V) (E:XK) (t:TA):TE:=fun σ H Q=>t σ H fun vs H1=>sp (vs++dvs) H1 Q E
def PP (C:Addr) (m:Str) (sp:Sp) (dvs:List V) (E:XK) (ta:TE) (t:TA):TE:=fun σ H Q=>ta σ H fun x H1=>∃a dx fs,x=.ref a∧H1 a=some (.ins C dx fs)∧fs.lookup m=none∧
 t σ H1 fun vs H2=>sp (x::(vs++dvs)) H2 Q E
def S4 (C:Addr) (sp:Sp) (dvs:List V) (E:XK) (t:TA):TE:=fun σ H Q=>t σ H fun vs H1=>∀x dx,H1 x=none→H1 dx=none→dx≠x→
 sp (.ref x::(vs++dvs)) (upd (upd H1 dx (.own x)) x (.ins C dx [])) (fun v H2=>v=.non∧Q (.ref x) H2) E
def Binds (K:PySem.W.Frag) (fd:FuncData) (ps:List Str) (ds:List Value):Prop:=
 ∀(s:Shared) (us:List Value),K.In s.heap→(us++ds).length=ps.length→BindsTo s fd ⟨us,[]⟩ (ps.zip (us++ds))
theorem Binds.all {K:PySem.W.Frag} {fd:FuncData} {ps:List Str} (h:∀us:List Value,us.length=ps.length→bindArgs fd ⟨us,[]⟩=pure (ps.zip us)):Binds K fd ps []:=fun s us _ hl=>by
 rw [List.append_nil] at hl ⊢
 exact .of_eq (h us hl)
def Ex (CX:CXT) (X:Cx) (E:XK):Prop:=∀(pins:List (Addr×Obj)) (σ:St) (H:Hp) (s:Shared) (e:Value) (s':Shared),Inv X pins σ H s→CX X.stack H s E e s'→X.xe e s'
section
variable {X:Cx} {CX:CXT} {k:Nat} {f C:Addr} {fd:FuncData} {ps:List Str} {sp:Sp} {dvs:List V} {ds:List Value} {E:XK} {x m:Str} {p pos apos:Pos} {e o:Expr} {es:List Expr} {ta:TE} {t:TA}
theorem Ke {pins:List (Addr×Obj)} {σ:St} {H:Hp} {s:Shared} {Q:VK} {us:List Value} {vs:List V} (F:FnOk X.prog X.w X.K X.mg X.base CX k f fd ps sp) (hr:Room k X.A) (hb:Binds X.K fd ps ds) (hd:Vals dvs ds) (hx:Ex CX X E)
  (I:Inv X pins σ H s) (r:Vals vs us) (h:sp (vs++dvs) H Q E):wpAny (model X.prog X.w) X.A (call (.ref f) us) (EP X pins σ Q) X.xe s:=by
 have r2:Vals (vs++dvs) (us++ds):=r.append hd
 have hl:(us++ds).length=ps.length:=by rw [←r2.length];exact F.len _ _ _ _ h
 refine wpAny_call (codeAny_mono (F.run X.A X.stack s H ⟨us,[]⟩ (us++ds) (vs++dvs) Q E hr I.env0 (hb s us I.kIn hl) r2 h) fun r s' hq=>?_)
 cases r with
 | error e=>exact hx pins σ H s e s' I hq
 | ok fl=>
   cases fl with
   | ret u=>exact I.after hq
   | next=>exact False.elim hq
   | brk=>exact False.elim hq
   | cont=>exact False.elim hq
theorem DW (F:FnOk X.prog X.w X.K X.mg X.base CX k f fd ps sp) (hr:Room k X.A) (hg:Gl X x) (hm:X.mg x=some (.ref f)) (hk:PySem.W.keepIn X.K (.ref f)=true) (hb:Binds X.K fd ps ds) (hd:Vals dvs ds) (hx:Ex CX X E)
  (ha:PA X (e::es) t) (hdb:(x==("__debug__":Str))=false:=by decide) (he:starEach (e::es) X.env=(false,eval e X.env)::starEach es X.env:=by rfl) (hpl:(backTo pos (starEach es X.env)).any (·.1)=false:=by rfl):
  PE X (.Call (.Name x p) (e::es) [] pos) (RX sp dvs E t):=by
 intro pins s σ H Q I h
 refine wpAny_Call_Name_kw (IX I hg hm ?_ hdb)
 refine PySem.W.callWith_K (h₀:=X.base) I.ok.mod.kin hk (thn (ha pos pins s σ H _ I h) fun us s1 ⟨vs,H1,I1,r,q⟩=>⟨I1.kIn,?_⟩) he hpl
 exact Ke F hr hb hd hx I1 r q
theorem IK {pl:Sem Bool} (he:PE X o ta) (c:Cls X.K C) (hm:Meth X.K C m f) (F:FnOk X.prog X.w X.K X.mg X.base CX k f fd ps sp) (hr:Room k X.A) (hb:Binds X.K fd ps ds) (hd:Vals dvs ds) (hx:Ex CX X E) (ha:PA X (e::es) t)
  (hst:starEach (e::es) X.env=(false,eval e X.env)::starEach es X.env:=by rfl) (hpl:(backTo pos (starEach es X.env)).any (·.1)=false:=by rfl)
  (ht:eval (.Call (.Attribute o m apos) (e::es) [] pos) X.env=(do
   let ov ←eval o X.env
   standAt apos.atName
   let (f,first) ←holding [ov] (getMethod ov m pl)
   callWith pos f first (backTo pos (starEach (e::es) X.env)) (backToKw pos (keywordEach [] X.env))):=by rfl):
  PE X (.Call (.Attribute o m apos) (e::es) [] pos) (PP C m sp dvs E ta t):=by
 intro pins s σ H Q I h
 refine PySem.W.methodCall_KW (pl:=pl) (thn (he pins s σ H _ I h) fun u s1 ⟨x,H1,I1,rx,a,dx,fs,ex,ea,l,q⟩=>?_) ht
 subst ex
 obtain rfl:u=Value.ref a:=rx
 refine GG I1 ea c hm l ?_
 refine PySem.W.callWith_K (first:=[.ref a]) (h₀:=X.base) I.ok.mod.kin hm.kp (thn (ha pos pins s1 σ H1 _ I1 q) fun us s2 ⟨vs,H2,I2,r,q2⟩=>⟨I2.kIn,?_⟩) hst hpl
 exact Ke (us:=.ref a::us) (vs:=.ref a::vs) F hr hb hd hx I2 (.cons rfl r) q2
theorem JC {pl:Sem Bool} (he:PE X o ta) (c:Cls X.K C) (hm:Meth X.K C m f) (F:FnOk X.prog X.w X.K X.mg X.base CX k f fd ps sp) (hr:Room k X.A) (hb:Binds X.K fd ps ds) (hd:Vals dvs ds) (hx:Ex CX X E)
  (ht:eval (.Call (.Attribute o m apos) [] [] pos) X.env=(do
   let ov ←eval o X.env
   standAt apos.atName
   let (f,first) ←holding [ov] (getMethod ov m pl)
   callWith pos f first (backTo pos (starEach [] X.env)) (backToKw pos (keywordEach [] X.env))):=by rfl):
  PE X (.Call (.Attribute o m apos) [] [] pos) (PP C m sp dvs E ta tNil):=by
 intro pins s σ H Q I h
 refine PySem.W.methodCall_KW (pl:=pl) (thn (he pins s σ H _ I h) fun u s1 ⟨x,H1,I1,rx,a,dx,fs,ex,ea,l,q⟩=>?_) ht
 subst ex
 obtain rfl:u=Value.ref a:=rx
 refine GG I1 ea c hm l ?_
 exact PySem.W.callWith_K0 (first:=[.ref a]) I1.kIn hm.kp (Ke (us:=[.ref a]) (vs:=[.ref a]) F hr hb hd hx I1 (.cons rfl .nil) q)
structure Mk (K:PySem.W.Frag) (C f:Addr):Prop where
 makes:PySem.W.makesIn K C=true
 init:PySem.W.findIn K (.ref C) "__init__"=some (some (.ref f))
 fn:PySem.W.isFn K (.ref f)=true
 kp:PySem.W.keepIn K (.ref C)=true
theorem Na {pins:List (Addr×Obj)} {σ:St} {H:Hp} {s:Shared} {Q:VK} {us:List Value} {vs:List V} (M:Mk X.K C f) (F:FnOk X.prog X.w X.K X.mg X.base CX k f fd ps sp) (hr:Room (k + 1) X.A) (hb:Binds X.K fd ps ds) (hd:Vals dvs ds)
  (hx:Ex CX X E) (I:Inv X pins σ H s) (r:Vals vs us)
  (h:∀x dx,H x=none→H dx=none→dx≠x→sp (.ref x::(vs++dvs)) (upd (upd H dx (.own x)) x (.ins C dx [])) (fun v H2=>v=.non∧Q (.ref x) H2) E):
  wpAny (model X.prog X.w) X.A (call (.ref C) us) (EP X pins σ Q) X.xe s:=by
 have hq:=h (s.heap.objs.size + 1) s.heap.objs.size (I.hok.fresh (Nat.le_succ _)) (I.hok.fresh (Nat.le_refl _)) (Nat.ne_of_lt (Nat.lt_succ_self _))
 have I2:=Inv.made (C:=C) I
 have r2:Vals (V.ref (s.heap.objs.size + 1)::(vs++dvs)) (Value.ref (s.heap.objs.size + 1)::(us++ds)):=.cons rfl (r.append hd)
 have hl:(Value.ref (s.heap.objs.size + 1)::us++ds).length=ps.length:=by
  have e:=r2.length
  rw [F.len _ _ _ _ hq] at e
  exact e.symm
 refine wpAny_call (Od (f:=f) I.kIn M.makes M.init (beq_iff_eq.mp M.fn) (codeAny_mono (F.run _ X.stack _ _ ⟨Value.ref (s.heap.objs.size + 1)::us,[]⟩ (Value.ref (s.heap.objs.size + 1)::(us++ds)) _ _ E (hr.make C us [])
  (I2.env0.make C us []) (hb _ (Value.ref (s.heap.objs.size + 1)::us) I2.kIn hl) r2 hq) fun r s' hq'=>?_))
 cases r with
 | error e=>exact hx pins σ _ _ e s' I2 hq'
 | ok fl=>
   cases fl with
   | ret u=>
     obtain ⟨v,H',I3,rv,ev,q3⟩:=I2.after hq'
     subst ev
     exact ⟨rv,⟨V.ref (s.heap.objs.size + 1),H',I3,rfl,q3⟩⟩
   | next=>exact False.elim hq'
   | brk=>exact False.elim hq'
   | cont=>exact False.elim hq'
theorem KY (M:Mk X.K C f) (F:FnOk X.prog X.w X.K X.mg X.base CX k f fd ps sp) (hr:Room (k + 1) X.A) (hg:Gl X x) (hm:X.mg x=some (.ref C)) (hb:Binds X.K fd ps ds) (hd:Vals dvs ds) (hx:Ex CX X E)
  (ha:PA X (e::es) t) (hdb:(x==("__debug__":Str))=false:=by decide) (he:starEach (e::es) X.env=(false,eval e X.env)::starEach es X.env:=by rfl) (hpl:(backTo pos (starEach es X.env)).any (·.1)=false:=by rfl):
  PE X (.Call (.Name x p) (e::es) [] pos) (S4 C sp dvs E t):=by
 intro pins s σ H Q I h
 refine wpAny_Call_Name_kw (IX I hg hm ?_ hdb)
 refine PySem.W.callWith_K (h₀:=X.base) I.ok.mod.kin M.kp (thn (ha pos pins s σ H _ I h) fun us s1 ⟨vs,H1,I1,r,q⟩=>⟨I1.kIn,?_⟩) he hpl
 exact Na M F hr hb hd hx I1 r q
end
section
variable {X:Cx} {CX:CXT} {k:Nat} {f C:Addr} {fd:FuncData} {ps ks:List Str} {sp:Sp} {E:XK} {x m:Str} {p pos apos kpos:Pos} {e o:Expr} {es:List Expr} {kws:List Keyword} {te ta:TE} {t tk:TA} {nm:Option Str}
structure KBinds (K:PySem.W.Frag) (fd:FuncData) (ps ks:List Str) (g:List Value→List Value→List Value) (gV:List V→List V→List V):Prop where
 to:∀(s:Shared) (us ws:List Value),K.In s.heap→(g us ws).length=ps.length→BindsTo s fd ⟨us,ks.zip ws⟩ (ps.zip (g us ws))
 rel:∀{vs:List V} {us:List Value} {zs:List V} {ws:List Value},Vals vs us→Vals zs ws→Vals (gV vs zs) (g us ws)
variable {g:List Value→List Value→List Value} {gV:List V→List V→List V}
end
structure FnScope (N P:List Str) (sc:Scope):Prop where
 kind:sc.kind=.function
 co:sc.isCoroutine=false
 gen:sc.isGenerator=false
 nd:N.Nodup
 pre:N.take P.length=P
 par:∀x∈P,sc.names.lookup x=some .local∨sc.names.lookup x=some .cell
 nofree:∀y∈sc.names,y.2≠.free
theorem HX {kindOf:Str→Option NameKind} {x:Str}:∀{binds:List (Str×Value)} {m:Str→Option Value},(∀v,(x,v)∉binds)→bindL kindOf binds m x=m x
 | [],_,_=>rfl
 | (n,v)::r,m,h=>by
   unfold bindL
   rw [HX fun w hw=>h w (List.mem_cons_of_mem _ hw)]
   split
   ·have:x≠n:=by rintro rfl;exact h v List.mem_cons_self
    simp [this]
   ·rfl
theorem H_ {kindOf:Str→Option NameKind} {x:Str}:∀{binds:List (Str×Value)} {m:Str→Option Value},(∀v,(x,v)∉binds)→bindC kindOf binds m x=m x
 | [],_,_=>rfl
 | (n,v)::r,m,h=>by
   unfold bindC
   rw [H_ fun w hw=>h w (List.mem_cons_of_mem _ hw)]
   split
   ·rfl
   ·have:x≠n:=by rintro rfl;exact h v List.mem_cons_self
    simp [this]
theorem HJ {kindOf:Str→Option NameKind} {x:Str} {v:Value}:∀{P:List Str} {vs:List Value} {i:Nat} {m:Str→Option Value},P.Nodup→P[i]?=some x→vs[i]?=some v→kindOf x=some .local→
  bindL kindOf (P.zip vs) m x=some v
 | [],_,_,_,_,h,_,_=>by simp at h
 | _::_,[],_,_,_,_,h,_=>by simp at h
 | p::P,w::vs,0,m,nd,h1,h2,hk=>by
   simp at h1 h2;subst h1;subst h2
   show bindL kindOf ((p,w)::P.zip vs) m p=_
   unfold bindL
   rw [HX fun v hv=>(List.nodup_cons.mp nd).1 (List.of_mem_zip hv).1,if_pos hk]
   simp
 | p::P,w::vs,i + 1,m,nd,h1,h2,hk=>by
   show bindL kindOf ((p,w)::P.zip vs) m x=_
   unfold bindL
   exact HJ (i:=i) (List.nodup_cons.mp nd).2 (by simpa using h1) (by simpa using h2) hk
theorem Ib {kindOf:Str→Option NameKind} {x:Str} {v:Value}:∀{P:List Str} {vs:List Value} {i:Nat} {m:Str→Option Value},P.Nodup→P[i]?=some x→vs[i]?=some v→kindOf x≠some .local→
  bindC kindOf (P.zip vs) m x=some v
 | [],_,_,_,_,h,_,_=>by simp at h
 | _::_,[],_,_,_,_,h,_=>by simp at h
 | p::P,w::vs,0,m,nd,h1,h2,hk=>by
   simp at h1 h2;subst h1;subst h2
   show bindC kindOf ((p,w)::P.zip vs) m p=_
   unfold bindC
   rw [H_ fun v hv=>(List.nodup_cons.mp nd).1 (List.of_mem_zip hv).1,if_neg hk]
   simp
 | p::P,w::vs,i + 1,m,nd,h1,h2,hk=>by
   show bindC kindOf ((p,w)::P.zip vs) m x=_
   unfold bindC
   exact Ib (i:=i) (List.nodup_cons.mp nd).2 (by simpa using h1) (by simpa using h2) hk
def start (N:List Str) (vs:List V):St:=vs.map some++List.replicate (N.length - vs.length) none
def cxOf (CX:CXT) (P:Program) (w:World) (K:PySem.W.Frag) (mg:Str→Option Value) (base:Heap) (N:List Str) (qual:Str) (scope:Scope) (f:Addr) (cd:Value) (A:Around) (outer:List Env) (s:Shared) (H:Hp) (E:XK):Cx where
 prog:=P
 w:=w
 K:=K
 mg:=mg
 base:=base
 A:=A.deeper (envOfC qual scope s.heap.objs.size f cd)
 N:=N
 s₀:=s
 H₀:=H
 env:=envOfC qual scope s.heap.objs.size f cd
 outer:=outer
 stack:=envOfC qual scope s.heap.objs.size f cd::outer
 ex:=[]
 calm:=true
 fn:=fun _=>true
 pn:=[]
 xe:=fun e s'=>wpAny (model P w) (A.deeper (envOfC qual scope s.heap.objs.size f cd)) (leaving (envOfC qual scope s.heap.objs.size f cd) e) (fun _ s''=>CX outer H s E e s'') (fun e' s''=>CX outer H s E e' s'') s'
theorem JE {sc:Scope} {n:Nat} {x:Str} (h:sc.names.lookup x=some .cell):∃c,(cellsFrom n sc.names []).lookup x=some c:=by
 have q:=PySem.W.cellsFrom_some sc.names n [] (.inl h)
 exact Option.isSome_iff_exists.mp q
theorem Ma {CX:CXT} {P:Program} {w:World} {K:PySem.W.Frag} {mg:Str→Option Value} {base:Heap} {N ps:List Str} {qual:Str} {scope:Scope} {f:Addr} {cd:Value} {A:Around} {outer:List Env} {s s1:Shared} {H:Hp} {E:XK} {us:List Value} {vs:List V}
  (S:FnScope N ps scope) (hd:A.handled=none) (e0:Env0 P w K mg base A outer s H) (hl:vs.length=ps.length) (r:Vals vs us)
  (x:InCallC s s.heap.objs.size (bindL (envOfC qual scope s.heap.objs.size f cd).kindOf (ps.zip us) fun _=>none) (cellsFrom (s.heap.objs.size + 1) scope.names []) (bindC (envOfC qual scope s.heap.objs.size f cd).kindOf (ps.zip us) fun _=>none) s1):
  Inv (cxOf CX P w K mg base N qual scope f cd A outer s H E) [] (start N vs) H s1:=by
 have hpl:ps.length≤N.length:=by have:=congrArg List.length S.pre;rw [List.length_take] at this;omega
 obtain ⟨h1,tk,rfl,hk⟩:=x.done
 have noA:∀b:Addr,b∉(cxOf CX P w K mg base N qual scope f cd A outer s H E).ex:=fun b z=>absurd (show b∈([]:List Addr) from z) (by simp)
 refine ⟨⟨e0.mod,S.kind,rfl,rfl,Nat.le_refl _,fun y z c h1 h2=>?_,fun y hy=>?_,fun y c _ h=>?_,fun _=>hd,Around.frames_deeper e0.frames,.inr ⟨rfl,rfl⟩,fun b z=>absurd z (noA b),e0.bs,e0.bsz,fun b _ _=>noA b,fun b z=>absurd z (noA b),e0.funs,e0.frf⟩,
  rfl,e0.bare,Un.kept hk,⟨_,x.toInCall.ns,fun i y v h1 h2 h3=>?_⟩,fun y c h=>⟨_,x.cell y c h⟩,e0.hok.fresh (Nat.le_refl _),fun y c h=>?_,fun p hp=>absurd (show p∈([]:List (Addr×Obj)) from hp) (by simp),e0.hok.kept hk,?_⟩
 ·exact name_of_addr x.apart (PySem.mem_of_lookup h1) (PySem.mem_of_lookup h2)
 ·have hy:scope.names.lookup y=some .cell∨scope.names.lookup y=some .free:=hy
  rcases hy with hy | hy
  ·exact JE hy
  ·exact absurd rfl (S.nofree _ (PySem.mem_of_lookup hy))
 ·exact Nat.le_of_lt (x.above y c (PySem.mem_of_lookup h))
 ·have hi:i < vs.length:=by
   unfold start at h2
   by_cases hi:i < vs.length
   ·exact hi
   ·rw [List.getElem?_append_right (by simpa using hi)] at h2
    rw [List.getElem?_replicate] at h2
    split at h2 <;> cases h2
  have ha:vs[i]?=some v:=by
   unfold start at h2
   rw [List.getElem?_append_left (by simpa using hi),List.getElem?_map] at h2
   cases e:vs[i]? with
   | none=>rw [e] at h2;cases h2
   | some a=>rw [e] at h2;cases h2;rfl
  obtain ⟨u,hu,rv⟩:=r.get ha
  have hp:ps[i]?=some y:=by
   rw [←S.pre,List.getElem?_take_of_lt (by omega)];exact h1
  have ndP:ps.Nodup:=by rw [←S.pre];exact S.nd.sublist (List.take_sublist _ _)
  refine ⟨u,rv,?_⟩
  rcases S.par y (List.mem_of_getElem? hp) with k | k
  ·exact .inl ⟨k,HJ ndP hp hu k⟩
  ·obtain ⟨c,e⟩:=JE (n:=s.heap.objs.size + 1) k
   refine .inr ⟨.inl k,c,e,?_⟩
   have q:=x.cell y c e
   rw [Ib ndP hp hu (by show scope.names.lookup y≠_;rw [k];decide)] at q
   exact q
 ·exact e0.hok.fresh (Nat.le_of_lt (x.above y c (PySem.mem_of_lookup h)))
 ·unfold start
  show _=N.length
  rw [List.length_append,List.length_map,List.length_replicate]
  omega
theorem P_ {CX:CXT} {P:Program} {w:World} {K:PySem.W.Frag} {mg:Str→Option Value} {base:Heap} {k:Nat} {f:Addr} {name qual:Str} {params:Arguments} {body:List Stmt} {scope:Scope} {dV kV doc pm cdv ct oc:Value} {an od:Option Addr}
  {osl:Array (Option Value)} {N ps:List Str} {sp:Sp} (lk:K.lookup f=some ⟨oc,od,.func (PySem.W.fnOf name qual params body scope dV kV doc pm an cdv ct),osl⟩) (hcd:PySem.W.codeIn K cdv qual=true) (S:FnScope N ps scope)
  (len:∀vs H Q E,sp vs H Q E→vs.length=ps.length)
  (hbody:∀(A:Around) (outer:List Env) (s:Shared) (H:Hp) (vs:List V) (Q:VK) (E:XK),Room k (A.deeper (envOfC qual scope s.heap.objs.size f cdv))→sp vs H Q E→
   ∃t,PSs (cxOf CX P w K mg base N qual scope f cdv A outer s H E) body t∧t {nx:=fun _ H'=>Q .non H',rt:=Q} (start N vs) H):
  FnOk P w K mg base CX (k + 1) f (PySem.W.fnOf name qual params body scope dV kV doc pm an cdv ct) ps sp:=by
 refine ⟨len,fun A outer s H args us vs Q E hr e0 hb r hsp=>?_⟩
 have hl:=len _ _ _ _ hsp
 have KX:K.In s.heap:=e0.mod.kin.keeps fun b o e=>(e0.bs b o e).1
 have lim:s.heap.NoLimit:=e0.mod.nolimit.keeps fun b o e=>(e0.bs b o e).1
 have hkind:∀y∈ps.zip us,scope.names.lookup y.1=some .local∨(scope.names.lookup y.1=some .cell∧((cellsFrom (s.heap.objs.size + 1) scope.names []).lookup y.1).isSome=true):=fun ⟨n,v⟩ hy=>by
  rcases S.par n (List.of_mem_zip hy).1 with q | q
  ·exact .inl q
  ·exact .inr ⟨q,PySem.W.cellsFrom_some _ _ _ (.inl q)⟩
 refine codeAny_call_function hr.depth (KX _ _ lk) rfl S.co S.gen rfl (PySem.W.codeRec_of KX hcd) (hb _ _ _ _ ?_)
 refine wpAny_newFunctionEnv_cells S.kind hkind fun env he s1 x=>?_
 subst he
 refine ⟨lim.keeps x.toInCall.keep,codeAny_func ?_⟩
 obtain ⟨t,ht,hq⟩:=hbody A outer s H vs Q E (hr.deeper _) hsp
 have I:Inv (cxOf CX P w K mg base N qual scope f cdv A outer s H E) [] (start N vs) H s1:=Ma S hr.hd e0 hl r x
 refine wpAny_mono (ht [] s1 (start N vs) H _ I hq) (fun fl s' hs=>?_) fun e s' hs=>hs
 have fin:∀{σ':St} {H':Hp} {v:V} {u:Value},Inv (cxOf CX P w K mg base N qual scope f cdv A outer s H E) [] σ' H' s'→RelV v u→Q v H'→CE outer P w H s Q u s':=
  fun {σ' H' v u} J rv q=>⟨v,H',J.os,J.bare,J.base,J.hok,rv,q⟩
 cases fl with
 | ret u=>
   obtain ⟨v,σ',H',J,rv,q⟩:=hs
   exact fin J rv q
 | next=>
   obtain ⟨σ',H',J,q⟩:=hs
   exact fin (v:=V.non) (u:=Value.none) J rfl q
 | brk=>
   obtain ⟨_,_,_,q⟩:=hs
   exact False.elim q
 | cont=>
   obtain ⟨_,_,_,q⟩:=hs
   exact False.elim q
section
variable {X:Cx} {x:Str} {p pos:Pos} {e:Expr} {es:List Expr} {t:TA} {id T:String} {r:List V→Hp→VK→Prop}
def tCB (r:List V→Hp→VK→Prop) (t:TA):TE:=fun σ H Q=>t σ H fun vs H1=>r vs H1 Q
theorem JP (hc:CallR X (.builtin id) r) (hg:Gl X x) (hm:X.mg x=none) (hv:bootBuiltins x=some (.builtin id)) (ha:PA X (e::es) t) (hn:x≠"__name__":=by decide) (hdb:(x==("__debug__":Str))=false:=by decide)
  (he:starEach (e::es) X.env=(false,eval e X.env)::starEach es X.env:=by rfl) (hpl:(backTo pos (starEach es X.env)).any (·.1)=false:=by rfl):PE X (.Call (.Name x p) (e::es) [] pos) (tCB r t):=by
 intro pins s σ H Q I h
 refine wpAny_Call_Name_kw (Dr I hg hm hv ?_ hn hdb)
 exact PyProof.Rows.callWith_builtin1 (thn (ha pos pins s σ H _ I h) fun us s1 ⟨vs,H1,I1,r1,q1⟩=>hc pins s1 σ H1 vs us Q I1 r1 q1) he hpl
theorem HY (hc:CallR X (.type T) r) (hg:Gl X x) (hm:X.mg x=none) (hv:bootBuiltins x=some (.type T)) (ha:PA X (e::es) t) (hn:x≠"__name__":=by decide) (hdb:(x==("__debug__":Str))=false:=by decide)
  (he:starEach (e::es) X.env=(false,eval e X.env)::starEach es X.env:=by rfl) (hpl:(backTo pos (starEach es X.env)).any (·.1)=false:=by rfl):PE X (.Call (.Name x p) (e::es) [] pos) (tCB r t):=by
 intro pins s σ H Q I h
 refine wpAny_Call_Name_kw (Dr I hg hm hv ?_ hn hdb)
 exact PyProof.Rows.callWith_type1 (thn (ha pos pins s σ H _ I h) fun us s1 ⟨vs,H1,I1,r1,q1⟩=>hc pins s1 σ H1 vs us Q I1 r1 q1) he hpl
end
end L2
namespace HT
open PySem PyProof.Rows
section
open PySem.SeqAt
open PySem.AutoSeq1 (wpAny_loadPart')
open PySem.MeetsSeq PySem.MeetsSeq2 PySem.MeetsSeq3
end
section
variable {prog:Program} {w:World} {A:Around} {E:Value→Shared→Prop} {s:Shared}
theorem cat_tup {t b:Addr} {vs ws:List Value} {Q:Value→Shared→Prop} (ht:IsTup s.heap t vs.toArray) (hb:IsTup s.heap b ws.toArray) (hv:vs≠[])
  (h1:ws=[]→Q (.ref t) s) (h2:ws≠[]→Q (.ref s.heap.objs.size) {s with heap:=s.heap.push {cls:=.type "tuple",data:=.seq (vs++ws).toArray}})
  (hsz:vs.length + ws.length≤sizeLine):wpAny (model prog w) A (binaryOp .Add (.ref t) (.ref b)) Q E s:=by
 obtain ⟨⟨cls,dd,data,sl⟩,ho,hc,n,hd⟩:=id ht
 obtain ⟨⟨cls2,dd2,data2,sl2⟩,ho2,hc2,n2,hd2⟩:=id hb
 simp only at hc hd hc2 hd2
 subst hc hd hc2 hd2
 have e:vs.toArray++ws.toArray=(vs++ws).toArray:=by simp
 by_cases hw:ws=[]
 ·exact concat_meets ⟨_,ho,rfl⟩ ⟨_,ho2,rfl⟩ noFill_tuple_add seq_tuple_add PySem.F.slot_tuple_add PySem.F.entry_tuple_add (PySem.F.args_tuple_add_2 _ _)
   (tuple_addW1 t b vs.toArray ws.toArray n n2 dd dd2 sl sl2 (by simpa using hv) (by simp [hw])) ⟨ho,ho2,h1 hw⟩
 ·refine concat_meets ⟨_,ho,rfl⟩ ⟨_,ho2,rfl⟩ noFill_tuple_add seq_tuple_add PySem.F.slot_tuple_add PySem.F.entry_tuple_add (PySem.F.args_tuple_add_2 _ _)
   (tuple_addW2 t b vs.toArray ws.toArray n n2 dd dd2 sl sl2 (by simpa using hv) (by simpa using hw) (by rw [List.size_toArray,List.size_toArray];exact hsz)) ⟨ho,ho2,?_⟩
  rw [e]
  exact h2 hw
def sIx (n d:Nat):Option Int→Nat
 | none=>d
 | some v=>if v < 0 then (v + (n:Int)).toNat else min v.toNat n
theorem Ra (n d:Nat) (hd:d≤n) (o:Option Int):sIx n d o≤n:=by
 cases o with
 | none=>exact hd
 | some v=>
   show (if v < 0 then (v + (n:Int)).toNat else min v.toNat n)≤n
   by_cases hv:v < 0
   ·rw [if_pos hv];omega
   ·rw [if_neg hv];exact Nat.min_le_right _ _
theorem Ld (v:Int) (n d:Nat):(if v < 0 then max (v + (n:Int)) 0 else min v (n:Int))=((sIx n d (some v):Nat):Int):=by
 show (if v < 0 then max (v + (n:Int)) 0 else min v (n:Int))=(((if v < 0 then (v + (n:Int)).toNat else min v.toNat n):Nat):Int)
 by_cases hv:v < 0
 ·simp only [if_pos hv];omega
 ·simp only [if_neg hv];omega
theorem KM (lo hi:Option Int) (n:Nat):Builtin.Slice.sliceAdjust lo hi 1 (n:Int)=(((sIx n 0 lo:Nat):Int),((sIx n n hi:Nat):Int)):=by
 have h1:¬((1:Int) < 0):=by omega
 unfold Builtin.Slice.sliceAdjust
 simp only [h1,if_false]
 refine Prod.ext ?_ ?_
 ·cases lo with
  | none=>rfl
  | some v=>exact Ld v n 0
 ·cases hi with
  | none=>rfl
  | some v=>exact Ld v n n
theorem Kd (i j:Nat):Builtin.Slice.slicePlaces (i:Int) (j:Int) 1=j - i:=by
 unfold Builtin.Slice.slicePlaces
 have h1:(1:Int) > 0:=by omega
 simp only [h1,if_true,Int.ediv_one]
 split <;> omega
theorem GI {v:Value} {o:Option Int} {Q:Option Int→Shared→Prop} (p:IsPart v o) (h:Q o s):wpAny (model prog w) A (Builtin.Slice.slicePartIndex v) Q E s:=by
 cases p with
 | none=>exact slicePart_none h
 | int i t=>exact slicePart_int h
theorem Fc {sl:Addr} {vl vu:Value} {lo hi:Option Int} {n:Nat} {Q:Int×Int×Nat→Shared→Prop} (hs:s.heap.IsSliceOf sl vl vu .none) (pl:IsPart vl lo) (pu:IsPart vu hi)
  (h:Q (((sIx n 0 lo:Nat):Int),1,sIx n n hi - sIx n 0 lo) s):wpAny (model prog w) A (Builtin.Slice.sliceApplied (.ref sl) (pure (n:Int))) Q E s:=by
 obtain ⟨os,hos,hcs,hds⟩:=id hs
 unfold Builtin.Slice.sliceApplied Builtin.Slice.sliceFields
 refine wpAny_bind (wpAny_bind (wpAny_field hos hds (x:=vl) rfl (wpAny_bind (wpAny_field hos hds (x:=vu) rfl (wpAny_bind (wpAny_field hos hds (x:=.none) rfl (wpAny_pure ?_)))))))
 refine wpAny_bind (slicePart_none ?_)
 show wpAny _ _ (if ((1:Int)==0)=true then _ else _) _ _ s
 rw [if_neg (by decide)]
 refine wpAny_bind (GI pl (wpAny_bind (GI pu (wpAny_bind (wpAny_pure ?_)))))
 show wpAny _ _ (match Builtin.Slice.sliceAdjust lo hi 1 (n:Int) with | (lo,hi)=>pure (lo,(1:Int),Builtin.Slice.slicePlaces lo hi 1)) _ _ s
 rw [KM lo hi n]
 show wpAny _ _ (pure (((sIx n 0 lo:Nat):Int),(1:Int),Builtin.Slice.slicePlaces ((sIx n 0 lo:Nat):Int) ((sIx n n hi:Nat):Int) 1)) _ _ s
 rw [Kd]
 exact wpAny_pure h
theorem Nb (xs:Array Value) (i k:Nat):((List.range k).filterMap fun (m:Nat)=>xs[((i:Int) + (m:Int) * 1).toNat]?).toArray=((xs.toList.drop i).take k).toArray:=by
 have e:(fun (m:Nat)=>xs[((i:Int) + (m:Int) * 1).toNat]?)=fun m=>xs[i + m]?:=by
  funext m
  have:((i:Int) + (m:Int) * 1).toNat=i + m:=by omega
  rw [this]
 rw [e]
 have:=pick_run xs i k
 rw [List.filterMap_map] at this
 have e2:((fun x=>xs[x]?) ∘ fun x=>i + x)=fun m=>xs[i + m]?:=rfl
 rw [e2] at this
 rw [this]
theorem getItem_tuple_cut {t sl:Addr} {items:Array Value} {vl vu:Value} {lo hi:Option Int} {Q:Value→Shared→Prop} (ht:IsTup s.heap t items) (hs:s.heap.IsSliceOf sl vl vu .none) (pl:IsPart vl lo) (pu:IsPart vu hi)
  (hw:¬(sIx items.size 0 lo=0∧sIx items.size items.size hi=items.size))
  (h:Q (.ref s.heap.objs.size) {s with heap:=s.heap.push {cls:=.type "tuple",data:=.seq ((items.toList.drop (sIx items.size 0 lo)).take (sIx items.size items.size hi - sIx items.size 0 lo)).toArray}})
  (hsz:items.size≤sizeLine):wpAny (model prog w) A (getItem (.ref t) (.ref sl)) Q E s:=by
 have htake:sizeOk (.seq ((items.toList.drop (sIx items.size 0 lo)).take (sIx items.size items.size hi - sIx items.size 0 lo)).toArray):=by
  show ((items.toList.drop (sIx items.size 0 lo)).take (sIx items.size items.size hi - sIx items.size 0 lo)).toArray.size≤sizeLine
  rw [List.size_toArray,List.length_take,List.length_drop,Array.length_toList]
  omega
 have hj:sIx items.size items.size hi≤items.size:=Ra _ _ (Nat.le_refl _) hi
 obtain ⟨os,hos,hcs,hds⟩:=id hs
 have hTs:s.TypeIs (.ref sl) "slice":=⟨os,hos,hcs⟩
 unfold getItem
 try with_reducible refine wpAny_holding ?_
 first | refine wpAny_bind (wpAny_pure ?_) | skip
 refine wpAny_bind (wpAny_sequenceKey ht.typeIs (by decide) ?_)
 refine wpAny_bind (wpAny_callSpecial?_slot (name:=Str.ofString "__getitem__") ht.typeIs PyProof.Rows.slot_tuple_getitem
  (wpAny_call_entry PyProof.Rows.slot_tuple_getitem ht.typeIs entry_tuple_getitem ?_ (args_tuple_getitem _ _)))
 show wpAny _ _ (Builtin.Tuple.tupleItemsOf (.ref t) >>=_) _ _ s
 refine wpAny_bind (tupleItemsOf_ ht ?_)
 refine wpAny_bind (wpAny_typeOf hTs ?_)
 rw [if_pos (by decide)]
 refine wpAny_bind (Fc hs pl pu ?_)
 have hno:¬((((sIx items.size 0 lo:Nat):Int)==0 && (1:Int)==1 && (sIx items.size items.size hi - sIx items.size 0 lo)==items.size)=true):=by
  intro q
  rw [Bool.and_eq_true,Bool.and_eq_true] at q
  have q1:((sIx items.size 0 lo:Nat):Int)=0:=eq_of_beq q.1.1
  have q2:sIx items.size items.size hi - sIx items.size 0 lo=items.size:=eq_of_beq q.2
  exact hw ⟨by omega,by omega⟩
 show wpAny _ _ (if (((sIx items.size 0 lo:Nat):Int)==0 && (1:Int)==1 && (sIx items.size items.size hi - sIx items.size 0 lo)==items.size)=true then _ else _) _ _ s
 rw [if_neg hno,Nb]
 first
  | exact wpAny_bind (m:=Builtin.Tuple.tupleExact _) (wpAny_newObj_type (wpAny_pure ⟨_,rfl,wpAny_pure h⟩) htake)
  | exact wpAny_bind (m:=Builtin.Tuple.tupleExact _) (wpAny_newObj_type (wpAny_bind (wpAny_pure (wpAny_pure ⟨_,rfl,wpAny_pure h⟩))) htake)
  | exact wpAny_bind (wpAny_bind (m:=Builtin.Tuple.tupleExact _) (wpAny_newObj_type (wpAny_pure (wpAny_pure ⟨_,rfl,wpAny_pure h⟩)) htake))
  | exact wpAny_bind (wpAny_bind (m:=Builtin.Tuple.tupleExact _) (wpAny_newObj_type (wpAny_pure ⟨_,rfl,wpAny_pure h⟩) htake))
end
end HT
namespace L2
open PySem PySem.Spec PyProof.Rows
abbrev TO:=St→Hp→(Option Int→Hp→Prop)→Prop
def PO (X:Cx) (e:Option Expr) (t:TO):Prop:=
 ∀(pins:List (Addr×Obj)) (s:Shared) (σ:St) (H:Hp) (Q:Option Int→Hp→Prop),Inv X pins σ H s→t σ H Q→
  wpAny (model X.prog X.w) X.A (evalPart e X.env) (fun u s'=>∃o H',Inv X pins σ H' s'∧IsPart u o∧Q o H') X.xe s
def Pp:TO:=fun _ H Q=>Q none H
def RQ (t:TE):TO:=fun σ H Q=>t σ H fun x H1=>∃i,x=.int i∧Q (some i) H1
theorem intsAre_of {ns:List Int}:∀{us:List Value},Vals (ns.map V.int) us→IntsAre us ns:=by
 induction ns with
 | nil=>intro us r;rw [List.map_nil] at r;cases r;exact .nil
 | cons n ns ih=>
   intro us r
   rw [List.map_cons] at r
   cases r with
   | cons r1 r2=>
     obtain ⟨t,e⟩:=r1
     subst e
     exact .cons n t (ih r2)
section
variable {X:Cx} {e:Expr} {te:TE} {lo hi:Option Expr} {tl th:TO} {pos p2:Pos}
theorem Pa:PO X none Pp:=by
 intro pins s σ H Q I h
 rw [evalPart_none]
 exact wpAny_pure ⟨none,H,I,.none,h⟩
theorem OL (h:PE X e te):PO X (some e) (RQ te):=by
 intro pins s σ H Q I hw
 rw [evalPart_some]
 refine thn (h pins s σ H _ I hw) fun u s1 ⟨x,H1,I1,r1,q1⟩=>?_
 obtain ⟨i,rfl,q⟩:=q1
 obtain ⟨t,rfl⟩:=r1
 exact ⟨some i,H1,I1,.int i t,q⟩
def SlR (X:Cx) (r:V→Option Int→Option Int→Hp→VK→Prop):Prop:=
 ∀(pins:List (Addr×Obj)) (s:Shared) (σ:St) (H:Hp) (x:V) (v vl vu:Value) (lo hi:Option Int) (sl:Addr) (Q:VK),Inv X pins σ H s→RelV x v→s.heap.IsSliceOf sl vl vu .none→IsPart vl lo→IsPart vu hi→r x lo hi H Q→
  ∃T id,typeLookup (.type T) "__getitem__"=pure (some (.builtin id))∧s.TypeIs v T∧wpAny (model X.prog X.w) X.A (getItem v (.ref sl)) (EP X pins σ Q) X.xe s
def tSl (r:V→Option Int→Option Int→Hp→VK→Prop) (te:TE) (tl th:TO):TE:=fun σ H Q=>te σ H fun x H1=>tl σ H1 fun l H2=>th σ H2 fun u H3=>r x l u H3 Q
theorem NW {r:V→Option Int→Option Int→Hp→VK→Prop} (hr:SlR X r) (he:PE X e te) (hl:PO X lo tl) (hu:PO X hi th):PE X (.Subscript e (.Slice lo hi none p2) pos) (tSl r te tl th):=by
 intro pins s σ H Q I h
 refine Subscript_ (thn (he pins s σ H _ I h) fun v s1 ⟨x,H1,I1,r1,q1⟩=>?_)
 refine wpAny_Slice (thn (hl pins s1 σ H1 _ I1 q1) fun vl s2 ⟨l,H2,I2,pl,q2⟩=>thn (hu pins s2 σ H2 _ I2 q2) fun vu s3 ⟨u,H3,I3,pu,q3⟩=>?_)
 rw [evalPart_none]
 refine wpAny_pure ?_
 have I4:Inv X pins σ H3 {s3 with heap:=s3.heap.push {cls:=.type "slice",data:=.fields #[vl,vu,.none]}}:=I3.kept (t':=s3.toks) fun b ob q=>Heap.get?_push_of_some _ q
 obtain ⟨T,id,hT,ht,hg⟩:=hr pins {s3 with heap:=s3.heap.push {cls:=.type "slice",data:=.fields #[vl,vu,.none]}} σ H3 x v vl vu l u s3.heap.objs.size Q I4 r1 (Heap.IsSliceOf.new ..) pl pu q3
 show wpAny (model X.prog X.w) X.A (subscriptTail e (.Slice lo hi none p2) v (.ref s3.heap.objs.size)) (EP X pins σ Q) X.xe {s3 with heap:=s3.heap.push {cls:=.type "slice",data:=.fields #[vl,vu,.none]}}
 exact tail_any (ops:=[.ref s3.heap.objs.size,v]) ht hT hg (by with_unfolding_all rfl)
def cutV (xs:List V) (lo hi:Option Int):List V:=(xs.drop (HT.sIx xs.length 0 lo)).take (HT.sIx xs.length xs.length hi - HT.sIx xs.length 0 lo)
theorem J3 (xs:List V) (lo hi:Option Int):(cutV xs lo hi).length≤xs.length:=by
 unfold cutV
 rw [List.length_take,List.length_drop]
 omega
def rSlT (K:PySem.W.Frag):V→Option Int→Option Int→Hp→VK→Prop:=fun x lo hi H Q=>∃a xs,x=.ref a∧SqT K H a xs∧
 ¬(HT.sIx xs.length 0 lo=0∧HT.sIx xs.length xs.length hi=xs.length)∧∀p,H p=none→Q (.ref p) (upd H p (.tup (cutV xs lo hi)))
theorem Ri:SlR X (rSlT X.K):=by
 intro pins s σ H x v vl vu lo hi sl Q I rx hs pl pu h
 obtain ⟨a,xs,rfl,hx,hw,q⟩:=h
 cases rx
 obtain ⟨its,r,ht,hz⟩:=I.tuple hx
 have hlen:its.toArray.size=xs.length:=by rw [List.size_toArray];exact r.length.symm
 refine ⟨"tuple",_,PyProof.Rows.slot_tuple_getitem.lookup,ht.typeIs,?_⟩
 refine HT.getItem_tuple_cut ht hs pl pu (by rw [hlen];exact hw) ?_ (by rw [hlen];exact hz)
 rw [hlen]
 refine ⟨.ref s.heap.objs.size,_,I.laid (t':=s.toks) (o:=.tup (cutV xs lo hi)) (fun b ob q=>Heap.get?_push_of_some _ q) (Nat.le_refl _) ?_,rfl,q _ (I.hok.fresh (Nat.le_refl _))⟩
 exact ⟨Nat.le_trans (J3 xs lo hi) hz,⟨_,(r.drop (HT.sIx xs.length 0 lo)).take (HT.sIx xs.length xs.length hi - HT.sIx xs.length 0 lo),IsTup.new _ _⟩,_,Heap.get?_push_size _ rfl,rfl⟩
def Sr (K:PySem.W.Frag):R2:=fun x y H Q=>∃a b xs ys,x=.ref a∧y=.ref b∧SqT K H a xs∧SqT K H b ys∧xs≠[]∧xs.length + ys.length≤sizeLine∧
 (ys=[]→Q (.ref a) H)∧(ys≠[]→∀p,H p=none→Q (.ref p) (upd H p (.tup (xs++ys))))
theorem Vals.nil_iff {xs:List V} {us:List Value} (r:Vals xs us):us=[]↔xs=[]:=by
 cases r with
 | nil=>simp
 | cons _ _=>simp
theorem op_catT:OpR X (binaryOp .Add) (Sr X.K):=by
 intro pins s σ H x y v u Q I rx ry h
 obtain ⟨a,b,xs,ys,rfl,rfl,ha,hb,hx,hz,q1,q2⟩:=h
 cases rx
 cases ry
 obtain ⟨its,r1,p1,_⟩:=I.tuple ha
 obtain ⟨its2,r2,p2,_⟩:=I.tuple hb
 refine HT.cat_tup p1 p2 (fun z=>hx (r1.nil_iff.mp z)) (fun z=>⟨.ref a,H,I,rfl,q1 (r2.nil_iff.mp z)⟩) (fun z=>?_) (by rw [←r1.length,←r2.length];exact hz)
 refine ⟨.ref s.heap.objs.size,_,I.laid (t':=s.toks) (o:=.tup (xs++ys)) (fun b ob q=>Heap.get?_push_of_some _ q) (Nat.le_refl _) ?_,rfl,q2 (fun w=>z (r2.nil_iff.mpr w)) _ (I.hok.fresh (Nat.le_refl _))⟩
 exact ⟨by rw [List.length_append];exact hz,⟨_,r1.append r2,IsTup.new _ _⟩,_,Heap.get?_push_size _ rfl,rfl⟩
end
def ixN (n:Nat) (i:Int):Option Nat:=if 0≤i then (if i < n then some i.toNat else none) else if -(n:Int)≤i then some (i + n).toNat else none
def atI {α:Type} (xs:List α) (i:Int):Option α:=(ixN xs.length i).bind fun j=>xs[j]?
theorem LL {n:Nat} {i:Int} {j:Nat} (h:ixN n i=some j):seqIndex? i n=some j∧j < n∧-(n:Int)≤i∧i < n:=by
 unfold ixN at h
 by_cases h0:0≤i
 ·rw [if_pos h0] at h
  by_cases h1:i < n
  ·rw [if_pos h1] at h
   have e:i.toNat=j:=Option.some.inj h
   exact ⟨by rw [seqIndex_of h0 h1,e],by omega,by omega,h1⟩
  ·rw [if_neg h1] at h;cases h
 ·rw [if_neg h0] at h
  by_cases h1:-(n:Int)≤i
  ·rw [if_pos h1] at h
   have e:(i + n).toNat=j:=Option.some.inj h
   exact ⟨by rw [seqIndex_neg (by omega) h1,e],by omega,h1,by omega⟩
  ·rw [if_neg h1] at h;cases h
theorem Lk {α:Type} {xs:List α} {i:Int} {v:α} (h:atI xs i=some v):∃j,seqIndex? i xs.length=some j∧xs[j]?=some v∧j < xs.length∧-(xs.length:Int)≤i∧i < xs.length:=by
 unfold atI at h
 cases e:ixN xs.length i with
 | none=>rw [e] at h;cases h
 | some j=>
   rw [e] at h
   obtain ⟨h1,h2,h3,h4⟩:=LL e
   exact ⟨j,h1,h,h2,h3,h4⟩
theorem OY {α:Type} {xs:List α} {j:Nat} {v:α} (h:xs[j]?=some v):atI xs (j:Int)=some v:=by
 have hj:j < xs.length:=(List.getElem?_eq_some_iff.mp h).1
 have e:ixN xs.length (j:Int)=some j:=by
  unfold ixN
  rw [if_pos (by omega),if_pos (by omega)];simp
 unfold atI;rw [e];exact h
def FY (b:Expr):Prop:=∀o i,subscripted b false o i=operate [o,i] (getItem o i)
def IxR (X:Cx) (r:R2):Prop:=
 ∀(value slice:Expr) (pins:List (Addr×Obj)) (s:Shared) (σ:St) (H:Hp) (x y:V) (v u:Value) (Q:VK),Inv X pins σ H s→RelV x v→RelV y u→r x y H Q→
  subscripted slice false v u=operate [v,u] (getItem v u)→wpAny (model X.prog X.w) X.A (subscriptTail value slice v u) (EP X pins σ Q) X.xe s
def MtR (X:Cx) (id:String) (r:V→List V→Hp→VK→Prop):Prop:=
 ∀(pins:List (Addr×Obj)) (s:Shared) (σ:St) (H:Hp) (x:V) (xs:List V) (v:Value) (us:List Value) (Q:VK),Inv X pins σ H s→RelV x v→Vals xs us→r x xs H Q→
  wpAny (model X.prog X.w) X.A (call (.builtin id) (v::us)) (EP X pins σ Q) X.xe s
section
variable {X:Cx} {a b:Expr} {ta tb:TE} {pos:Pos}
theorem No {r:R2} (hr:IxR X r) (ha:PE X a ta) (hb:PE X b tb) (hs:FY b):PE X (.Subscript a b pos) (tOp r ta tb):=by
 intro pins s σ H Q I h
 exact Subscript_ (binT ha hb I h fun v u s2 x y H2 I2 rx ry q=>hr a b pins s2 σ H2 x y v u Q I2 rx ry q (hs _ _))
def rIxL (K:PySem.W.Frag):R2:=fun x y H Q=>∃p xs i v,x=.ref p∧y=.int i∧SqL K H p xs∧atI xs i=some v∧Q v H
def rIxT (K:PySem.W.Frag):R2:=fun x y H Q=>∃p xs i v,x=.ref p∧y=.int i∧SqT K H p xs∧atI xs i=some v∧Q v H
theorem Pr:IxR X (rIxL X.K):=by
 intro value slice pins s σ H x y v u Q I rx ry h hs
 obtain ⟨p,xs,i,z,rfl,rfl,hq,he,q⟩:=h
 cases rx
 obtain ⟨t,rfl⟩:=ry
 obtain ⟨its,r,pl,hz⟩:=I.list hq
 obtain ⟨j,h1,h2,h3,h4,h5⟩:=Lk he
 obtain ⟨w,ew,rw'⟩:=r.get h2
 have hl:=r.length
 have hn:=GJ
 have fin:EP X pins σ Q w s:=⟨z,H,I,rw',q⟩
 by_cases h0:0≤i
 ·have hj:i.toNat=j:=by
   rw [seqIndex_of h0 h5] at h1
   exact Option.some.inj h1
  exact item_listR pl.isList h0 (by omega) (by rw [hj];simpa using ew) fin hs
 ·have hj:(i + (its.toArray.size:Int)).toNat=j:=by
   rw [seqIndex_neg (by omega) h4] at h1
   rw [List.size_toArray,←hl]
   exact Option.some.inj h1
  exact subscriptTail_builtinR (x:=w) pl.isList.typeIs slot_list_getitem.lookup
   (wpAny_getItem_list_neg (Q:=fun r s'=>r=w∧EP X pins σ Q r s') pl.isList (by omega) (by rw [List.size_toArray] <;> omega) (by omega) (by rw [hj];simpa using ew) ⟨rfl,fin⟩) hs
theorem Qx:IxR X (rIxT X.K):=by
 intro value slice pins s σ H x y v u Q I rx ry h hs
 obtain ⟨p,xs,i,z,rfl,rfl,hq,he,q⟩:=h
 cases rx
 obtain ⟨t,rfl⟩:=ry
 obtain ⟨its,r,pl,hz⟩:=I.tuple hq
 obtain ⟨j,h1,h2,h3,h4,h5⟩:=Lk he
 obtain ⟨w,ew,rw'⟩:=r.get h2
 have hl:=r.length
 have hn:=GJ
 have fin:EP X pins σ Q w s:=⟨z,H,I,rw',q⟩
 exact subscriptTail_builtinR (x:=w) pl.typeIs slot_tuple_getitem.lookup
  (getItem_tuple (j:=j) (Q:=fun r s'=>r=w∧EP X pins σ Q r s') pl (by omega) (by omega) (by rw [List.size_toArray,←hl];exact h1) (by simpa using ew) ⟨rfl,fin⟩) hs
theorem KA (its:List Value) (n j:Nat) (u:Value):Obj.mapSeq (·.setIfInBounds j u) {cls:=.type "list",data:=.seq its.toArray n}={cls:=.type "list",data:=.seq (its.set j u).toArray n}:=by
 simp [Obj.mapSeq]
theorem Inv.lst {pins:List (Addr×Obj)} {σ:St} {H:Hp} {s:Shared} {p:Addr} {xs:List V} (I:Inv X pins σ H s) (h:H p=some (.lst xs)):
  ∃(its:List Value) (n:Nat),Vals xs its∧s.heap.get? p=some {cls:=.type "list",data:=.seq its.toArray n}∧xs.length≤sizeLine:=by
 obtain ⟨z,its,n,r,e⟩:=I.hok p _ h
 exact ⟨its,n,r,e,z⟩
theorem Inv.lstUpd {pins:List (Addr×Obj)} {σ:St} {H:Hp} {s:Shared} {p:Addr} {xs ys:List V} {its its':List Value} {n n':Nat} {f:Obj→Obj} (I:Inv X pins σ H s) (h:H p=some (.lst xs))
  (ho:s.heap.get? p=some {cls:=.type "list",data:=.seq its.toArray n}) (hf:f {cls:=.type "list",data:=.seq its.toArray n}={cls:=.type "list",data:=.seq its'.toArray n'}) (r:Vals ys its') (hz:ys.length≤sizeLine) (t:Nat):
  Inv X pins σ (upd H p (.lst ys)) {s with heap:=s.heap.update p f,toks:=t}:=by
 have e:(s.heap.update p f).get? p=some {cls:=.type "list",data:=.seq its'.toArray n'}:=by
  rw [Heap.get?_update_self f ho (by rw [hf] <;> rfl),hf]
 refine I.write (x:=p) (e:=p) (by rw [h];trivial) (.inl rfl) (fun b u hb q=>(Heap.get?_update_other _ _ (Ne.symm hb)).trans q) ⟨_,e⟩ ?_
 exact ⟨hz,its',n',r,e⟩
def RB:V→V→V→Hp→(Hp→Prop)→Prop:=fun o i v H Q=>∃p xs k j,o=.ref p∧i=.int k∧H p=some (.lst xs)∧ixN xs.length k=some j∧Q (upd H p (.lst (xs.set j v)))
theorem set_list:PSet X RB:=by
 intro pins s σ H o i v ov iv u Q I ro ri rv h
 obtain ⟨p,xs,k,j,rfl,rfl,hp,hj,q⟩:=h
 cases ro
 obtain ⟨t,rfl⟩:=ri
 obtain ⟨its,n,r,ho,hz⟩:=I.lst hp
 obtain ⟨h1,h2,h3,h4⟩:=LL hj
 have hl:=r.length
 have hn:=GJ
 have I':Inv X pins σ (upd H p (.lst (xs.set j v))) {s with heap:=s.heap.update p (Obj.mapSeq (·.setIfInBounds j u))}:=
  I.lstUpd hp ho (KA its n j u) (r.set rv j) (by rw [List.length_set];exact hz) s.toks
 by_cases h0:0≤k
 ·have hk:k.toNat=j:=by
   rw [seqIndex_of h0 h4] at h1
   exact Option.some.inj h1
  exact PySem.W.ki_setAt ho h0 (by omega) (by rw [List.size_toArray,←hl];exact h4) (by rw [hk];exact ⟨_,I',q⟩)
 ·have hk:(k + (its.toArray.size:Int)).toNat=j:=by
   rw [seqIndex_neg (by omega) h3] at h1
   rw [List.size_toArray,←hl]
   exact Option.some.inj h1
  exact PySem.W.ki_setBack ho (by omega) (by rw [List.size_toArray,←hl];exact h3) (by omega) (by rw [hk];exact ⟨_,I',q⟩)
def Eb:V→Bool
 | .non=>true
 | .bl _=>true
 | .int _=>true
 | .str _=>true
 | _=>false
def eqV:V→V→Bool
 | .non,.non=>true
 | .bl a,.bl b=>a==b
 | .bl a,.int b=>(if a then 1 else 0)==b
 | .int a,.bl b=>a==(if b then 1 else 0)
 | .int a,.int b=>a==b
 | .str a,.str b=>a==b
 | _,_=>false
theorem Oi {A:Around} {s:Shared} {y x:V} {u v:Value} (ry:RelV y u) (rx:RelV x v) (fy:Eb y=true) (fx:Eb x=true):SeqAt.EqAt A s u v (eqV y x):=by
 cases y with
 | non=>
   cases ry
   cases x with
   | non=>cases rx;exact SeqAt.EqAt.same _
   | bl b=>cases rx;exact SeqAt.EqAt.none_bool b
   | int b=>obtain ⟨t,rfl⟩:=rx;exact SeqAt.EqAt.none_int b t
   | str b=>obtain ⟨t,rfl⟩:=rx;exact SeqAt.EqAt.none_str b t
   | _=>exact absurd (show false=true from fx) Bool.false_ne_true
 | bl a=>
   cases ry
   cases x with
   | non=>cases rx;exact SeqAt.EqAt.bool_none a
   | bl b=>cases rx;exact SeqAt.EqAt.bool_bool a b
   | int b=>obtain ⟨t,rfl⟩:=rx;exact SeqAt.EqAt.bool_int a b t
   | str b=>obtain ⟨t,rfl⟩:=rx;exact SeqAt.EqAt.bool_str a b t
   | _=>exact absurd (show false=true from fx) Bool.false_ne_true
 | int a=>
   obtain ⟨t',rfl⟩:=ry
   cases x with
   | non=>cases rx;exact SeqAt.EqAt.int_none a t'
   | bl b=>cases rx;exact SeqAt.EqAt.int_bool a t' b
   | int b=>obtain ⟨t,rfl⟩:=rx;exact SeqAt.EqAt.int_int a t' b t
   | str b=>obtain ⟨t,rfl⟩:=rx;exact SeqAt.EqAt.int_str a t' b t
   | _=>exact absurd (show false=true from fx) Bool.false_ne_true
 | str a=>
   obtain ⟨t',rfl⟩:=ry
   cases x with
   | non=>cases rx;exact SeqAt.EqAt.str_none a t'
   | bl b=>cases rx;exact SeqAt.EqAt.str_bool a t' b
   | int b=>obtain ⟨t,rfl⟩:=rx;exact SeqAt.EqAt.str_int a t' b t
   | str b=>obtain ⟨t,rfl⟩:=rx;exact SeqAt.EqAt.str_str a t' b t
   | _=>exact absurd (show false=true from fx) Bool.false_ne_true
 | _=>exact absurd (show false=true from fy) Bool.false_ne_true
def eqU (x:V) (u:Value):Bool:=match u with
 | .none=>eqV .non x
 | .bool b=>eqV (.bl b) x
 | .int i _=>eqV (.int i) x
 | .str z _=>eqV (.str z) x
 | _=>false
theorem Ov {x y:V} {u:Value} (r:RelV y u) (f:Eb y=true):eqU x u=eqV y x:=by
 cases y with
 | non=>cases r;rfl
 | bl b=>cases r;rfl
 | int i=>obtain ⟨t,rfl⟩:=r;rfl
 | str z=>obtain ⟨t,rfl⟩:=r;rfl
 | _=>exact absurd (show false=true from f) Bool.false_ne_true
theorem EI {x:V}:∀{xs:List V} {us:List Value},Vals xs us→xs.all Eb=true→us.any (eqU x)=xs.any fun y=>eqV y x
 | _,_,.nil,_=>rfl
 | y::xs,u::us,.cons r t,f=>by
   rw [List.all_cons,Bool.and_eq_true] at f
   rw [List.any_cons,List.any_cons,Ov r f.1,EI t f.2]
theorem DP {A:Around} {s:Shared} {x:V} {v:Value} (rx:RelV x v) (fx:Eb x=true):∀{xs:List V} {us:List Value},Vals xs us→xs.all Eb=true→∀u∈us,SeqAt.EqAt A s u v (eqU x u)
 | _,_,.nil,_=>fun u hu=>by cases hu
 | y::xs,u::us,.cons r t,f=>fun u' hu=>by
   rw [List.all_cons,Bool.and_eq_true] at f
   rcases List.mem_cons.mp hu with rfl | hu
   ·rw [Ov r f.1];exact Oi r rx f.1 fx
   ·exact DP rx fx t f.2 u' hu
def inV (x:V) (xs:List V):Bool:=xs.any fun y=>eqV y x
def rIn (K:PySem.W.Frag) (neg:Bool):R2:=fun x y H Q=>∃p xs,y=.ref p∧(SqL K H p xs∨SqT K H p xs)∧Eb x=true∧xs.all Eb=true∧Q (.bl (if neg then !inV x xs else inV x xs)) H
theorem op_in_seq:OpR X (compareOp .In) (rIn X.K false):=by
 intro pins s σ H x y v u Q I rx ry h
 obtain ⟨p,xs,rfl,hq,fx,fs,q⟩:=h
 cases ry
 rcases hq with hq | hq
 ·obtain ⟨its,r,pl,hz⟩:=I.list hq
  refine SeqAt.in_listAt (eqU x) pl.isList (fun w hw=>DP rx fx r fs w (by simpa using hw)) ⟨.bl _,H,I,rfl,?_⟩
  rw [show its.toArray.any (eqU x)=its.any (eqU x) by simp,EI r fs]
  exact q
 ·obtain ⟨its,r,pl,hz⟩:=I.tuple hq
  refine SeqAt.in_tupleAt (eqU x) pl (fun w hw=>DP rx fx r fs w (by simpa using hw)) ⟨.bl _,H,I,rfl,?_⟩
  rw [show its.toArray.any (eqU x)=its.any (eqU x) by simp,EI r fs]
  exact q
theorem op_notIn_seq:OpR X (compareOp .NotIn) (rIn X.K true):=by
 intro pins s σ H x y v u Q I rx ry h
 obtain ⟨p,xs,rfl,hq,fx,fs,q⟩:=h
 cases ry
 rcases hq with hq | hq
 ·obtain ⟨its,r,pl,hz⟩:=I.list hq
  refine SeqAt.notIn_listAt (eqU x) pl.isList (fun w hw=>DP rx fx r fs w (by simpa using hw)) ⟨.bl _,H,I,rfl,?_⟩
  rw [show its.toArray.any (eqU x)=its.any (eqU x) by simp,EI r fs]
  exact q
 ·obtain ⟨its,r,pl,hz⟩:=I.tuple hq
  refine SeqAt.notIn_tupleAt (eqU x) pl (fun w hw=>DP rx fx r fs w (by simpa using hw)) ⟨.bl _,H,I,rfl,?_⟩
  rw [show its.toArray.any (eqU x)=its.any (eqU x) by simp,EI r fs]
  exact q
theorem call_len_seq:CallR X (.builtin "len") (fun xs H Q=>∃p ys,xs=[.ref p]∧(SqL X.K H p ys∨SqT X.K H p ys)∧Q (.int ys.length) H):=by
 intro pins s σ H xs us Q I r h
 obtain ⟨p,ys,rfl,hq,q⟩:=h
 obtain ⟨u,rfl,rx⟩:=vals1 r
 cases rx
 have hn:=GJ
 rcases hq with hq | hq
 ·obtain ⟨its,r',pl,hz⟩:=I.list hq
  have hlen:=r'.length
  exact Calls.call_len_list pl.isList (by simp only [List.size_toArray] <;> omega) ⟨.int ys.length,H,I.tok _,⟨s.toks + 1,by rw [List.size_toArray,hlen]⟩,q⟩
 ·obtain ⟨its,r',pl,hz⟩:=I.tuple hq
  have hlen:=r'.length
  exact len_tuple pl (by simp only [List.size_toArray] <;> omega) ⟨.int ys.length,H,I.tok _,⟨s.toks + 1,by rw [List.size_toArray,hlen]⟩,q⟩
theorem call_len_str:CallR X (.builtin "len") (fun xs H Q=>∃z,xs=[.str z]∧z.length≤sizeLine∧Q (.int z.length) H):=by
 intro pins s σ H xs us Q I r h
 obtain ⟨z,rfl,hz,q⟩:=h
 obtain ⟨u,rfl,t,rfl⟩:=vals1 r
 have hn:=GJ
 exact len_str (by omega) ⟨.int z.length,H,I.tok _,⟨_,rfl⟩,q⟩
theorem call_list_of:CallR X (.type "list") (fun xs H Q=>∃p ys,xs=[.ref p]∧(SqL X.K H p ys∨SqT X.K H p ys)∧∀l,H l=none→Q (.ref l) (upd H l (.lst ys))):=by
 intro pins s σ H xs us Q I r h
 obtain ⟨p,ys,rfl,hq,q⟩:=h
 obtain ⟨u,rfl,rx⟩:=vals1 r
 cases rx
 have fin:∀(its:List Value),Vals ys its→ys.length≤sizeLine→∀(h':Heap) (c':Nat),(∀b o',s.heap.get? b=some o'→h'.get? b=some o')→
   h'.get? s.heap.objs.size=some {cls:=.type "list",dict:=none,data:=.seq its.toArray c',slots:=#[]}→EP X pins σ Q (.ref s.heap.objs.size) {s with heap:=h'}:=fun its r' hz h' c' kp e=>
  ⟨.ref s.heap.objs.size,_,I.laid (t':=s.toks) kp (Nat.le_refl _) (show ObjOk X.prog X.w _ h' _ (.lst ys) from ⟨hz,its,c',r',e⟩),rfl,q _ (I.hok.fresh (Nat.le_refl _))⟩
 rcases hq with hq | hq
 ·obtain ⟨its,r',pl,hz⟩:=I.list hq
  have hlen:=r'.length
  obtain ⟨o,ho,hc,n,hd⟩:=pl.isList
  exact call_list_seq p (.inl rfl) ho hc hd (fun h' c' kp e=>fin its r' hz h' c' kp e) (by simp only [List.size_toArray] <;> omega)
 ·obtain ⟨its,r',pl,hz⟩:=I.tuple hq
  have hlen:=r'.length
  obtain ⟨o,ho,hc,n,hd⟩:=pl
  exact call_list_seq p (.inr rfl) ho hc hd (fun h' c' kp e=>fin its r' hz h' c' kp e) (by simp only [List.size_toArray] <;> omega)
theorem call_tuple_of:CallR X (.type "tuple") (fun xs H Q=>∃p ys,xs=[.ref p]∧((SqL X.K H p ys∧∀l,H l=none→Q (.ref l) (upd H l (.tup ys)))∨(SqT X.K H p ys∧Q (.ref p) H))):=by
 intro pins s σ H xs us Q I r h
 obtain ⟨p,ys,rfl,h⟩:=h
 obtain ⟨u,rfl,rx⟩:=vals1 r
 cases rx
 rcases h with ⟨hq,q⟩ | ⟨hq,q⟩
 ·obtain ⟨its,r',pl,hz⟩:=I.list hq
  have hlen:=r'.length
  refine call_tuple_list pl.isList (fun h' kp=>?_) (by simp only [List.size_toArray] <;> omega)
  have I1:Inv X pins σ H {s with heap:=h'}:=I.kept (t':=s.toks) kp
  have I2:Inv X pins σ (upd H h'.objs.size (.tup ys)) {s with heap:=h'.push {cls:=.type "tuple",data:=.seq its.toArray}}:=
   I1.laid (t':=s.toks) (fun b o e=>Heap.get?_push_of_some _ e) (Nat.le_refl _) (show ObjOk X.prog X.w _ _ _ (.tup ys) from ⟨hz,⟨its,r',IsTup.new _ _⟩,_,Heap.get?_push_size _ rfl,rfl⟩)
  exact ⟨.ref h'.objs.size,_,I2,rfl,q _ (I1.hok.fresh (Nat.le_refl _))⟩
 ·obtain ⟨its,r',pl,hz⟩:=I.tuple hq
  exact call_tuple_same pl ⟨.ref p,H,I,rfl,q⟩
def tyV (K:PySem.W.Frag) (T:String) (x:V) (H:Hp):Prop:=match x with
 | .str _=>T="str"
 | .int _=>T="int"
 | .ref p=>(T="list"∧∃xs,SqL K H p xs)∨(T="tuple"∧∃o,K.lookup p=some o∧o.cls=.type "tuple"∧o.dict=none)∨
   (T="dict"∧((∃kvs,H p=some (.dK kvs))∨∃kvs,H p=some (.dT kvs)))∨(T="set"∧∃S n,H p=some (.set S n))
 | _=>False
theorem Rn {pins:List (Addr×Obj)} {σ:St} {H:Hp} {s:Shared} {T:String} {x:V} {v:Value} (I:Inv X pins σ H s) (r:RelV x v) (ty:tyV X.K T x H):
  s.TypeIs v T∧∀a,v=.ref a→∃ob,s.heap.get? a=some ob∧ob.dict=none:=by
 cases x with
 | str z=>
   obtain ⟨t,rfl⟩:=r
   cases (show T="str" from ty)
   exact ⟨typeIs_str s z t,fun _ e=>nomatch e⟩
 | int i=>
   obtain ⟨t,rfl⟩:=r
   cases (show T="int" from ty)
   exact ⟨typeIs_int s i t,fun _ e=>nomatch e⟩
 | ref p=>
   cases r
   rcases ty with ⟨rfl,xs,hq⟩ | ⟨rfl,o,hk,hc,hd⟩ | ⟨rfl,hk⟩ | ⟨rfl,S,n,hk⟩
   ·obtain ⟨its,_,pl,_⟩:=I.list hq
    refine ⟨pl.isList.typeIs,fun a e=>?_⟩
    cases e
    obtain ⟨o,n,e,c,hd,_⟩:=pl
    exact ⟨o,e,hd⟩
   ·refine ⟨⟨o,I.kIn p o hk,hc⟩,fun a e=>?_⟩
    cases e
    exact ⟨o,I.kIn _ o hk,hd⟩
   ·have z:∃o,s.heap.get? p=some o∧o.ExactDict:=by
     rcases hk with ⟨kvs,hk⟩ | ⟨kvs,hk⟩
     ·obtain ⟨_,_,_,_,o,_,_,e,ex,_⟩:=I.hok p _ hk
      exact ⟨o,e,ex⟩
     ·obtain ⟨_,_,_,_,o,_,_,e,ex,_⟩:=I.hok p _ hk
      exact ⟨o,e,ex⟩
    obtain ⟨o,e,ex⟩:=z
    refine ⟨⟨o,e,ex.1⟩,fun a e2=>?_⟩
    cases e2
    exact ⟨o,e,ex.2.1⟩
   ·obtain ⟨o,_,_,_,e,ex,_⟩:=I.hok p _ hk
    refine ⟨⟨o,e,ex.1⟩,fun a e2=>?_⟩
    cases e2
    exact ⟨o,e,ex.2.1⟩
 | _=>exact False.elim ty
def tBM (K:PySem.W.Frag) (T:String) (r:V→List V→Hp→VK→Prop) (to:TE) (t:TA):TE:=fun σ H Q=>to σ H fun x H1=>tyV K T x H1∧t σ H1 fun xs H2=>r x xs H2 Q
variable {o e:Expr} {es:List Expr} {to:TE} {t:TA} {name:Str} {apos cpos:Pos} {T id:String} {r:V→List V→Hp→VK→Prop}
theorem La (pa:PlainAttrs T) (slot:Slot T name id) (hty:typeOf (.builtin id)=pure (.type "method_descriptor")) (hm:MtR X id r) (ho:PE X o to) (ha:PA X (e::es) t)
  (hbase:attributeBase o name X.env (eval o X.env)=eval o X.env:=by rfl)
  (hfew:((backTo cpos (starEach (e::es) X.env)).all (fun x=>!x.1) && (backToKw cpos (keywordEach [] X.env)).all (fun x=>x.1.isSome)
   && decide ((e::es).length + ([]:List Keyword).length + (if ([]:List Keyword).isEmpty then 0 else 1) < 30))=true:=by rfl)
  (hline:(apos.endLine==cpos.line)=true:=by rfl) (hs:starEach (e::es) X.env=(false,eval e X.env)::starEach es X.env:=by rfl) (hplain:(backTo cpos (starEach es X.env)).any (·.1)=false:=by rfl):
  PE X (.Call (.Attribute o name apos) (e::es) [] cpos) (tBM X.K T r to t):=by
 intro pins s σ H Q I h
 refine wpAny_Call_method_late hbase hfew hline rfl (thn (ho pins s σ H _ I h) fun v s1 ⟨x,H1,I1,r1,ty,q1⟩=>?_)
 obtain ⟨h1,h2⟩:=Rn I1 r1 ty
 refine ⟨T,id,pa,slot,hty,h1,h2,?_⟩
 have hA:=ha cpos pins s1 σ H1 _ I1 q1
 rw [hs] at hA ⊢
 refine Calls.callWith_builtin (by show (false || (backTo cpos (starEach es X.env)).any (·.1))=false;rw [hplain] <;> rfl) (Calls.evalArgs_plain ?_)
 exact thn hA fun us s2 ⟨vs,H2,I2,r2,q2⟩=>hm pins s2 σ H2 x vs v us Q I2 r1 r2 q2
end
def MtM (X:Cx) (id:String) (r:V→List V→Hp→VK→Prop):Prop:=
 ∀(pins:List (Addr×Obj)) (s:Shared) (σ:St) (H:Hp) (x:V) (xs:List V) (v:Value) (us:List Value) (Q:VK),Inv X pins σ H s→RelV x v→Vals xs us→r x xs H Q→
  wpAny (model X.prog X.w) X.A (call (.builtin id) (v::us)) (EP X pins σ Q) X.xe s
theorem Vals.one:∀{x:V} {us:List Value},Vals [x] us→∃u,us=[u]∧RelV x u
 | _,_,.cons r .nil=>⟨_,rfl,r⟩
theorem Vals.rep {xs:List V} {us:List Value} (h:Vals xs us):∀k:Nat,Vals (List.replicate k xs).flatten (List.replicate k us).flatten
 | 0=>.nil
 | k + 1=>by
   rw [List.replicate_succ,List.replicate_succ,List.flatten_cons,List.flatten_cons]
   exact Vals.append h (Vals.rep h k)
theorem foldl_rep (its:List Value):∀(k:Nat) (acc:List Value),
  List.foldl (fun x1 x2=>x1++x2) acc.toArray (List.replicate k its.toArray)=(acc++(List.replicate k its).flatten).toArray
 | 0,acc=>by simp
 | k + 1,acc=>by
   have e:acc.toArray++its.toArray=(acc++its).toArray:=by simp
   have e2:(acc++its)++(List.replicate k its).flatten=acc++(List.replicate (k + 1) its).flatten:=by
    rw [List.replicate_succ,List.flatten_cons,List.append_assoc]
   rw [←e2,←foldl_rep its k (acc++its),←e,List.replicate_succ,List.foldl_cons]
section
variable {X:Cx} {pins:List (Addr×Obj)} {σ:St} {H:Hp} {s:Shared} {l b:Addr} {xs ys zs:List V}
theorem Inv.lset {its its':List Value} {n:Nat} {f:Array Value→Array Value} {t':Nat} (I:Inv X pins σ H s) (hH:H l=some (.lst xs))
  (e:s.heap.get? l=some {cls:=.type "list",data:=.seq its.toArray n}) (hf:f its.toArray=its'.toArray) (hv:Vals ys its') (hz:ys.length≤sizeLine):
  Inv X pins σ (upd H l (.lst ys)) {s with heap:=s.heap.update l (Obj.mapSeq f),toks:=t'}:=by
 have q:=PySem.IsL.update e f
 rw [hf] at q
 refine I.write (x:=l) (e:=l) (by rw [hH];exact trivial) (.inl rfl) (fun b' u hb hu=>(Heap.get?_update_other s.heap (Obj.mapSeq f) (Ne.symm hb)).trans hu) ⟨_,q⟩ ?_
 exact ⟨hz,its',_,hv,q⟩
theorem Inv.lnew {its:List Value} {t':Nat} (I:Inv X pins σ H s) (hv:Vals ys its) (hz:ys.length≤sizeLine):
  Inv X pins σ (upd H s.heap.objs.size (.lst ys)) {s with heap:=s.heap.push {cls:=.type "list",data:=.seq its.toArray},toks:=t'}:=
 I.laid (fun _ _ q=>Heap.get?_push_of_some _ q) (Nat.le_refl _) ⟨hz,its,0,hv,Heap.get?_push_size _ rfl⟩
theorem Inv.lstM (I:Inv X pins σ H s) (hH:H l=some (.lst xs)):xs.length≤sizeLine∧∃(its:List Value) (n:Nat),Vals xs its∧xs.length=its.length∧s.heap.get? l=some {cls:=.type "list",data:=.seq its.toArray n}:=by
 obtain ⟨z,its,n,r,e⟩:=I.hok l _ hH
 exact ⟨z,its,n,r,r.length,e⟩
theorem MN {n:Nat} (h:n≤sizeLine):Builtin.List.listTooLong n=false:=by
 unfold Builtin.List.listTooLong
 exact decide_eq_false (by omega)
end
section
variable {X:Cx}
def Pf:V→List V→Hp→VK→Prop:=fun x vs H Q=>∃l xs y,x=.ref l∧vs=[y]∧H l=some (.lst xs)∧xs.length < sizeLine∧Q .non (upd H l (.lst (xs++[y])))
theorem E_:MtM X "list.append" Pf:=by
 intro pins s σ H x vs v us Q I rx rv h
 obtain ⟨l,xs,y,rfl,rfl,hH,hz,q⟩:=h
 cases rx
 obtain ⟨u,rfl,ru⟩:=rv.one
 obtain ⟨z,its,n,r,hl,e⟩:=I.lstM hH
 refine call_meets F.slot_list_append ⟨_,e,rfl⟩ F.entry_list_append (F.args_list_append_2 _ _) (PySem.list_append l its.toArray n u (by rw [List.size_toArray];omega)) ⟨e,?_⟩
 refine ⟨.non,_,I.lset (its':=its++[u]) hH e (by simp) (r.append (.cons ru .nil)) ?_,rfl,q⟩
 rw [List.length_append,List.length_singleton]
 omega
theorem len_rep {α:Type} (xs:List α) (k:Nat):(List.replicate k xs).flatten.length=k * xs.length:=by
 induction k with
 | zero=>simp
 | succ k ih=>rw [List.replicate_succ,List.flatten_cons,List.length_append,ih,Nat.succ_mul,Nat.add_comm]
end
section
variable {prog:Program} {w:World} {A:Around} {E:Value→Shared→Prop} {s:Shared}
end
section
variable {X:Cx}
end
end L2
namespace Att
open PySem PySem.W PySem.Calls PyProof.Rows
theorem FT {P:Params} {h:Heap}:∀(ns:List Int) (vs:List Value),WellAll P h vs (ns.map WData.int)→IntsAre vs ns:=by
 intro ns
 induction ns with
 | nil=>
   intro vs w
   rw [List.map_nil] at w
   cases w
   exact .nil
 | cons n ns ih=>
   intro vs w
   rw [List.map_cons] at w
   cases w with
   | cons a b=>
     cases a
     exact .cons _ _ (ih _ b)
theorem MF {l:OpenLaw} {n:Nat} (hn:l.most=some n) {P:Params} {h:Heap} {args:List WData} {vals:List Value}
  (hpre:l.row.toRowW.claim.pre args=true) (hwl:WellAll P h vals args):
  ∃a vs ns,vals=[Value.ref a]∧args=[WData.list (ns.map WData.int)]∧h.get? a=some {cls:=.type "list",data:=.seq vs.toArray}∧IntsAre vs ns∧ns.length≤n:=by
 have hsh:WShape.hasAll [] args [.list .int]=true:=(pre_splitW hpre).1
 have hc:l.pre.holds [] {args:=args}=true:=(pre_splitW hpre).2
 obtain ⟨d,r,rfl,h1,h2⟩:=hasAllW_cons hsh
 obtain rfl:=hasAllW_nil h2
 obtain ⟨xs,rfl,h3⟩:=hasW_list h1
 obtain ⟨ns,rfl⟩:=items_int h3
 have hlen:ns.length≤n:=by
  unfold OpenLaw.pre at hc
  have h4:(WTm.not (.lt (.lit (.int (n:Int))) (.len (.arg 0)))).holds [] {args:=[.list (ns.map .int)]}=true:=by
   have h4:=(holds_andW hc).1
   rw [hn] at h4
   exact h4
  have h5:=condW_of h4 (w_not (w_lt w_lit (w_len_list (w_arg rfl))))
  rw [List.length_map] at h5
  refine Nat.le_of_not_lt fun q=>?_
  have q':(n:Int) < ((ns.length:Nat):Int):=by omega
  first
   | (rw [decide_eq_true q'] at h5;exact absurd h5 (by decide))
   | (simp at h5;omega)
 cases hwl with
 | cons w1 w2=>
   cases w2
   cases w1 with
   | list ho hall=>exact ⟨_,_,ns,rfl,rfl,ho,FT ns _ hall,hlen⟩
theorem LV (l:OpenLaw) (args:List WData):l.row.toRowW.claim.post args (.bool true) args=true:=
 postW_of (r:=l.row.toRowW) (X:=(true==true))
  (show WShape.has [] (.bool true) .bool=true by first | rfl | decide | simp [WShape.has,WShape.arms,WShape.armsAll])
  (show (WTm.eq .res (.lit (.bool true))).value [] {args:=args,res:=some (.bool true),after:=args}=some (.bool (true==true)) from w_eq_bool (w_res rfl) w_lit) rfl
theorem attach_call {l:OpenLaw} {n:Nat} {q:Program} {loose:List Str} {XP:(Str→Option Value)→Heap→Prop} {YP:World→Heap→Prop} {d:DefRec}
  (hn:l.most=some n) (hdf:d.params.defaults=[])
  (call:∀(w:World) (s₀ s₁:Shared) (mg mb:Str→Option Value) (fa:Addr) (o:Obj) (pm cd doc:Value) (a:Addr) (vs:List Value) (ns:List Int),
   Ground q loose [] XP w s₀ mg mb s₁.heap→YP w s₁.heap→
   s₁.heap.get? fa=some o→o.data=.func (docDef d.name d.params d.body d.scope pm cd doc)→s₁.heap.CodeRec cd d.name→mg d.name=some (.ref fa)→
   s₁.heap.get? a=some {cls:=.type "list",data:=.seq vs.toArray}→IntsAre vs ns→ns.length≤n→s₁.gens=#[]→
   codeAny (model l.prog w) callerA (.call (.ref fa) ⟨[.ref a],[]⟩) (fun r s'=>r=.ok (.ret (.bool true))∧OldK s₁.heap s'.heap∧s'.os=s₁.os∧AllBare s'.gens) s₁):
  WalkO q loose XP YP l.row.toRowW d [] (fun f vs=>PySem.call f vs):=by
 intro w s₀ s₁ mg mb G Y fa o pm cd doc dV kV ho hd hcd hD hmg hg args vals as hpre hlay hrd hwl hlo
 obtain rfl:dV=.none:=Dflts.none hD hdf
 obtain rfl:kV=.none:=Dflts.noKw hD
 obtain ⟨a,vs,ns,rfl,rfl,hobj,hints,hlen⟩:=MF hn hpre hwl
 refine enter_call (codeAny_mono (call w s₀ s₁ mg mb fa o pm cd doc a vs ns G Y ho (fd_plain hd) hcd hmg hobj hints hlen hg) fun r s' hq=>?_)
 obtain ⟨rfl,h2,h3,h4⟩:=hq
 exact ⟨.inl ⟨.bool true,.bool true,[],rfl,fun _=>rfl,.bool true,LV l _,fun _=>⟨List.Pairwise.nil,fun _ hm=>(nomatch hm)⟩⟩,h2,h3,h4⟩
section
variable {prog:Program} {w:World} {A:Around} {E:Value→Shared→Prop} {s:Shared} {K:Frag}
end
end Att
namespace L2
open PySem PySem.Spec PyProof.Rows
theorem HR:∀{vs:List Value} {ns:List Int},IntsAre vs ns→Vals (ns.map V.int) vs
 | _,_,.nil=>.nil
 | _,_,.cons n t h=>.cons ⟨t,rfl⟩ (HR h)
def Only (H:Hp):Prop:=∀b,H b=none∨∃o xs,H b=some (.frz o (.lst xs))
theorem NF {P:Program} {w:World} {K:PySem.W.Frag} {mg mb:Str→Option Value} {CX:CXT} {k:Nat} {fa a:Addr} {fd:FuncData} {x:Str} {sp:Sp} {s₁:Shared} {vs:List Value} {ns:List Int}
  (KX:K.In s₁.heap) (hns:s₁.heap.Ns mainGlobals mg) (hb:s₁.heap.Ns builtinsNs mb) (hbb:∀x:Str,x≠"__name__"→mb x=bootBuiltins x) (hlim:s₁.heap.NoLimit) (hg:s₁.gens=#[])
  (ha:s₁.heap.get? a=some {cls:=.type "list",data:=.seq vs.toArray}) (hi:IntsAre vs ns) (hl:ns.length≤sizeLine) (hr:Room k callerA)
  (F:∀base:Heap,K.In base→base.Ns mainGlobals mg→FnOk P w K mg base CX k fa fd [x] sp) (hbind:∀(s:Shared) (u:Value),BindsTo s fd ⟨[u],[]⟩ [(x,u)])
  (hsp:∀H:Hp,Only H→SqL K H a (ns.map V.int)→sp [.ref a] H (fun v _=>v=.bl true) fun _ _ _=>False)
  (hCX:∀H e s',CX [] H s₁ (fun _ _ _=>False) e s'→False):
  codeAny (model P w) callerA (.call (.ref fa) ⟨[.ref a],[]⟩) (fun r s'=>r=.ok (.ret (.bool true))∧OldK s₁.heap s'.heap∧s'.os=s₁.os∧AllBare s'.gens) s₁:=by
 have rv:=HR hi
 have lenV:=hi.length
 have core:∀H:Hp,Only H→SqL K H a (ns.map V.int)→HOk P w H s₁.heap→(∀b,H b≠none→b=a)→(H a≠none→K.lookup a=none)→
   codeAny (model P w) callerA (.call (.ref fa) ⟨[.ref a],[]⟩) (fun r s'=>r=.ok (.ret (.bool true))∧OldK s₁.heap s'.heap∧s'.os=s₁.os∧AllBare s'.gens) s₁:=by
  intro H hO hS hok hA hK
  have base_of:∀{b:Addr} {o:Obj},s₁.heap.get? b=some o→H b=none→(hidT s₁.heap H).get? b=some o:=fun e n=>Oq e n
  have noA:∀{b:Addr} {o:Obj} {es:Array DictEntry} {ep:Nat},s₁.heap.get? b=some o→o.data=.dict es ep→H b=none:=fun {b o es ep} e d=>by
   cases q:H b with
   | none=>rfl
   | some u=>
     have e':b=a:=hA b (by rw [q];simp)
     subst e'
     rw [ha] at e;cases e
     have d':Data.seq vs.toArray _=Data.dict es ep:=d
     cases d'
  have nsK:∀{b:Addr} {m:Str→Option Value},s₁.heap.Ns b m→(hidT s₁.heap H).Ns b m:=fun {b m} ⟨o,es,ep,e,d,r⟩=>⟨o,es,ep,base_of e (noA e d),d,r⟩
  have hKb:K.In (hidT s₁.heap H):=fun b o e=>base_of (KX b o e) (by
   cases q:H b with
   | none=>rfl
   | some u=>
     have e':b=a:=hA b (by rw [q];simp)
     subst e'
     rw [hK (by rw [q];simp)] at e;cases e)
  have hM:Mod K mg (hidT s₁.heap H):=⟨hKb,nsK hns,⟨mb,nsK hb,hbb⟩,let ⟨mc,h1,h2⟩:=hlim;⟨mc,nsK h1,h2⟩⟩
  have e0:Env0 P w K mg (hidT s₁.heap H) callerA [] s₁ H:=⟨rfl,hM,fun b o e=>P6 e,Nat.le_of_eq (MH _ _),trivial,fun b hb=>absurd (show b∈([]:List Addr) from hb) (by simp),hok,.of_eq hg⟩
  refine codeAny_mono ((F _ hKb (nsK hns)).run callerA [] s₁ H ⟨[.ref a],[]⟩ [.ref a] [.ref a] _ _ hr e0 (hbind s₁ (.ref a)) (.cons rfl .nil) (hsp H hO hS)) fun r s' h=>?_
  cases r with
  | error e=>exact (hCX H e s' h).elim
  | ok fl=>
    cases fl with
    | next=>exact False.elim h
    | brk=>exact False.elim h
    | cont=>exact False.elim h
    | ret u=>
      obtain ⟨v,H',os,bare,un,hok',r',q⟩:=h
      have q':v=.bl true:=q
      subst q'
      obtain rfl:u=Value.bool true:=r'
      refine ⟨rfl,OldK.of_keep fun b o e=>?_,os,bare⟩
      cases q:H b with
      | none=>exact un.keep b o e q (by intro z;exact absurd (show b∈([]:List Addr) from z) (by simp)) (by simp)
      | some u=>
        rcases hO b with z | ⟨ob,xs,z⟩
        ·rw [q] at z;cases z
        ·have z2:=un.frzs b ob _ z
         obtain ⟨e1,_⟩:=hok b _ z
         obtain ⟨e2,_⟩:=hok' b _ z2
         rw [e] at e1;cases e1
         exact e2
 cases hk:K.lookup a with
 | some o=>
   have e:=KX a o hk
   rw [ha] at e
   cases e
   refine core (fun _=>none) (fun _=>.inl rfl) (.inr ⟨_,vs.toArray,_,hk,rfl,rfl,rfl,by rw [List.size_toArray,lenV];exact hl,by simpa using rv⟩) (fun b u z=>by have z':(none:Option HO)=some u:=z;cases z') (fun b z=>absurd rfl z) fun z=>absurd rfl z
 | none=>
   refine core (fun b=>if b=a then some (.frz {cls:=.type "list",data:=.seq vs.toArray} (.lst (ns.map V.int))) else none) (fun b=>?_) (.inl (.inr ⟨{cls:=.type "list",data:=.seq vs.toArray},if_pos rfl⟩)) (fun b u z=>?_) (fun b z=>?_) fun _=>hk
   ·by_cases hb:b=a
    ·exact .inr ⟨_,_,if_pos hb⟩
    ·exact .inl (if_neg hb)
   ·by_cases hb:b=a
    ·have z':=(if_pos hb).symm.trans z
     cases z'
     subst hb
     exact ⟨ha,by rw [List.length_map];exact hl,vs,_,rv,ha⟩
    ·have z':=(if_neg hb).symm.trans z
     cases z'
   ·by_cases hb:b=a
    ·exact hb
    ·exact absurd (if_neg hb) z
theorem walk_of {l:PySem.W.OpenLaw} {n k:Nat} {q:Program} {loose:List Str} {XP:(Str→Option Value)→Heap→Prop} {YP:World→Heap→Prop} {d:DefRec} {K:Params→PySem.W.Frag} {CX:World→CXT} {sp:World→Sp} {x:Str}
  (hn:l.most=some n) (hn2:n≤sizeLine) (hdf:d.params.defaults=[]) (hr:Room k callerA)
  (hY:∀(w:World) (h:Heap),YP w h→(K w.params).In h)
  (F:∀(w:World) (mg:Str→Option Value) (fa:Addr) (h:Heap),(K w.params).In h→h.Ns mainGlobals mg→mg d.name=some (.ref fa)→
   ∃fd:FuncData,(∀(s:Shared) (u:Value),BindsTo s fd ⟨[u],[]⟩ [(x,u)])∧
    ∀base:Heap,(K w.params).In base→base.Ns mainGlobals mg→FnOk l.prog w (K w.params) mg base (CX w) k fa fd [x] (sp w))
  (hsp:∀(w:World) (H:Hp) (a:Addr) (ns:List Int),ns.length≤n→Only H→SqL (K w.params) H a (ns.map V.int)→sp w [.ref a] H (fun v _=>v=.bl true) fun _ _ _=>False)
  (hCX:∀(w:World) (H:Hp) (s:Shared) (e:Value) (s':Shared),CX w [] H s (fun _ _ _=>False) e s'→False):
  PySem.W.WalkO q loose XP YP l.row.toRowW d [] (fun f vs=>PySem.call f vs):=by
 refine Att.attach_call hn hdf fun w s₀ s₁ mg mb fa o pm cd doc a vs ns G Y ho hd hcd hmg hobj hints hlen hg=>?_
 have KX:=hY w _ Y
 obtain ⟨fd,hb,hF⟩:=F w mg fa _ KX G.T.g hmg
 exact NF KX G.T.g G.T.b G.T.builtins G.T.nolimit hg hobj hints (Nat.le_trans hlen hn2) hr hF hb (fun H hO hS=>hsp w H a ns hlen hO hS) fun H e s'=>hCX w H s₁ e s'
def inClass (s:Stmt) (j:Nat):Stmt:=match s with
 | .ClassDef _ _ _ body _ _ _ _ _ _ _=>body.getD j (.Pass ⟨0,0,0,0⟩)
 | _=>.Pass ⟨0,0,0,0⟩
def Ca (s:Stmt):Arguments:=match s with
 | .FunctionDef _ a _ _ _ _ _ _ _ _=>a
 | _=>{posonlyargs:=[],args:=[],vararg:=none,kwonlyargs:=[],kw_defaults:=[],kwarg:=none,defaults:=[]}
def AM (s:Stmt):List Stmt:=match s with
 | .FunctionDef _ _ b _ _ _ _ _ _ _=>b
 | _=>[]
def Ai (s:Stmt):Scope:=match s with
 | .FunctionDef _ _ _ _ _ _ sc _ _ _=>sc
 | _=>{kind:=.function,names:=[],isGenerator:=false,isCoroutine:=false}
abbrev CX0:CXT:=fun _ _ _ _ _ _=>False
abbrev E0:XK:=fun _ _ _=>False
theorem CK {X:Cx}:Ex CX0 X E0:=fun _ _ _ _ _ _ _ h=>h.elim
structure Fun (K:PySem.W.Frag) (x qual:Str) (st:Stmt) (f:Addr) (fd:FuncData):Prop where
 ex:∃(oc:Value) (od:Option Addr) (kV doc pm:Value) (an:Option Addr) (cdv ct:Value) (osl:Array (Option Value)),
  fd=PySem.W.fnOf x qual (Ca st) (AM st) (Ai st) .none kV doc pm an cdv ct∧K.lookup f=some ⟨oc,od,.func fd,osl⟩∧PySem.W.codeIn K cdv qual=true
 kp:PySem.W.keepIn K (.ref f)=true
section
variable {P:Program} {w:World} {K:PySem.W.Frag} {mg:Str→Option Value} {base:Heap}
theorem Fun.ok {x qual:Str} {st:Stmt} {f:Addr} {fd:FuncData} {N ps:List Str} {k:Nat} {sp:Sp} (F:Fun K x qual st f fd) (S:FnScope N ps (Ai st)) (len:∀vs H Q E,sp vs H Q E→vs.length=ps.length)
  (hbody:∀(cdv:Value) (A:Around) (outer:List Env) (s:Shared) (H:Hp) (vs:List V) (Q:VK) (E:XK),Room k (A.deeper (envOfC qual (Ai st) s.heap.objs.size f cdv))→sp vs H Q E→
   ∃t,PSs (cxOf CX0 P w K mg base N qual (Ai st) f cdv A outer s H E).nox (AM st) t∧t {nx:=fun _ H'=>Q .non H',rt:=Q} (start N vs) H):FnOk P w K mg base CX0 (k + 1) f fd ps sp:=by
 obtain ⟨oc,od,kV,doc,pm,an,cdv,ct,osl,rfl,lk,hcd⟩:=F.ex
 refine P_ lk hcd S len fun A outer s H vs Q E hr hsp=>?_
 obtain ⟨t,h,q⟩:=hbody cdv A outer s H vs Q E hr hsp
 exact ⟨t,h.nox,q⟩
theorem Fun.binds {x qual:Str} {st:Stmt} {f:Addr} {fd:FuncData} {ps:List Str} (F:Fun K x qual st f fd)
  (h:∀(kV doc pm:Value) (an:Option Addr) (cdv ct:Value) (us:List Value),us.length=ps.length→bindArgs (PySem.W.fnOf x qual (Ca st) (AM st) (Ai st) .none kV doc pm an cdv ct) ⟨us,[]⟩=pure (ps.zip us)):Binds K fd ps []:=by
 obtain ⟨oc,od,kV,doc,pm,an,cdv,ct,osl,rfl,lk,hcd⟩:=F.ex
 exact .all (h kV doc pm an cdv ct)
theorem K4 {x qual:Str} {st:Stmt} {f:Addr} {oc:Value} {od an:Option Addr} {osl:Array (Option Value)} {kV doc pm cdv ct:Value} (l:K.lookup f=some ⟨oc,od,.func (PySem.W.fnOf x qual (Ca st) (AM st) (Ai st) .none kV doc pm an cdv ct),osl⟩)
  (c:PySem.W.codeIn K cdv qual=true) (k:PySem.W.keepIn K (.ref f)=true):Fun K x qual st f (PySem.W.fnOf x qual (Ca st) (AM st) (Ai st) .none kV doc pm an cdv ct):=⟨⟨oc,od,kV,doc,pm,an,cdv,ct,osl,rfl,l,c⟩,k⟩
end
section
variable {X:Cx}
theorem pv (i:Nat) {x:Str} {pos:Pos} (hN:X.N[i]?=some x:=by rfl) (hv:Vis X.env.scope x:=by first | exact Or.inl rfl | exact Or.inr (Or.inl rfl) | exact Or.inr (Or.inr rfl)) (hd:(x==("__debug__":Str))=false:=by decide)
  (hcd:(x==("__classdict__":Str))=false:=by decide):PE X (.Name x pos) (tVar i):=Qt hN hv hd hcd
end
theorem iteF {A B:Prop} (h:B):if false=true then A else B:=by
 rw [if_neg Bool.false_ne_true]
 exact h
theorem iteT {A B:Prop} (h:A):if true=true then A else B:=by
 rw [if_pos rfl]
 exact h
def Same (H H':Hp):Prop:=∀b o,H b=some o→H' b=some o
theorem Same.refl (H:Hp):Same H H:=fun _ _ h=>h
theorem Same.trans {H H1 H2:Hp} (a:Same H H1) (b:Same H1 H2):Same H H2:=fun c o h=>b c o (a c o h)
theorem Same.free {H H':Hp} (e:Same H H') {l:Addr} (h:H' l=Option.none):H l=Option.none:=by
 cases q:H l with
 | none=>rfl
 | some o=>
   rw [e l o q] at h
   cases h
theorem Same.seq {K:PySem.W.Frag} {H H':Hp} {a:Addr} {xs:List V} (e:Same H H') (h:SqL K H a xs):SqL K H' a xs:=by
 rcases h with (h | ⟨o,h⟩) | h
 ·exact .inl (.inl (e _ _ h))
 ·exact .inl (.inr ⟨o,e _ _ h⟩)
 ·exact .inr h
def OwnG (k:Nat) (g:TG):Prop:=∀v σ H (Q Q':St→Hp→Prop),
 (∀σ2 H2,σ2.length=σ.length→(∀j,k≤j→σ2[j]?=σ[j]?)→Q σ2 H2→Q' σ2 H2)→g v σ H Q→g v σ H Q'
def KS (k:Nat) (t:TGs):Prop:=∀vs σ H (Q Q':St→Hp→Prop),
 (∀σ2 H2,σ2.length=σ.length→(∀j,k≤j→σ2[j]?=σ[j]?)→Q σ2 H2→Q' σ2 H2)→t vs σ H Q→t vs σ H Q'
theorem AI {k i:Nat} (h:i < k):OwnG k (C2 i):=by
 intro v σ H Q Q' m q
 refine m _ _ (by simp) (fun j hj=>?_) q
 rw [List.getElem?_set_ne (by omega)]
theorem Gg {k:Nat}:KS k gNil:=fun vs σ H Q Q' m ⟨e,q⟩=>⟨e,m _ _ rfl (fun _ _=>rfl) q⟩
theorem Ce {k:Nat} {t:TG} {u:TGs} (ht:OwnG k t) (hu:KS k u):KS k (J9 t u):=by
 rintro vs σ H Q Q' m ⟨v,r,e,q⟩
 refine ⟨v,r,e,ht v σ H _ _ (fun σ2 H2 l2 k2 q2=>?_) q⟩
 exact hu r σ2 H2 _ _ (fun σ3 H3 l3 k3 q3=>m σ3 H3 (l3.trans l2) (fun j hj=>(k3 j hj).trans (k2 j hj)) q3) q2
theorem Gb {k n:Nat} {K:PySem.W.Frag} {t:TGs} (ht:KS k t):OwnG k (gTup K n t):=by
 rintro v σ H Q Q' m ⟨a,xs,e,hs,hl,q⟩
 exact ⟨a,xs,e,hs,hl,ht xs σ H Q Q' m q⟩
def AH (X:Cx) (scope:Scope) (cl:List (Str×Addr)) (C:Addr) (N:List Str) (s:Shared) (H:Hp) (ex:List Addr):Cx:=
 {X with N:=N,s₀:=s,H₀:=H,env:=compEnvC scope cl C X.env,outer:=X.stack,ex:=ex,fn:=fun _=>false,pn:=[],xe:=fun _ _=>False}
def Cj (osc:Scope) (oN:List Str) (k:Nat) (ix:List Nat) (N:List Str) (scope:Scope):Prop:=
 scope.kind=.function∧(∀y∈scope.names,y.2≠.cell)∧(∀y∈scope.names,y.2=.local→scope.names.lookup y.1=some .local)∧
 (∀y∈scope.names,y.2=.free→osc.names.lookup y.1=some .cell∨osc.names.lookup y.1=some .free)∧
 N.length=k + ix.length∧(∀p∈(N.drop k).zip ix,oN[p.2]?=some p.1∧scope.names.lookup p.1=some .free)
instance {osc:Scope} {oN:List Str} {k:Nat} {ix:List Nat} {N:List Str} {scope:Scope}:Decidable (Cj osc oN k ix N scope):=by
 unfold Cj
 exact inferInstance
def outS (ix:List Nat) (σ:St):St:=ix.map fun i=>(σ[i]?).getD none
theorem Ee (env:Env):∀(ns:List (Str×NameKind)) (acc:List (Str×Addr)),(∀y∈ns,y.2=.free→∃c,env.cells.lookup y.1=some c)→
  ∃cl,(forIn (m:=Sem) ns acc fun (y:Str×NameKind) r=>match y with
   | (n,k)=>if (k==.free)=true then (do let c ←cellOf env n;pure (ForInStep.yield ((n,c)::r))) else pure (ForInStep.yield r))=pure cl∧
   (∀n c,cl.lookup n=some c→acc.lookup n=some c∨env.cells.lookup n=some c)∧∀n,((acc.lookup n).isSome=true∨(n,NameKind.free)∈ns)→(cl.lookup n).isSome=true
 | [],acc,_=>⟨acc,rfl,fun _ _ h=>.inl h,fun n h=>h.elim id fun z=>by cases z⟩
 | (n,k)::ns,acc,h=>by
   by_cases hk:k=.free
   ·subst hk
    obtain ⟨c,hc⟩:=h (n,.free) List.mem_cons_self rfl
    obtain ⟨cl,e,p,q⟩:=Ee env ns ((n,c)::acc) fun y hy=>h y (List.mem_cons_of_mem _ hy)
    refine ⟨cl,?_,fun m d hm=>?_,fun m hm=>?_⟩
    ·rw [List.forIn_cons]
     simp only [cellOf,hc,beq_self_eq_true,if_true,pure_bind]
     exact e
    ·rcases p m d hm with z | z
     ·rw [List.lookup_cons] at z
      split at z
      ·rename_i hmn
       cases z
       have:m=n:=by simpa using hmn
       subst this
       exact .inr hc
      ·exact .inl z
     ·exact .inr z
    ·refine q m ?_
     rw [List.lookup_cons]
     split
     ·exact .inl rfl
     ·rename_i hmn
      rcases hm with z | z
      ·exact .inl z
      ·rcases List.mem_cons.mp z with z | z
       ·cases z
        simp at hmn
       ·exact .inr z
   ·obtain ⟨cl,e,p,q⟩:=Ee env ns acc fun y hy=>h y (List.mem_cons_of_mem _ hy)
    have hb:(k==NameKind.free)=false:=by simpa using hk
    refine ⟨cl,?_,p,fun m hm=>q m (hm.imp id fun z=>?_)⟩
    ·rw [List.forIn_cons]
     simp only [hb,Bool.false_eq_true,if_false,pure_bind]
     exact e
    ·rcases List.mem_cons.mp z with z | z
     ·cases z
      exact absurd rfl hk
     ·exact z
theorem DY (env:Env) (scope:Scope) (h:∀y∈scope.names,y.2=.free→∃c,env.cells.lookup y.1=some c):
  ∃cl,closureFor scope env=pure cl∧(∀n c,cl.lookup n=some c→env.cells.lookup n=some c)∧∀n,(n,NameKind.free)∈scope.names→∃c,cl.lookup n=some c:=by
 obtain ⟨cl,e,p,q⟩:=Ee env scope.names [] h
 refine ⟨cl,?_,fun n c z=>(p n c z).elim (fun z=>by cases z) id,fun n hn=>Option.isSome_iff_exists.mp (q n (.inr hn))⟩
 unfold closureFor
 simpa using e
theorem Mi {prog:Program} {w:World} {A:Around} {R:Result→Shared→Prop} {s:Shared} {elt target iter:Expr} {ifs:List Expr} {scope:Scope} {pos:Pos} {it acc:Value} {env:Env}
  (J:Nat→Shared→Prop)
  (turn:∀n s,J n s→wpAny (model prog w) A (pyNext it) (fun r s1=>match r with
   | none=>R (.ok .next) s1
   | some v=>wpAny (model prog w) A (letOwnedTupleGo target it v) (fun _ s2=>wpAny (model prog w) A (assign target env v) (fun _ s3=>
     wpAny (model prog w) A (forIn ifs true fun c r=>if r=true then do let ok ←isTrue c env (eval c env);pure (ForInStep.yield ok) else pure (ForInStep.yield r)) (fun ok s4=>
      if ok=true then wpAny (model prog w) A (eval elt env) (fun x s5=>
       wpAny (model prog w) A (call (.builtin "list.append") [acc,x]) (fun _ s6=>∃m,m < n∧J m s6) (fun _ _=>False) s5) (fun _ _=>False) s4
      else ∃m,m < n∧J m s4) (fun _ _=>False) s3) (fun _ _=>False) s2) (fun _ _=>False) s1) (fun _ _=>False) s)
  (n:Nat) (h:J n s):codeAny (model prog w) A (.compLoop (.ListComp elt [⟨target,iter,ifs,0⟩] scope pos) 0 it acc env) R s:=by
 refine codeAny_loop rfl J (fun n s hJ=>?_) n h
 show wpAny (model prog w) A ((compTurn (.ListComp elt [⟨target,iter,ifs,0⟩] scope pos) 0 it acc env).onRaise (fun y=>do noteFrame y env;theTreesLotGoes y)) _ _ s
 refine wpAny_noted ?_
 rw [compTurn_list]
 refine wpAny_bind (wpAny_standAt (wpAny_bind (wpAny_mono (turn n s hJ) (fun r s1 h1=>?_) fun _ _ z=>z.elim)))
 cases r with
 | none=>exact wpAny_pure h1
 | some v=>
   refine wpAny_bind (wpAny_mono h1 (fun _ s2 h2=>?_) fun _ _ z=>z.elim)
   refine wpAny_bind (wpAny_mono h2 (fun _ s3 h3=>?_) fun _ _ z=>z.elim)
   refine wpAny_bind (wpAny_mono h3 (fun ok s4 h4=>?_) fun _ _ z=>z.elim)
   cases ok with
   | false=>exact wpAny_pure ⟨rfl,h4⟩
   | true=>
     refine wpAny_bind (wpAny_bind (wpAny_mono h4 (fun x s5 h5=>?_) fun _ _ z=>z.elim))
     exact wpAny_bind (wpAny_mono h5 (fun _ s6 h6=>wpAny_pure (wpAny_pure ⟨rfl,h6⟩)) fun _ _ z=>z.elim)
def PF (X:Cx) (ifs:List Expr) (t:TT):Prop:=
 ∀(pins:List (Addr×Obj)) (s:Shared) (σ:St) (H:Hp) (Q:Bool→Hp→Prop),Inv X pins σ H s→t σ H Q→
  wpAny (model X.prog X.w) X.A (forIn ifs true fun c r=>if r=true then do let ok ←isTrue c X.env (eval c X.env);pure (ForInStep.yield ok) else pure (ForInStep.yield r)) (TP X pins σ Q) X.xe s
def tYes:TT:=fun _ H Q=>Q true H
theorem R4 {X:Cx}:PF X [] tYes:=fun _ _ _ H _ I h=>wpAny_tests_nil ⟨H,I,h⟩
theorem QX {X:Cx} {c:Expr} {t:TT} (hc:PT X c t):PF X [c] t:=fun pins s σ H Q I h=>wpAny_tests_one (hc pins s σ H Q I h)
section
variable {X:Cx} {pins:List (Addr×Obj)} {σ:St} {H:Hp} {s:Shared}
theorem J8 {scope:Scope} {cl:List (Str×Addr)} {C:Addr} {N:List Str} {fp:List Addr} {k:Nat} {ix:List Nat} (I:Inv X pins σ H s) (hc:Cj X.env.scope X.N k ix N scope)
  (hcl:∀n c,cl.lookup n=some c→X.env.cells.lookup n=some c) (hcl2:∀n,(n,NameKind.free)∈scope.names→∃c,cl.lookup n=some c)
  (hC:s.heap.objs.size≤C) (hf:∀b∈fp,FpOk X pins H b) (hlt:∀b∈fp,b < s.heap.objs.size):(AH X scope cl C N s H fp).Ok:=by
 obtain ⟨kind,nocell,names,free,len,own⟩:=hc
 have lk:∀(l:List (Str×NameKind)) (x:Str) (kd:NameKind),l.lookup x=some kd→(x,kd)∈l:=fun l x kd e=>PySem.mem_of_lookup e
 refine ⟨I.ok.mod,kind,I.ok.glob,I.ok.blt,hC,fun x y c h1 h2=>I.ok.inj x y c (hcl x c h1) (hcl y c h2),fun x hx=>?_,fun x c z=>(by cases z),I.ok.hd,I.ok.frames,.inl rfl,fun b hb=>⟨Nat.ne_of_lt (Nat.lt_of_lt_of_le (hlt b hb) hC),fun x c e=>(hf b hb).2.2.2.2.1 x c (hcl x c e)⟩,
  I.bs,Nat.le_trans I.ok.bsz I.sz,fun b o e z=>?_,fun b hb z=>?_,I.stack,I.stkFree⟩
 ·
  have hx':(relabel scope X.env).names.lookup x=some .cell∨(relabel scope X.env).names.lookup x=some .free:=hx
  have key:(x,NameKind.free)∈scope.names:=by
   have:∃kd,(x,kd)∈(relabel scope X.env).names∧(kd=.cell∨kd=.free):=by
    rcases hx' with z | z
    ·exact ⟨_,lk _ _ _ z,.inl rfl⟩
    ·exact ⟨_,lk _ _ _ z,.inr rfl⟩
   obtain ⟨kd,hm,hkd⟩:=this
   unfold relabel at hm
   obtain ⟨⟨n,k0⟩,h1,h2⟩:=List.mem_map.mp hm
   dsimp only at h2
   by_cases hc:(k0==NameKind.free && X.env.scope.kind==.function && X.env.kindOf n==some .cell)=true
   ·rw [if_pos hc] at h2
    cases h2
    have:k0=.free:=by
     simp only [Bool.and_eq_true] at hc
     simpa using hc.1.1
    rw [←this]
    exact h1
   ·rw [if_neg hc] at h2
    cases h2
    rcases hkd with z | z
    ·exact absurd z (nocell _ h1)
    ·rw [←z]
     exact h1
  exact hcl2 x key
 ·obtain ⟨_,_,_,hx,_⟩:=hf b z
  rcases hx with hx | hx
  ·exact I.ok.noex b o e hx
  ·exact absurd (Nat.lt_of_lt_of_le (Heap.lt_size (I.ok.bs b o e).1) hx) (Nat.lt_irrefl _)
 ·rcases List.mem_cons.mp (I.stkSub b z) with e | e
  ·exact (hf b hb).2.1 e
  ·exact (hf b hb).2.2.1 e
theorem MG {scope:Scope} {cl:List (Str×Addr)} {C:Addr} {h':Heap} {m m':Str→Option Value} {x:Str} {u:Value} (hl:scope.names.lookup x=some .free)
  (ho:X.env.scope.names.lookup x=some .cell∨X.env.scope.names.lookup x=some .free) (hcl:∀n c,cl.lookup n=some c→X.env.cells.lookup n=some c) (hcl2:∃c,cl.lookup x=some c)
  (l:Look X.env s.heap m x u) (hk:∀b o,s.heap.get? b=some o→h'.get? b=some o):Look (compEnvC scope cl C X.env) h' m' x u:=by
 rcases l with ⟨hk1,_⟩ | ⟨hk1,c,hc,o,e1,e2⟩
 ·have hk1':X.env.scope.names.lookup x=some .local:=hk1
  rcases ho with z | z <;> rw [hk1'] at z <;> cases z
 ·obtain ⟨c',hc'⟩:=hcl2
  have:=hcl x c' hc'
  rw [hc] at this
  cases this
  refine .inr ⟨?_,c,hc',o,hk _ _ e1,e2⟩
  show (relabel scope X.env).names.lookup x=some .cell∨(relabel scope X.env).names.lookup x=some .free
  unfold relabel
  dsimp only
  revert hl
  generalize scope.names=ns
  intro hl
  induction ns with
  | nil=>cases hl
  | cons y r ih=>
    obtain ⟨n,k0⟩:=y
    rw [List.map_cons]
    dsimp only
    rw [List.lookup_cons] at hl
    by_cases hxn:(x==n)=true
    ·rw [hxn] at hl
     cases hl
     have exn:x=n:=by simpa using hxn
     subst exn
     by_cases hc:(NameKind.free==NameKind.free && X.env.scope.kind==.function && X.env.kindOf x==some .cell)=true
     ·rw [if_pos hc,List.lookup_cons,beq_self_eq_true]
      exact .inl rfl
     ·rw [if_neg hc,List.lookup_cons,beq_self_eq_true]
      exact .inr rfl
    ·have hxn':(x==n)=false:=by simpa using hxn
     rw [hxn'] at hl
     have hnn:∀(kk:NameKind),(List.lookup x ((n,kk)::List.map (fun (y:Str×NameKind)=>if (y.2==NameKind.free && X.env.scope.kind==.function && X.env.kindOf y.1==some .cell)=true then (y.1,NameKind.cell) else (y.1,y.2)) r))=List.lookup x (List.map (fun (y:Str×NameKind)=>if (y.2==NameKind.free && X.env.scope.kind==.function && X.env.kindOf y.1==some .cell)=true then (y.1,NameKind.cell) else (y.1,y.2)) r):=fun kk=>by
      rw [List.lookup_cons,hxn']
     by_cases hc:(k0==NameKind.free && X.env.scope.kind==.function && X.env.kindOf n==some .cell)=true
     ·rw [if_pos hc]
      exact (hnn .cell).symm ▸ ih hl
     ·rw [if_neg hc]
      exact (hnn k0).symm ▸ ih hl
theorem NS {scope:Scope} {cl:List (Str×Addr)} {C:Addr} {N:List Str} {fp:List Addr} {k:Nat} {ix:List Nat} {h':Heap} {m':Str→Option Value} {t':Nat} (I:Inv X pins σ H s) (hc:Cj X.env.scope X.N k ix N scope)
  (hcl:∀n c,cl.lookup n=some c→X.env.cells.lookup n=some c) (hcl2:∀n,(n,NameKind.free)∈scope.names→∃c,cl.lookup n=some c)
  (hC:s.heap.objs.size≤C) (hf:∀b∈fp,FpOk X pins H b) (hlt:∀b∈fp,b < s.heap.objs.size) (hk:∀b o,s.heap.get? b=some o→h'.get? b=some o) (hn:h'.Ns C m'):
  Inv (AH X scope cl C N s H fp) [] (List.replicate k none++outS ix σ) H {s with heap:=h',toks:=t'}:=by
 have ok:=J8 I hc hcl hcl2 hC hf hlt
 obtain ⟨kind,nocell,names,free,len,own⟩:=hc
 have mem:∀{x:Str},scope.names.lookup x=some .free→(x,NameKind.free)∈scope.names:=fun e=>PySem.mem_of_lookup e
 refine ⟨ok,rfl,I.bare,Un.kept hk,⟨m',hn,fun i x v h1 h2 _=>?_⟩,fun x c e=>?_,I.hok.fresh hC,fun x c e=>I.freeC x c (hcl x c e),fun p hp=>(by cases hp),I.hok.kept hk,?_⟩
 ·have h1:N[i]?=some x:=h1
  have hi:k≤i:=by
   rcases Nat.lt_or_ge i k with z | z
   ·rw [List.getElem?_append_left (by simpa using z),List.getElem?_replicate,if_pos z] at h2
    cases h2
   ·exact z
  rw [List.getElem?_append_right (by simpa using hi),List.length_replicate] at h2
  unfold outS at h2
  rw [List.getElem?_map] at h2
  cases e:ix[i - k]? with
  | none=>rw [e] at h2;cases h2
  | some j=>
    rw [e] at h2
    have h2:(σ[j]?).getD none=some v:=Option.some.inj h2
    have hz:(x,j)∈(N.drop k).zip ix:=by
     refine List.mem_of_getElem? (i:=i - k) ?_
     rw [List.getElem?_zip_eq_some,List.getElem?_drop]
     exact ⟨by rw [Nat.add_sub_cancel' hi];exact h1,e⟩
    obtain ⟨o1,o2⟩:=own _ hz
    have hs:σ[j]?=some (some v):=by
     cases q:σ[j]? with
     | none=>rw [q] at h2;cases h2
     | some z=>rw [q] at h2;have h2:z=some v:=h2;rw [h2]
    obtain ⟨m,hm,hl⟩:=I.loc
    have hfr:=free _ (mem o2) rfl
    have hv:Vis X.env.scope x:=hfr.elim (fun z=>.inr (.inl z)) fun z=>.inr (.inr z)
    obtain ⟨u,r,l⟩:=hl j x v o1 hs hv
    exact ⟨u,r,MG o2 hfr hcl (hcl2 _ (mem o2)) l hk⟩
 ·obtain ⟨v,o,e1,e2⟩:=I.cell x c (hcl x c e)
  exact ⟨v,o,hk _ _ e1,e2⟩
 ·show (List.replicate k none++outS ix σ).length=N.length
  rw [List.length_append,List.length_replicate,len]
  unfold outS
  rw [List.length_map]
structure BlockEnd (X:Cx) (scope:Scope) (cl:List (Str×Addr)) (N:List Str) (s:Shared) (H:Hp) (fp:List Addr) (D C:Addr) (ys:List V) (H':Hp) (s':Shared):Prop where
 inv:∃σ',Inv (AH X scope cl C N s H fp) [] σ' H' s'
 dn:H' D=none
 lst:∃(its:List Value) (n:Nat),Vals ys its∧s'.heap.get? D=some {cls:=.type "list",data:=.seq its.toArray n}
 hD:s.heap.objs.size≤D
 hC:s.heap.objs.size≤C
 ne:D≠C
 sz:ys.length≤sizeLine
theorem BlockEnd.out {scope:Scope} {cl:List (Str×Addr)} {N:List Str} {fp:List Addr} {D C:Addr} {ys:List V} {H':Hp} {s':Shared} (I:Inv X pins σ H s) (hf:∀b∈fp,FpOk X pins H b)
  (B:BlockEnd X scope cl N s H fp D C ys H' s'):Inv X pins σ (upd H' D (.lst ys)) s'∧(∃m,s'.heap.Ns C m)∧upd H' D (.lst ys) C=none:=by
 obtain ⟨σ',J⟩:=B.inv
 obtain ⟨its,n,rv,e⟩:=B.lst
 have eD:∀b u,H' b=some u→b≠D:=fun b u z=>A4 z B.dn
 refine ⟨?_,let ⟨m,hm,_⟩:=J.loc;⟨m,hm⟩,by rw [Au (Ne.symm B.ne)];exact J.free⟩
 have U:Un (frs X.stack) fp H H' s.heap s'.heap:=J.base
 refine I.call' (ch:=fp) J.os ⟨U.keep,U.slot,fun b o q z hb=>?_,U.there,fun b xs q=>?_,fun b o xs q=>?_,fun b ps q=>?_⟩ ?_ J.bare fun b hb=>?_
 ·rw [Au (Nat.ne_of_lt (Nat.lt_of_lt_of_le (Heap.lt_size q) B.hD))]
  exact U.free b o q z hb
 ·have z:=U.tups b xs q
  rw [Au (eD _ _ z)];exact z
 ·have z:=U.frzs b o xs q
  rw [Au (eD _ _ z)];exact z
 ·obtain ⟨m,z⟩:=U.tbls b ps q
  exact ⟨m,by rw [Au (eD _ _ z)];exact z⟩
 ·intro b o q
  by_cases hb:b=D
  ·subst hb
   rw [Aw] at q
   cases q
   exact ⟨B.sz,its,n,rv,e⟩
  ·rw [Au hb] at q
   refine (J.hok b o q).stay (fun _ _ _ z=>z) (fun c z=>?_) fun c xs z=>?_
   ·rw [Au (eD _ _ z)];exact z
   ·rw [Au (eD _ _ z)];exact z
 ·obtain ⟨_,h1,h2,h3,h4,h5⟩:=hf b hb
  exact ⟨h3,h1,h4,h5⟩
end
def Sl (k:Nat) (ix:List Nat) (g:TG) (tc:TT) (te:TE) (σ:St) (x:V) (H:Hp) (Qe:V→Hp→Prop) (Qn:Hp→Prop):Prop:=
 g x (List.replicate k none++outS ix σ) H fun σ2 H2=>tc σ2 H2 fun b H3=>if b=true then te σ2 H3 Qe else Qn H3
def LE (k:Nat) (ix:List Nat) (g:TG) (tc:TT) (te:TE) (σ:St) (J:It) (H1:Hp) (Q:List V→Hp→Prop):Prop:=
 ∃W:Nat→Nat→List V→Hp→Prop,(∃m,W 0 m [] H1)∧∀i m ys H,W i m ys H→ys.length≤sizeLine∧
  ((J.stop i H∧Q ys H)∨(J.go i H∧∀x H',J.yld i H x H'→Sl k ix g tc te σ x H' (fun v H4=>∃m',m' < m∧W (i + 1) m' (ys++[v]) H4) fun H3=>∃m',m' < m∧W (i + 1) m' ys H3))
section
variable {X:Cx} {pins:List (Addr×Obj)} {σ:St} {H:Hp} {s:Shared}
theorem GW {elt target iter:Expr} {ifs:List Expr} {scope:Scope} {cl:List (Str×Addr)} {pos:Pos} {N:List Str} {fp:List Addr} {k:Nat} {ix:List Nat} {it:Addr} {J:It} {tn:Nat→Heap→Prop} {g:TG} {tc:TT} {te:TE}
  {Q:List V→Hp→Prop} {RR:Value→Addr→Result→Shared→Prop} {E:Value→Shared→Prop} (hcalm:X.calm=true) (I:Inv X pins σ H s) (hc:Cj X.env.scope X.N k ix N scope) (og:OwnG k g)
  (hcl:∀n c,cl.lookup n=some c→X.env.cells.lookup n=some c) (hcl2:∀n,(n,NameKind.free)∈scope.names→∃c,cl.lookup n=some c)
  (T:Turn X.prog X.w X.K target J fp it tn) (t0:tn 0 s.heap) (hf:∀b∈fp,FpOk X pins H b)
  (hg:∀C,PG (AH X scope cl C N s H fp) target g) (ht:∀C,PF (AH X scope cl C N s H fp) ifs tc) (he:∀C,PE (AH X scope cl C N s H fp) elt te)
  (hw:LE k ix g tc te σ J H Q)
  (fin:∀D C ys H' s',BlockEnd X scope cl N s H fp D C ys H' s'→Q ys H'→RR (.ref D) C (.ok .next) s'):
  wpAny (model X.prog X.w) X.A (newList []) (fun acc s3=>wpAny (model X.prog X.w) X.A (newFunctionEnv scope X.env.globals cl [] X.env.qual none .none (some X.env)) (fun cenv s4=>
   codeAny (model X.prog X.w) X.A (.compStart (.ListComp elt [⟨target,iter,ifs,0⟩] scope pos) 0 (.ref it) acc {cenv with scope:=relabel scope X.env}) (RR acc cenv.locals) s4) E s3) E s:=by
 have hlt:∀b∈fp,b < s.heap.objs.size:=fun b hb=>by
  obtain ⟨o,e,_⟩:=T.obj 0 _ t0 b hb
  exact Heap.lt_size e
 refine wpAny_newObj_type (wpAny_newFunctionEnv hc.2.1 (by intro y hy;simp at hy) (fun h1 hns hsb=>?_) hc.1)
 dsimp only at hns hsb ⊢
 generalize eH:s.heap.push {cls:=.type "list",dict:=none,data:=.seq ([]:List Value).toArray}=Hx at hns hsb ⊢
 have hC:Hx.objs.size=s.heap.objs.size + 1:=by rw [←eH,Heap.size_push]
 have hne:s.heap.objs.size≠Hx.objs.size:=by rw [hC];exact Nat.ne_of_lt (Nat.lt_succ_self _)
 have hle:s.heap.objs.size≤Hx.objs.size:=by rw [hC];exact Nat.le_succ _
 have old:∀b o,s.heap.get? b=some o→h1.get? b=some o:=fun b o e=>
  hsb.extBut b o (Nat.ne_of_lt (Nat.lt_of_lt_of_le (Heap.lt_size e) hle)) (Heap.get?_push_of_some _ (eH ▸ Heap.get?_push_of_some _ e))
 have hacc:h1.PlainList s.heap.objs.size #[]:=⟨_,hsb.extBut _ _ hne (Heap.get?_push_of_some _ (eH ▸ Heap.get?_push_size _ rfl))⟩
 have ci:=fun (t':Nat)=>NS (C:=Hx.objs.size) (t':=t') I hc hcl hcl2 hle hf hlt old hns
 have cfp:∀{H':Hp},(∀b∈fp,H' b=none)→∀b∈fp,FpOk (AH X scope cl Hx.objs.size N s H fp) [] H' b:=fun hn b hb=>by
  obtain ⟨_,z1,z2,z3,z4,z5⟩:=hf b hb
  refine ⟨hn b hb,Nat.ne_of_lt (Nat.lt_of_lt_of_le (hlt b hb) hle),fun z=>?_,.inl hb,fun x c e=>z4 x c (hcl x c e),fun p hp=>by cases hp⟩
  rcases List.mem_cons.mp (I.stkSub b z) with e | e
  ·exact z1 e
  ·exact z2 e
 have dfs:s.heap.objs.size∉frs X.stack:=fun z=>(List.mem_cons.mp (I.stkSub _ z)).elim (fun e=>absurd I.lt (by rw [e];exact Nat.lt_irrefl _)) fun e=>I.nofs (Nat.le_refl _) e
 have cne:∀x c,X.env.cells.lookup x=some c→c≠s.heap.objs.size:=fun x c e z=>by
  obtain ⟨_,o,q,_⟩:=I.cell x c e
  exact absurd (Heap.lt_size q) (by rw [z];exact Nat.lt_irrefl _)
 obtain ⟨W,⟨m0,w0⟩,turn⟩:=hw
 have loop:∀s3:Shared,s3={s with heap:=h1,toks:=s.toks + ([]:List (Str×Value)).length}→
   codeAny (model X.prog X.w) X.A (.compLoop (.ListComp elt [⟨target,iter,ifs,0⟩] scope pos) 0 (.ref it) (.ref s.heap.objs.size) (compEnvC scope cl Hx.objs.size X.env)) (RR (.ref s.heap.objs.size) Hx.objs.size) s3:=by
  rintro s3 rfl
  refine Mi (fun n s'=>∃i ys H' its,Inv (AH X scope cl Hx.objs.size N s H fp) [] (List.replicate k none++outS ix σ) H' s'∧tn i s'.heap∧(∀b∈fp,H' b=none)∧s'.heap.PlainList s.heap.objs.size (List.toArray its)∧
   H' s.heap.objs.size=none∧Vals ys its∧W i n ys H') ?_ m0 ⟨0,[],H,[],ci _,T.keep _ _ _ t0 fun b _ o e=>old b o e,fun b hb=>(hf b hb).1,hacc,I.hok.fresh (Nat.le_refl _),.nil,w0⟩
  rintro n s4 ⟨i,ys,H4,its,I4,t4,f4,p4,d4,v4,w4⟩
  obtain ⟨hsz,turn4⟩:=turn i n ys H4 w4
  rcases turn4 with ⟨st,q⟩ | ⟨go,step⟩
  ·
   obtain ⟨pn,pe⟩:=p4
   have I4':Inv (AH X scope cl Hx.objs.size N s H fp) [(s.heap.objs.size,{cls:=.type "list",data:=.seq its.toArray pn})] (List.replicate k none++outS ix σ) H4 s4:=I4.pins_of fun p hp=>by
    have ep:=List.mem_singleton.mp hp
    subst ep
    exact ⟨pe,d4,hne,dfs,fun v z=>(by cases z)⟩
   have fp4:∀b∈fp,FpOk (AH X scope cl Hx.objs.size N s H fp) [(s.heap.objs.size,{cls:=.type "list",data:=.seq its.toArray pn})] H4 b:=fun b hb=>by
    obtain ⟨z0,z1,z2,z3,z4,_⟩:=cfp f4 b hb
    refine ⟨z0,z1,z2,z3,z4,fun p hp e=>?_⟩
    have ep:=List.mem_singleton.mp hp
    subst ep
    exact absurd (hlt b hb) (by rw [←e];exact Nat.lt_irrefl _)
   refine thn (T.done (AH X scope cl Hx.objs.size N s H fp) rfl rfl rfl hcalm i _ s4 _ H4 _ I4' fp4 t4 st) fun r s5 ⟨hr,I5⟩=>?_
   subst hr
   obtain ⟨e5,n5,_⟩:=I5.pin (s.heap.objs.size,_) (List.mem_singleton.mpr rfl)
   exact fin s.heap.objs.size Hx.objs.size ys H4 s5 ⟨⟨_,I5.pins_of (pins':=[]) fun p hp=>(by cases hp)⟩,n5,⟨its,pn,v4,e5⟩,Nat.le_refl _,hle,hne,hsz⟩ q
  ·obtain ⟨pn,pe⟩:=p4
   have I4':Inv (AH X scope cl Hx.objs.size N s H fp) [(s.heap.objs.size,{cls:=.type "list",data:=.seq its.toArray pn})] (List.replicate k none++outS ix σ) H4 s4:=I4.pins_of fun p hp=>by
    have ep:=List.mem_singleton.mp hp
    subst ep
    exact ⟨pe,d4,hne,dfs,fun v z=>(by cases z)⟩
   have fpx:∀{H':Hp},(∀b∈fp,H' b=none)→∀b∈fp,FpOk (AH X scope cl Hx.objs.size N s H fp) [(s.heap.objs.size,{cls:=.type "list",data:=.seq its.toArray pn})] H' b:=fun hn b hb=>by
    obtain ⟨z0,z1,z2,z3,z4,_⟩:=cfp hn b hb
    refine ⟨z0,z1,z2,z3,z4,fun p hp e=>?_⟩
    have ep:=List.mem_singleton.mp hp
    subst ep
    exact absurd (hlt b hb) (by rw [←e];exact Nat.lt_irrefl _)
   refine thn (T.item (AH X scope cl Hx.objs.size N s H fp) rfl rfl rfl hcalm i _ s4 _ H4 (fun _ _=>False) I4' (fpx f4) t4 go) fun r s5 ⟨u,hr,h5⟩=>?_
   subst hr
   refine thn h5 fun _ s6 ⟨x,H6,I6,r6,y6,t6,f6⟩=>?_
   have I6':=I6.pinned (fpx f6) (T.obj _ _ t6)
   have stp:=og x _ H6 _ (fun σ2 H2=>(σ2.length=(List.replicate k none++outS ix σ).length∧∀j,k≤j→σ2[j]?=(List.replicate k none++outS ix σ)[j]?)∧
    tc σ2 H2 fun b H3=>if b=true then te σ2 H3 (fun v H4=>∃m',m' < n∧W (i + 1) m' (ys++[v]) H4) else ∃m',m' < n∧W (i + 1) m' ys H3) (fun σ2 H2 a b c=>⟨⟨a,b⟩,c⟩) (step x H6 y6)
   refine thn (hg _ _ s6 _ H6 x u _ I6' r6 stp) fun _ s7 ⟨σ7,H7,I7,⟨l7,k7⟩,q7⟩=>?_
   have weak:∀{H':Hp} {s':Shared} {ps:List (Addr×Obj)},Inv (AH X scope cl Hx.objs.size N s H fp) ps σ7 H' s'→Inv (AH X scope cl Hx.objs.size N s H fp) ps (List.replicate k none++outS ix σ) H' s':=fun z=>z.weak l7.symm fun j v e=>by
    rcases Nat.lt_or_ge j k with hj | hj
    ·rw [List.getElem?_append_left (by simpa using hj),List.getElem?_replicate,if_pos hj] at e
     cases e
    ·rw [k7 j hj];exact e
   refine thn (ht _ _ s7 σ7 H7 _ I7 q7) fun ok s8 ⟨H8,I8,q8⟩=>?_
   have keepT:∀{H':Hp} {s':Shared},Inv (AH X scope cl Hx.objs.size N s H fp) ([(s.heap.objs.size,{cls:=.type "list",data:=.seq its.toArray pn})]++GF fp s6.heap) σ7 H' s'→
     tn (i + 1) s'.heap∧(∀b∈fp,H' b=none)∧s'.heap.PlainList s.heap.objs.size its.toArray∧H' s.heap.objs.size=none:=fun {H' s'} z=>by
    refine ⟨T.keep _ _ _ t6 fun b hb o e=>(z.pin (b,o) (List.mem_append_right _ (List.mem_append_right _ (Dg hb e)))).1,fun b hb=>?_,?_⟩
    ·obtain ⟨o,e,d⟩:=T.obj _ _ t6 b hb
     exact (z.pin (b,o) (List.mem_append_right _ (List.mem_append_right _ (Dg hb e)))).2.1
    ·obtain ⟨e,n',_⟩:=z.pin (s.heap.objs.size,{cls:=.type "list",data:=.seq its.toArray pn}) (List.mem_append_right _ (List.mem_append_left _ (List.mem_singleton.mpr rfl)))
     exact ⟨⟨pn,e⟩,n'⟩
   cases ok with
   | false=>
     have q8:∃m',m' < n∧W (i + 1) m' ys H8:=by simpa using q8
     obtain ⟨m',hm,w8⟩:=q8
     obtain ⟨a1,a2,a3,a4⟩:=keepT I8
     exact ⟨m',hm,i + 1,ys,H8,its,(weak I8).pins_of (pins':=[]) fun p hp=>(by cases hp),a1,a2,a3,a4,v4,w8⟩
   | true=>
     have q8:te σ7 H8 (fun v H4=>∃m',m' < n∧W (i + 1) m' (ys++[v]) H4):=by simpa using q8
     show wpAny _ _ (eval elt _) _ _ s8
     refine thn (he _ _ s8 σ7 H8 _ I8 q8) fun y s9 ⟨v,H9,I9,r9,m',hm,w9⟩=>?_
     obtain ⟨a1,a2,a3,a4⟩:=keepT I9
     refine wpAny_list_append_plain a3 (fun h10 hp10 hs10=>?_) (by rw [List.size_toArray,←v4.length];exact hsz)
     refine ⟨m',hm,i + 1,ys++[v],H9,its++[y],?_,T.keep _ _ _ a1 fun b hb o e=>hs10.extBut b o (fun z=>absurd (hlt b hb) (by rw [z];exact Nat.lt_irrefl _)) e,a2,by simpa using hp10,a4,Paired.snoc v4 r9,w9⟩
     have I9':Inv (AH X scope cl Hx.objs.size N s H fp) [] (List.replicate k none++outS ix σ) H9 s9:=(weak I9).pins_of (pins':=[]) fun p hp=>(by cases hp)
     exact I9'.turned (t':=s9.toks) (it:=s.heap.objs.size) (fun b o hb e=>hs10.extBut b o hb e) a4 hne (.inr (Nat.le_refl _))
      (fun x c e=>cne x c (hcl x c e)) fun p hp=>(by cases hp)
 exact codeAny_compStart_list (loop _ rfl) (T.self _ 0 _ _ _ (T.keep _ _ _ t0 fun b _ o e=>old b o e) (loop _ rfl))
end
def RL (k:Nat) (ix:List Nat) (wi:TI) (g:TG) (tc:TT) (te:TE):TE:=fun σ H Q=>wi σ H fun J H1=>
 LE k ix g tc te σ J H1 fun ys H2=>∀D,H2 D=none→Q (.ref D) (upd H2 D (.lst ys))
section
variable {X:Cx} {elt target iter:Expr} {ifs:List Expr} {scope:Scope} {pos:Pos} {N:List Str} {k:Nat} {ix:List Nat} {wi:TI} {g:TG} {tc:TT} {te:TE}
theorem Hy {pins:List (Addr×Obj)} {σ:St} {H:Hp} {s:Shared} (I:Inv X pins σ H s) (hc:Cj X.env.scope X.N k ix N scope):∀y∈scope.names,y.2=.free→∃c,X.env.cells.lookup y.1=some c:=fun y hy e=>
 I.ok.has y.1 (hc.2.2.2.1 y hy e)
theorem Li (hcalm:X.calm=true) (hc:Cj X.env.scope X.N k ix N scope) (og:OwnG k g) (hi:PI X target iter wi)
  (hb:∀cl C s H fp,PG (AH X scope cl C N s H fp) target g∧PF (AH X scope cl C N s H fp) ifs tc∧PE (AH X scope cl C N s H fp) elt te)
  (hs:∀x,foldedSetIterable iter X.env x=pure x:=by intro _;rfl):PE X (.ListComp elt [⟨target,iter,ifs,0⟩] scope pos) (RL k ix wi g tc te):=by
 intro pins s σ H Q I h
 obtain ⟨cl,hclos,hcl,hcl2⟩:=DY X.env scope (Hy I hc)
 rw [eval_ListComp]
 refine wpAny_comprehension_free (use:=none) rfl hs hclos hc.1 hc.2.2.1 (thn (hi pins s σ H _ I h) fun xv s1 h1=>thn h1 fun itv s2 h2=>?_)
 obtain ⟨it,fp,tn,J,H2,e,I2,T,st2,f2,hw⟩:=h2
 subst e
 refine GW hcalm I2 hc og hcl hcl2 T st2 f2 (fun C=>(hb cl C s2 H2 fp).1) (fun C=>(hb cl C s2 H2 fp).2.1) (fun C=>(hb cl C s2 H2 fp).2.2) hw (RR:=fun acc C=>compPost (model X.prog X.w) X.A X.xe none (EP X pins σ Q) acc C) ?_
 intro D C ys H' s' B q
 obtain ⟨I3,⟨m,hm⟩,hCn⟩:=B.out I2 f2
 refine ⟨m,hm,fun h' hs'=>?_⟩
 have q':=q D B.dn
 have hCs:X.s₀.heap.objs.size≤C:=Nat.le_trans I2.sz B.hC
 obtain ⟨_,f1,f3,f4,f5,f6⟩:=I2.fpOk (H':=upd H' D (.lst ys)) B.hC hCn
 exact ⟨.ref D,_,I3.turned (t':=s'.toks) (it:=C) (fun b o hb e=>hs'.extBut b o hb e) hCn f1 f4 f5 f6,rfl,q'⟩
def NO (i k:Nat) (ix:List Nat) (wi:TI) (g:TG) (tc:TT) (te:TE):TS:=fun D σ H=>wi σ H fun J H1=>
 LE k ix g tc te σ J H1 fun ys H2=>∀p,H2 p=none→D.nx (σ.set i (some (.ref p))) (upd H2 p (.lst ys))
theorem GO {i:Nat} {x:Str} {pos' spos:Pos} (hcalm:X.calm=true) (hN:X.N.Nodup) (hx0:X.N[i]?=some x) (hx:X.env.scope.names.lookup x=some .local) (hc:Cj X.env.scope X.N k ix N scope) (og:OwnG k g) (hi:PI X target iter wi)
  (hb:∀cl C s H fp,PG (AH X scope cl C N s H fp) target g∧PF (AH X scope cl C N s H fp) ifs tc∧PE (AH X scope cl C N s H fp) elt te)
  (hsw:swapsWith (.ListComp elt [⟨target,iter,ifs,0⟩] scope pos) (some (.Name x pos')) spos.line X.env=pure true:=by rfl)
  (hs:∀x,foldedSetIterable iter X.env x=pure x:=by intro _;rfl):PS X (.Assign [.Name x pos'] (.ListComp elt [⟨target,iter,ifs,0⟩] scope pos) spos) (NO i k ix wi g tc te):=by
 intro pins s σ H Dn I h
 obtain ⟨cl,hclos,hcl,hcl2⟩:=DY X.env scope (Hy I hc)
 rw [exec_Assign_Name_used _ _ _ _ hsw]
 refine wpAny_bind (wpAny_standAt (wpAny_bind ?_))
 show wpAny _ X.A (do let _ ←comprehension (.ListComp elt [⟨target,iter,ifs,0⟩] scope pos) scope X.env _ (newList []) false (eval iter X.env) (some (assign (.Name x pos') X.env))) _ _ s
 refine wpAny_bind (wpAny_mono (wpAny_comprehension_free (use:=some (assign (.Name x pos') X.env)) (Q:=fun _ s'=>SP X pins Dn .next s') rfl hs hclos hc.1 hc.2.2.1
  (thn (hi pins s σ H _ I h) fun xv s1 h1=>thn h1 fun itv s2 h2=>?_)) (fun _ s' hq=>wpAny_pure (wpAny_pure hq)) fun _ _ e=>e)
 obtain ⟨it,fp,tn,J,H2,e,I2,T,st2,f2,hw⟩:=h2
 subst e
 refine GW hcalm I2 hc og hcl hcl2 T st2 f2 (fun C=>(hb cl C s2 H2 fp).1) (fun C=>(hb cl C s2 H2 fp).2.1) (fun C=>(hb cl C s2 H2 fp).2.2) hw (RR:=fun acc C=>compPost (model X.prog X.w) X.A X.xe (some (assign (.Name x pos') X.env)) (fun _ s'=>SP X pins Dn .next s') acc C) ?_
 intro D C ys H' s' B q
 obtain ⟨I3,⟨m,o,es,ep,ho,hd,hr⟩,hCn⟩:=B.out I2 f2
 have q':=q D B.dn
 obtain ⟨_,f1,f3,f4,f5,f6⟩:=I2.fpOk (H':=upd H' D (.lst ys)) B.hC hCn
 have I4:Inv X (pins++[(C,o)]) σ (upd H' D (.lst ys)) s':=I3.pins_of fun p hp=>(List.mem_append.mp hp).elim (fun z=>I3.pin p (List.mem_append_right _ z)) fun z=>by
  have z':=List.mem_singleton.mp z
  subst z'
  exact ⟨ho,hCn,f1,f3,fun v z=>by rw [hd] at z;cases z⟩
 show wpAny _ X.A (assign (.Name x pos') X.env (.ref D)) _ _ s'
 refine wpAny_assign_Name (GL I4 hN hx0 (.inl hx) (v:=.ref D) (u:=.ref D) rfl (fun s5 I5=>?_) (.inr hx))
 obtain ⟨e5,n5,_⟩:=I5.pin (C,o) (List.mem_append_right _ (List.mem_append_right _ (List.mem_singleton.mpr rfl)))
 refine ⟨m,⟨o,es,ep,e5,hd,hr⟩,fun h' hs'=>?_⟩
 exact ⟨_,_,I5.unpinned.turned (t':=s5.toks) (it:=C) (fun b o hb e=>hs'.extBut b o hb e) hCn f1 f4 f5 f6,q'⟩
end
section
def ExcAt (a C:Addr) (h:Heap):Prop:=∃o vs,h.get? a=some o∧o.cls=.ref C∧o.data=.fields vs
def excD (C:Addr):PyData:=.dict [(.none,.int (C:Int))]
def Qz (a C dx:Addr) (h:Heap):Prop:=∃o vs,h.get? a=some o∧o.cls=.ref C∧o.data=.fields vs∧o.dict=some dx
def Qd (C:Addr) (n:Int):PyData:=.dict [(.none,.int (C:Int)),(.none,.int n)]
def excC:List (PyData×PyData)→Option Addr
 | [(.none,.int i)]=>some i.toNat
 | [(.none,.int i),(.none,.int _)]=>some i.toNat
 | (.none,.tuple [.int i])::_=>some i.toNat
 | (.bool true,_)::_=>some 0
 | _=>none
def objD (C:Addr) (es:List (PyData×PyData)):PyData:=.dict ((.none,.tuple [.int (C:Int)])::es)
def O3:PyData→Bool
 | .dict ((.none,.tuple _)::_)=>true
 | .dict ((.bool true,_)::_)=>true
 | _=>false
theorem NX (i:Int) (es:List (PyData×PyData)):excC ((.none,.tuple [.int i])::es)=some i.toNat:=by
 cases es with
 | nil=>rfl
 | cons y ys=>cases ys <;> rfl
def keyD:Key→PyData
 | .inl i=>.int i
 | .inr x=>.str x
def ppE (m:List ((Int×Int)×Int)):List (PyData×PyData):=(.bool true,.none)::m.map fun q=>(.tuple [.int q.1.1,.int q.1.2],.int q.2)
def ppK (m:List ((Int×Int)×Int)):List (List Key×V):=m.map fun q=>([.inl q.1.1,.inl q.1.2],V.int q.2)
def Bt:List Str:=["start","text","rows","ways","atoms","numbers","rights","memory","box_words","here","truth_pair","told_words","stored_cells","done_count"]
mutual
inductive DV (K:PySem.W.Frag) (H:Hp):V→PyData→Prop where
 | non:DV K H .non .none
 | bl (b:Bool):DV K H (.bl b) (.bool b)
 | int (i:Int):DV K H (.int i) (.int i)
 | str (x:Str):DV K H (.str x) (.str x)
 | tup {a:Addr} {xs:List V} {ds:List PyData}:SqT K H a xs→DVs K H xs ds→DV K H (.ref a) (.tuple ds)
 | lst {a:Addr} {xs:List V} {ds:List PyData}:SqL K H a xs→DVs K H xs ds→DV K H (.ref a) (.list ds)
 | dct {a:Addr} {kvs:List (Key×V)} {es:List (PyData×PyData)}:H a=some (.dK kvs)→DVk K H kvs es→DV K H (.ref a) (.dict es)
 | exc {a C:Addr}:H a=some (.ext (ExcAt a C))→DV K H (.ref a) (.dict [(.none,.int (C:Int))])
 | exr {a C dx:Addr} {n:Int}:H a=some (.ext (Qz a C dx))→H dx=some (.xd [("row",.int n)])→DV K H (.ref a) (.dict [(.none,.int (C:Int)),(.none,.int n)])
 | obj {a C dx:Addr} {fs:List (Str×V)} {es:List (PyData×PyData)}:H a=some (.ins C dx fs)→(∀m:Str,m∉Bt→fs.lookup m=none)→DVf K H fs es→DV K H (.ref a) (.dict ((.none,.tuple [.int (C:Int)])::es))
 | dtt {a:Addr} {m:List ((Int×Int)×Int)}:H a=some (.dT (ppK m))→DV K H (.ref a) (.dict (ppE m))
inductive DVs (K:PySem.W.Frag) (H:Hp):List V→List PyData→Prop where
 | nil:DVs K H [] []
 | cons {x:V} {d:PyData} {xs:List V} {ds:List PyData}:DV K H x d→DVs K H xs ds→DVs K H (x::xs) (d::ds)
inductive DVk (K:PySem.W.Frag) (H:Hp):List (Key×V)→List (PyData×PyData)→Prop where
 | nil:DVk K H [] []
 | cons {k:Key} {x:V} {d:PyData} {xs:List (Key×V)} {ds:List (PyData×PyData)}:DV K H x d→DVk K H xs ds→DVk K H ((k,x)::xs) ((keyD k,d)::ds)
inductive DVf (K:PySem.W.Frag) (H:Hp):List (Str×V)→List (PyData×PyData)→Prop where
 | nil {fs:List (Str×V)}:DVf K H fs []
 | cons {fs:List (Str×V)} {f:Str} {x:V} {d:PyData} {ds:List (PyData×PyData)}:fs.lookup f=some x→DV K H x d→DVf K H fs ds→DVf K H fs ((.str f,d)::ds)
end
theorem Same.seqT {K:PySem.W.Frag} {H H':Hp} {a:Addr} {xs:List V} (e:Same H H') (h:SqT K H a xs):SqT K H' a xs:=by
 rcases h with (h | ⟨o,h⟩) | h
 ·exact .inl (.inl (e _ _ h))
 ·exact .inl (.inr ⟨o,e _ _ h⟩)
 ·exact .inr h
section
variable {K:PySem.W.Frag} {H H':Hp}
mutual
theorem DV.mono (e:Same H H'):∀{v:V} {d:PyData},DV K H v d→DV K H' v d
 | _,_,.non=>.non
 | _,_,.bl b=>.bl b
 | _,_,.int i=>.int i
 | _,_,.str x=>.str x
 | _,_,.tup h t=>.tup (e.seqT h) (DVs.mono e t)
 | _,_,.lst h t=>.lst (e.seq h) (DVs.mono e t)
 | _,_,.dct h t=>.dct (e _ _ h) (DVk.mono e t)
 | _,_,.exc h=>.exc (e _ _ h)
 | _,_,.exr h h'=>.exr (e _ _ h) (e _ _ h')
 | _,_,.obj h n t=>.obj (e _ _ h) n (DVf.mono e t)
 | _,_,.dtt h=>.dtt (e _ _ h)
theorem DVs.mono (e:Same H H'):∀{vs:List V} {ds:List PyData},DVs K H vs ds→DVs K H' vs ds
 | _,_,.nil=>.nil
 | _,_,.cons h t=>.cons (DV.mono e h) (DVs.mono e t)
theorem DVk.mono (e:Same H H'):∀{vs:List (Key×V)} {ds:List (PyData×PyData)},DVk K H vs ds→DVk K H' vs ds
 | _,_,.nil=>.nil
 | _,_,.cons h t=>.cons (DV.mono e h) (DVk.mono e t)
theorem DVf.mono (e:Same H H'):∀{vs:List (Str×V)} {ds:List (PyData×PyData)},DVf K H vs ds→DVf K H' vs ds
 | _,_,.nil=>.nil
 | _,_,.cons l h t=>.cons l (DV.mono e h) (DVf.mono e t)
end
theorem DVs.length:∀{vs:List V} {ds:List PyData},DVs K H vs ds→vs.length=ds.length
 | _,_,.nil=>rfl
 | _,_,.cons _ t=>by rw [List.length_cons,List.length_cons,DVs.length t]
theorem DVs.get:∀{vs:List V} {ds:List PyData} {i:Nat} {d:PyData},DVs K H vs ds→ds[i]?=some d→∃v,vs[i]?=some v∧DV K H v d
 | _,_,_,_,.nil,e=>by simp at e
 | _,_,0,_,.cons h _,e=>by simp at e;subst e;exact ⟨_,rfl,h⟩
 | _,_,i + 1,d,.cons _ t,e=>by
   obtain ⟨v,h1,h2⟩:=DVs.get (i:=i) (d:=d) t (by simpa using e)
   exact ⟨v,by simpa using h1,h2⟩
theorem DVs.get':∀{vs:List V} {ds:List PyData} {i:Nat} {v:V},DVs K H vs ds→vs[i]?=some v→∃d,ds[i]?=some d∧DV K H v d
 | _,_,_,_,.nil,e=>by simp at e
 | _,_,0,_,.cons h _,e=>by simp at e;subst e;exact ⟨_,rfl,h⟩
 | _,_,i + 1,d,.cons _ t,e=>by
   obtain ⟨v,h1,h2⟩:=DVs.get' (i:=i) (v:=d) t (by simpa using e)
   exact ⟨v,by simpa using h1,h2⟩
theorem DVs.append:∀{vs ws:List V} {ds es:List PyData},DVs K H vs ds→DVs K H ws es→DVs K H (vs++ws) (ds++es)
 | _,_,_,_,.nil,s=>s
 | _,_,_,_,.cons h t,s=>.cons h (DVs.append t s)
theorem DVs.take:∀{vs:List V} {ds:List PyData} (n:Nat),DVs K H vs ds→DVs K H (vs.take n) (ds.take n)
 | _,_,0,_=>.nil
 | _,_,_ + 1,.nil=>.nil
 | _,_,n + 1,.cons h t=>.cons h (DVs.take n t)
theorem DVs.drop:∀{vs:List V} {ds:List PyData} (n:Nat),DVs K H vs ds→DVs K H (vs.drop n) (ds.drop n)
 | _,_,0,r=>r
 | _,_,_ + 1,.nil=>.nil
 | _,_,n + 1,.cons _ t=>DVs.drop n t
theorem DVs.ints:∀(ns:List Int),DVs K H (ns.map V.int) (ns.map PyData.int)
 | []=>.nil
 | n::r=>.cons (.int n) (DVs.ints r)
theorem DVs.of_ints:∀{vs:List V} {ns:List Int},DVs K H vs (ns.map PyData.int)→vs=ns.map V.int
 | _,[],.nil=>rfl
 | _,n::r,.cons h t=>by cases h;rw [DVs.of_ints t];rfl
theorem DVs.of_bools:∀{vs:List V} {ns:List Bool},DVs K H vs (ns.map PyData.bool)→vs=ns.map V.bl
 | _,[],.nil=>rfl
 | _,n::r,.cons h t=>by cases h;rw [DVs.of_bools t];rfl
theorem DV.of_int {v:V} {i:Int} (h:DV K H v (.int i)):v=.int i:=by cases h;rfl
theorem DV.of_bl {v:V} {i:Bool} (h:DV K H v (.bool i)):v=.bl i:=by cases h;rfl
theorem DV.of_str {v:V} {i:Str} (h:DV K H v (.str i)):v=.str i:=by cases h;rfl
theorem DV.of_tup {v:V} {ds:List PyData} (h:DV K H v (.tuple ds)):∃a xs,v=.ref a∧SqT K H a xs∧DVs K H xs ds:=by cases h with | tup h t=>exact ⟨_,_,rfl,h,t⟩
theorem Jn {kvs:List (Key×V)} {es:List (PyData×PyData)} (h:DVk K H kvs es):excC es=none:=by
 cases h with
 | nil=>rfl
 | cons h t=>
   rename_i k x d xs ds
   cases t with
   | nil=>cases k <;> cases d <;> rfl
   | cons h2 t2=>rename_i k2 x2 d2 xs2 ds2;cases k <;> cases d <;> cases k2 <;> cases d2 <;> cases ds2 <;> rfl
theorem DV.of_objN {v:V} {C:Addr} {es:List (PyData×PyData)} (h:DV K H v (objD C es)):∃a dx fs,v=.ref a∧H a=some (.ins C dx fs)∧DVf K H fs es∧∀m:Str,m∉Bt→fs.lookup m=none:=by
 unfold objD at h
 generalize ei:((C:Nat):Int)=i at h
 generalize ee:PyData.dict ((.none,.tuple [.int i])::es)=e at h
 cases h with
 | dct h t=>
   injection ee with ee
   subst ee
   have z:=Jn t
   rw [NX] at z
   cases z
 | obj h n t=>
   injection ee with ee
   injection ee with ee e2
   injection ee with _ ee
   injection ee with ee
   injection ee with ee _
   injection ee with ee
   have:C=_:=Int.ofNat.inj (ei.trans ee)
   subst this e2
   exact ⟨_,_,_,rfl,h,t,n⟩
 | _=>cases ee
theorem DVf.get:∀{fs:List (Str×V)} {es:List (PyData×PyData)} {f:Str} {d:PyData},DVf K H fs es→(.str f,d)∈es→∃v,fs.lookup f=some v∧DV K H v d
 | _,_,_,_,.nil,h=>by cases h
 | _,_,f,d,.cons l q t,h=>by
   rcases List.mem_cons.mp h with e | e
   ·injection e with e1 e2
    injection e1 with e1
    subst e1 e2
    exact ⟨_,l,q⟩
   ·exact DVf.get t e
theorem DV.of_lst {v:V} {ds:List PyData} (h:DV K H v (.list ds)):∃a xs,v=.ref a∧SqL K H a xs∧DVs K H xs ds:=by cases h with | lst h t=>exact ⟨_,_,rfl,h,t⟩
end
mutual
theorem DV.reads {X:Cx} {pins:List (Addr×Obj)} {σ:St} {H:Hp} {s:Shared} (I:Inv X pins σ H s):∀{v:V} {d:PyData} {u:Value},DV X.K H v d→RelV v u→d.canLay0=true→∃as,Reads s.heap u d as
 | _,_,_,.non,r,_=>⟨[],by rw [show _=Value.none from r];exact .none⟩
 | _,_,_,.bl b,r,_=>⟨[],by rw [show _=Value.bool b from r];exact .bool b⟩
 | _,_,_,.int i,r,_=>let ⟨t,e⟩:=r;⟨[],by rw [e];exact .int i t⟩
 | _,_,_,.str x,r,_=>let ⟨t,e⟩:=r;⟨[],by rw [e];exact .str x t⟩
 | _,_,_,.tup h t,r,c=>by
   rw [show _=Value.ref _ from r]
   obtain ⟨its,rv,⟨o,e1,e2,n,e3⟩,_⟩:=I.tuple h
   obtain ⟨as,q⟩:=DVs.reads I t rv (by unfold PyData.canLay0 at c;exact c)
   exact ⟨_,.tuple e1 e2 e3 (by simpa using q)⟩
 | _,_,_,.lst h t,r,c=>by
   rw [show _=Value.ref _ from r]
   obtain ⟨its,rv,pl,_⟩:=I.list h
   obtain ⟨o,e1,e2,n,e3⟩:=pl.isList
   obtain ⟨as,q⟩:=DVs.reads I t rv (by unfold PyData.canLay0 at c;exact c)
   exact ⟨_,.list e1 e2 e3 (by simpa using q)⟩
 | _,_,_,.dct h t,r,c=>by simp [PyData.canLay0] at c
 | _,_,_,.exc h,r,c=>by simp [PyData.canLay0] at c
 | _,_,_,.exr h h',r,c=>by simp [PyData.canLay0] at c
 | _,_,_,.obj h n t,r,c=>by simp [PyData.canLay0] at c
 | _,_,_,.dtt h,r,c=>by simp [PyData.canLay0] at c
theorem DVs.reads {X:Cx} {pins:List (Addr×Obj)} {σ:St} {H:Hp} {s:Shared} (I:Inv X pins σ H s):∀{vs:List V} {ds:List PyData} {us:List Value},DVs X.K H vs ds→Vals vs us→PyData.canLayAll0 ds=true→∃as,ReadsAll s.heap us ds as
 | _,_,_,.nil,.nil,_=>⟨_,.nil⟩
 | _,_,_,.cons h t,.cons r rs,c=>by
   unfold PyData.canLayAll0 at c
   rw [Bool.and_eq_true] at c
   obtain ⟨a1,q1⟩:=DV.reads I h r c.1
   obtain ⟨a2,q2⟩:=DVs.reads I t rs c.2
   exact ⟨_,.cons q1 q2⟩
end
abbrev Gam:=List (Option PyData)
def SD (K:PySem.W.Frag) (H:Hp) (σ:St) (G:Gam):Prop:=σ.length=G.length∧∀(i:Nat) d,G[i]?=some (some d)→∃v,σ[i]?=some (some v)∧DV K H v d
theorem SD.mono {K:PySem.W.Frag} {H H':Hp} {σ:St} {G:Gam} (h:SD K H σ G) (e:Same H H'):SD K H' σ G:=⟨h.1,fun i d z=>let ⟨v,a,b⟩:=h.2 i d z;⟨v,a,b.mono e⟩⟩
theorem SD.set {K:PySem.W.Frag} {H:Hp} {σ:St} {G:Gam} {i:Nat} {v:V} {d:PyData} (h:SD K H σ G) (q:DV K H v d):SD K H (σ.set i (some v)) (G.set i (some d)):=by
 refine ⟨by rw [List.length_set,List.length_set,h.1],fun j e z=>?_⟩
 by_cases hj:i=j
 ·subst hj
  by_cases hl:i < G.length
  ·rw [List.getElem?_set_self hl] at z
   cases z
   exact ⟨v,List.getElem?_set_self (by rw [h.1];exact hl),q⟩
  ·rw [List.getElem?_eq_none (by rw [List.length_set];omega)] at z
   cases z
 ·rw [List.getElem?_set_ne hj] at z
  obtain ⟨w,a,b⟩:=h.2 j e z
  exact ⟨w,by rw [List.getElem?_set_ne hj];exact a,b⟩
theorem SD.forget {K:PySem.W.Frag} {H:Hp} {σ:St} {G G':Gam} (h:SD K H σ G) (hl:G'.length=G.length) (hw:∀(i:Nat) d,G'[i]?=some (some d)→G[i]?=some (some d)):SD K H σ G':=⟨h.1.trans hl.symm,fun i d z=>h.2 i d (hw i d z)⟩
def tD (K:PySem.W.Frag) (G:Gam) (d:PyData):TE:=fun σ H Q=>SD K H σ G∧∀v H',Same H H'→DV K H' v d→Q v H'
def tDT (K:PySem.W.Frag) (G:Gam) (b:Bool):TT:=fun σ H Q=>SD K H σ G∧∀H',Same H H'→Q b H'
def tDA (K:PySem.W.Frag) (G:Gam) (ds:List PyData):TA:=fun σ H Q=>SD K H σ G∧∀vs H',Same H H'→DVs K H' vs ds→Q vs H'
inductive Out where
 | next (G:Gam) | ret (d:PyData)
def tDS (K:PySem.W.Frag) (G:Gam) (o:Out):TS:=fun D σ H=>SD K H σ G∧match o with
 | .next G'=>∀σ' H',Same H H'→SD K H' σ' G'→D.nx σ' H'
 | .ret d=>∀v H',Same H H'→DV K H' v d→D.rt v H'
abbrev EV (X:Cx) (G:Gam) (e:Expr) (d:PyData):Prop:=PE X e (tD X.K G d)
abbrev TV (X:Cx) (G:Gam) (e:Expr) (b:Bool):Prop:=PT X e (tDT X.K G b)
abbrev WV (X:Cx) (G:Gam) (e:Expr) (b:Bool):Prop:=PW X e (tDT X.K G b)
abbrev AV (X:Cx) (G:Gam) (es:List Expr) (ds:List PyData):Prop:=PA X es (tDA X.K G ds)
abbrev SV (X:Cx) (G:Gam) (st:Stmt) (o:Out):Prop:=PS X st (tDS X.K G o)
abbrev SVs (X:Cx) (G:Gam) (st:List Stmt) (o:Out):Prop:=PSs X st (tDS X.K G o)
section
variable {X:Cx} {G:Gam} {a b c e:Expr} {es:List Expr} {pos:Pos} {d da db dc:PyData}
theorem PE.imp {t t':TE} (h:PE X e t) (m:∀σ H Q,t' σ H Q→t σ H Q):PE X e t':=fun pins s σ H Q I q=>h pins s σ H Q I (m σ H Q q)
theorem PT.imp {t t':TT} (h:PT X e t) (m:∀σ H Q,t' σ H Q→t σ H Q):PT X e t':=fun pins s σ H Q I q=>h pins s σ H Q I (m σ H Q q)
theorem PW.imp {t t':TT} (h:PW X e t) (m:∀σ H Q,t' σ H Q→t σ H Q):PW X e t':=fun w pins s σ H Q I q=>h w pins s σ H Q I (m σ H Q q)
theorem PA.imp {t t':TA} (h:PA X es t) (m:∀σ H Q,t' σ H Q→t σ H Q):PA X es t':=fun p pins s σ H Q I q=>h p pins s σ H Q I (m σ H Q q)
theorem PS.imp {st:Stmt} {t t':TS} (h:PS X st t) (m:∀D σ H,t' D σ H→t D σ H):PS X st t':=fun pins s σ H D I q=>h pins s σ H D I (m D σ H q)
theorem PSs.imp {st:List Stmt} {t t':TS} (h:PSs X st t) (m:∀D σ H,t' D σ H→t D σ H):PSs X st t':=fun pins s σ H D I q=>h pins s σ H D I (m D σ H q)
theorem OpR.imp {f:Value→Value→Sem Value} {r r':R2} (h:OpR X f r) (m:∀x y H Q,r' x y H Q→r x y H Q):OpR X f r':=fun pins s σ H x y v u Q I rx ry q=>h pins s σ H x y v u Q I rx ry (m x y H Q q)
theorem CallR.imp {f:Value} {r r':List V→Hp→VK→Prop} (h:CallR X f r) (m:∀xs H Q,r' xs H Q→r xs H Q):CallR X f r':=fun pins s σ H xs us Q I rs q=>h pins s σ H xs us Q I rs (m xs H Q q)
theorem K5 (i:Nat) {x:Str} (hG:G[i]?=some (some d)) (hp:PE X (.Name x pos) (tVar i)):EV X G (.Name x pos) d:=hp.imp fun σ H Q ⟨h,k⟩=>by
 obtain ⟨v,a,b⟩:=h.2 i d hG
 exact ⟨v,a,k v H (Same.refl H) b⟩
theorem evv (i:Nat) {x:Str} (hG:G[i]?=some (some d):=by rfl) (hN:X.N[i]?=some x:=by rfl) (hv:Vis X.env.scope x:=by first | exact Or.inl rfl | exact Or.inr (Or.inl rfl) | exact Or.inr (Or.inr rfl)) (hd:(x==("__debug__":Str))=false:=by decide) (hcd:(x==("__classdict__":Str))=false:=by decide):EV X G (.Name x pos) d:=K5 i hG (pv i hN hv hd hcd)
theorem Ab {i j}:EV X G (.Constant (.int i) j pos) (.int i):=pe_int.imp fun σ H Q ⟨h,k⟩=>k _ H (Same.refl H) (.int i)
theorem J6 {i j}:EV X G (.Constant (.bool i) j pos) (.bool i):=pe_bl.imp fun σ H Q ⟨h,k⟩=>k _ H (Same.refl H) (.bl i)
theorem Ah {i j}:EV X G (.Constant (.str i) j pos) (.str i):=pe_str.imp fun σ H Q ⟨h,k⟩=>k _ H (Same.refl H) (.str i)
theorem Fx {j}:EV X G (.Constant .none j pos) .none:=pe_non.imp fun σ H Q ⟨h,k⟩=>k _ H (Same.refl H) .non
def rD (K:PySem.W.Frag) (da db d:PyData):R2:=fun x y H Q=>DV K H x da∧DV K H y db∧∀v H',Same H H'→DV K H' v d→Q v H'
abbrev OD (X:Cx) (f:Value→Value→Sem Value) (da db d:PyData):Prop:=OpR X f (rD X.K da db d)
theorem HS {r:R2} {σ:St} {H:Hp} {Q:VK} {K:PySem.W.Frag} (h:SD K H σ G) (k:∀x y H',Same H H'→DV K H' x da→DV K H' y db→r x y H' Q):tOp r (tD K G da) (tD K G db) σ H Q:=
 ⟨h,fun x H1 s1 d1=>⟨h.mono s1,fun y H2 s2 d2=>k x y H2 (s1.trans s2) (d1.mono s2) d2⟩⟩
theorem Ae {op:Operator} (ha:EV X G a da) (hb:EV X G b db) (ho:OD X (binaryOp op) da db d):EV X G (.BinOp a op b pos) d:=
 (Qb ho ha hb).imp fun σ H Q ⟨h,k⟩=>HS h fun x y H' s' d1 d2=>⟨d1,d2,fun v H2 s2 dv=>k v H2 (s'.trans s2) dv⟩
theorem AC {op:CmpOp} (ha:EV X G a da) (hb:EV X G b db) (ho:OD X (compareOp op) da db d) (hm:behindInMarks op b=false):EV X G (.Compare a [op] [b] pos) d:=
 (Pb ho ha hb hm).imp fun σ H Q ⟨h,k⟩=>HS h fun x y H' s' d1 d2=>⟨d1,d2,fun v H2 s2 dv=>k v H2 (s'.trans s2) dv⟩
theorem Al {op:CmpOp} {k:Bool} (ha:EV X G a da) (hb:EV X G b db) (ho:OD X (compareOp op) da db (.bool k)) (hm:behindInMarks op b=false):TV X G (.Compare a [op] [b] pos) k:=
 (Ix ho ha hb hm).imp fun σ H Q ⟨h,kk⟩=>HS h fun x y H' s' d1 d2=>⟨d1,d2,fun v H2 s2 dv=>⟨k,dv.of_bl,kk H2 (s'.trans s2)⟩⟩
theorem DB {f:Value→Value→Sem Value} {i j:Int} {g:Int→Int→V} (h:OpR X f (rI0 g)) (hd:∀H,DV X.K H (g i j) d):OD X f (.int i) (.int j) d:=
 h.imp fun x y H Q ⟨h1,h2,k⟩=>⟨i,j,h1.of_int,h2.of_int,k _ H (Same.refl H) (hd H)⟩
theorem L8 {f:Value→Value→Sem Value} {i j:Int} {C:Int→Int→Prop} {g:Int→Int→V} (h:OpR X f (rI C g)) (hc:C i j) (hd:∀H,DV X.K H (g i j) d):OD X f (.int i) (.int j) d:=
 h.imp fun x y H Q ⟨h1,h2,k⟩=>⟨i,j,h1.of_int,h2.of_int,hc,k _ H (Same.refl H) (hd H)⟩
theorem BL {k:Bool} (hu:X.A.units + 64 < cLine) (ha:da.canLay0=true) (hb:db.canLay0=true) (hd:min da.depth db.depth≤60) (hk:PyData.eqv da db=k):OD X (compareOp .Eq) da db (.bool k):=by
 intro pins s σ H x y v u Q I rx ry ⟨h1,h2,q⟩
 obtain ⟨as,r1⟩:=h1.reads I rx ha
 obtain ⟨bs,r2⟩:=h2.reads I ry hb
 refine PySem.SeqAt.compareEq_reads r1 r2 ha hb (by omega) ⟨.bl _,H,I,rfl,q _ H (Same.refl H) ?_⟩
 rw [hk]
 exact .bl k
theorem BI {k:Bool} (hu:X.A.units + 64 < cLine) (ha:da.canLay0=true) (hb:db.canLay0=true) (hd:min da.depth db.depth≤60) (hk:(!PyData.eqv da db)=k):OD X (compareOp .NotEq) da db (.bool k):=by
 intro pins s σ H x y v u Q I rx ry ⟨h1,h2,q⟩
 obtain ⟨as,r1⟩:=h1.reads I rx ha
 obtain ⟨bs,r2⟩:=h2.reads I ry hb
 refine PySem.SeqAt.compareNe_reads r1 r2 ha hb (by omega) ⟨.bl _,H,I,rfl,q _ H (Same.refl H) ?_⟩
 rw [hk]
 exact .bl k
end
end
section
variable {X:Cx} {G:Gam} {a b c e:Expr} {es rest:List Expr} {pos:Pos} {d da db dc:PyData}
theorem Same.new {H:Hp} {p:Addr} {o:HO} (h:H p=none):Same H (upd H p o):=fun b u e=>by rw [Au (A4 e h)];exact e
theorem AB {k:Bool} (h:EV X G e (.bool k)) (he:∀whole,isTrue e X.env whole=(do let v ←whole;standAt e.pos;holding [v] (truthy v)):=by intro _;rfl):TV X G e k:=
 (Q8 h he).imp fun σ H Q ⟨h,q⟩=>⟨h,fun v H' s' dv=>⟨k,dv.of_bl,q H' s'⟩⟩
theorem Bo {k:Bool} (h:TV X G a k):WV X G (.BoolOp .And [a] pos) k:=OQ h
theorem BR {k:Bool} (h:TV X G a k):WV X G (.BoolOp .Or [a] pos) k:=O7 h
theorem AF {k k':Bool} (h:TV X G a k) (h2:k=true→WV X G (.BoolOp .And (b::rest) pos) k'):WV X G (.BoolOp .And (a::b::rest) pos) (k && k'):=by
 cases k with
 | true=>exact (Rf h (h2 rfl)).imp fun σ H Q ⟨h,q⟩=>⟨h,fun H' s'=>(by simp only [if_true];exact ⟨h.mono s',fun H2 s2=>q H2 (s'.trans s2)⟩)⟩
 | false=>
   intro wh pins s σ H Q I ⟨h1,q⟩
   refine isTrue_and (thn (h pins s σ H (fun c H1=>c=false∧Q false H1) I ⟨h1,fun H' s'=>⟨rfl,q H' s'⟩⟩) fun c s1 ⟨H1,I1,e1,q1⟩=>?_)
   subst e1
   exact ⟨H1,I1,q1⟩
theorem BB {k k':Bool} (h:TV X G a k) (h2:k=false→WV X G (.BoolOp .Or (b::rest) pos) k'):WV X G (.BoolOp .Or (a::b::rest) pos) (k || k'):=by
 cases k with
 | false=>exact (PZ h (h2 rfl)).imp fun σ H Q ⟨h,q⟩=>⟨h,fun H' s'=>(by simp only [Bool.false_eq_true,if_false];exact ⟨h.mono s',fun H2 s2=>q H2 (s'.trans s2)⟩)⟩
 | true=>
   intro wh pins s σ H Q I ⟨h1,q⟩
   refine isTrue_or (thn (h pins s σ H (fun c H1=>c=true∧Q true H1) I ⟨h1,fun H' s'=>⟨rfl,q H' s'⟩⟩) fun c s1 ⟨H1,I1,e1,q1⟩=>?_)
   subst e1
   exact ⟨H1,I1,q1⟩
theorem AX {k:Bool} (h:WV X G e k):TV X G e k:=h.pt
theorem AD {k:Bool} (h:TV X G a k):TV X G (.UnaryOp .Not a pos) (!k):=(Qq h).imp fun σ H Q ⟨h,q⟩=>⟨h,fun H' s'=>q H' s'⟩
theorem KF {k:Bool} (h:EV X G a (.bool k)):EV X G (.UnaryOp .Not a pos) (.bool (!k)):=(Rv h).imp fun σ H Q ⟨h,q⟩=>⟨h,fun v H' s' dv=>⟨k,dv.of_bl,q _ H' s' (.bl _)⟩⟩
theorem BA {op} (h:EV X G a d):EV X G (.BoolOp op [a] pos) d:=Q3 h
theorem AZ {k:Bool} (h:EV X G a (.bool k)) (h2:k=true→EV X G (.BoolOp .And (b::rest) pos) d) (h3:k=false→d=.bool false):EV X G (.BoolOp .And (a::b::rest) pos) d:=by
 cases k with
 | true=>exact (Rk h (h2 rfl)).imp fun σ H Q ⟨h,q⟩=>⟨h,fun v H' s' dv=>⟨true,dv.of_bl,by simp only [if_true];exact ⟨h.mono s',fun v2 H2 s2 d2=>q v2 H2 (s'.trans s2) d2⟩⟩⟩
 | false=>
   intro pins s σ H Q I ⟨h1,q⟩
   refine BoolOp_and (thn (h pins s σ H (fun v H1=>v=.bl false∧Q (.bl false) H1) I ⟨h1,fun v H' s' dv=>⟨dv.of_bl,q _ H' s' (by rw [h3 rfl];exact .bl _)⟩⟩) fun v s1 ⟨x,H1,I1,r1,e1,q1⟩=>?_)
   subst e1
   cases r1
   exact wpAny_truthy_bool ⟨.bl false,H1,I1,rfl,q1⟩
theorem OC {op op':CmpOp} {k k':Bool} (ho:OD X (compareOp op) da db (.bool k)) (ho':k=true→OD X (compareOp op') db dc (.bool k')) (ha:EV X G a da) (hb:EV X G b db) (hc:k=true→EV X G c dc)
  (hm:lastMarks [op,op'] [b,c]=false:=by with_unfolding_all rfl):EV X G (.Compare a [op,op'] [b,c] pos) (.bool (k && k')):=by
 cases k with
 | true=>
   refine (MQ ho (ho' rfl) ha hb (hc rfl) hm).imp fun σ H Q ⟨h,q⟩=>⟨h,fun x H1 s1 d1=>⟨h.mono s1,fun y H2 s2 d2=>⟨d1.mono s2,d2,fun v H3 s3 d3=>⟨true,d3.of_bl,?_⟩⟩⟩⟩
   simp only [if_true]
   exact ⟨((h.mono s1).mono s2).mono s3,fun z H4 s4 d4=>⟨(d2.mono s3).mono s4,d4,fun v H5 s5 d5=>q v H5 ((((s1.trans s2).trans s3).trans s4).trans s5) d5⟩⟩
 | false=>
   intro pins s σ H Q I ⟨h1,q⟩
   refine Compare_chain (thn (ha pins s σ H (fun x H1=>Same H H1∧DV X.K H1 x da) I ⟨h1,fun v H' s' dv=>⟨s',dv⟩⟩) fun v s1 ⟨x,H1,I1,r1,z1,d1⟩=>
    chain_link (thn (hb pins s1 σ H1 (fun y H2=>Same H H2∧DV X.K H2 x da∧DV X.K H2 y db) I1 ⟨h1.mono z1,fun v H' s' dv=>⟨z1.trans s',d1.mono s',dv⟩⟩) fun u s2 ⟨y,H2,I2,r2,z2,d2,d3⟩=>
    thn (ho pins s2 σ H2 x y v u (fun z H3=>z=.bl false∧Q (.bl false) H3) I2 r1 r2 ⟨d2,d3,fun v H3 s3 d3=>⟨d3.of_bl,q _ H3 (z2.trans s3) (.bl false)⟩⟩) fun w s3 ⟨z,H3,I3,r3,e3,q3⟩=>?_)) hm
   subst e3
   cases r3
   exact wpAny_truthy_bool (ite_ff ⟨.bl false,H3,I3,rfl,q3⟩)
theorem Bk {i j:Int}:OD X (binaryOp .Add) (.int i) (.int j) (.int (i + j)):=DB QQ fun H=>.int _
theorem IU {i j:Int}:OD X (binaryOp .Sub) (.int i) (.int j) (.int (i - j)):=DB QK fun H=>.int _
theorem El {i j:Int} (h:CMul i j):OD X (binaryOp .Mult) (.int i) (.int j) (.int (i * j)):=L8 Qs h fun H=>.int _
theorem EQ {i j:Int} (h:CDiv i j):OD X (binaryOp .FloorDiv) (.int i) (.int j) (.int (i / j)):=L8 P4 h fun H=>.int _
theorem Bp {i j:Int} (h:0 < j):OD X (binaryOp .Mod) (.int i) (.int j) (.int (i % j)):=L8 QP h fun H=>.int _
theorem R0 {i j:Int} (h:CPow i j):OD X (binaryOp .Pow) (.int i) (.int j) (.int (i ^ j.toNat)):=L8 QY h fun H=>.int _
theorem K2 {i j:Int}:OD X (binaryOp .BitXor) (.int i) (.int j) (.int (Builtin.bitXor i j)):=DB QU fun H=>.int _
theorem OA {i j:Int}:OD X (compareOp .Lt) (.int i) (.int j) (.bool (decide (i < j))):=DB RT fun H=>.bl _
theorem HD {i j:Int}:OD X (compareOp .LtE) (.int i) (.int j) (.bool (decide (i≤j))):=DB RH fun H=>.bl _
theorem Qo {i j:Int}:OD X (compareOp .Gt) (.int i) (.int j) (.bool (decide (j < i))):=DB Sc fun H=>.bl _
theorem Si {i j:Int}:OD X (compareOp .GtE) (.int i) (.int j) (.bool (decide (j≤i))):=DB Sf fun H=>.bl _
theorem IA {xs ys:List PyData} (hz:xs.length + ys.length≤sizeLine):OD X (binaryOp .Add) (.list xs) (.list ys) (.list (xs++ys)):=by
 intro pins s σ H x y v u Q I rx ry ⟨h1,h2,q⟩
 obtain ⟨l,us,rfl,hl,d1⟩:=h1.of_lst
 obtain ⟨m,ws,rfl,hm,d2⟩:=h2.of_lst
 cases rx
 cases ry
 obtain ⟨its,r,pl,_⟩:=I.list hl
 obtain ⟨its2,r2,pl2,_⟩:=I.list hm
 obtain ⟨⟨cls,dd,data,sl⟩,ho,hc,n,hd⟩:=pl.isList
 obtain ⟨⟨cls2,dd2,data2,sl2⟩,ho2,hc2,n2,hd2⟩:=pl2.isList
 simp only at hc hd hc2 hd2
 subst hc hd hc2 hd2
 have hn:its.toArray.size + its2.toArray.size≤sizeLine:=by rw [List.size_toArray,List.size_toArray,←r.length,←r2.length,d1.length,d2.length];exact hz
 refine concat_meets ⟨_,ho,rfl⟩ ⟨_,ho2,rfl⟩ noFill_list_add seq_list_add PySem.F.slot_list_add PySem.F.entry_list_add (PySem.F.args_list_add_2 _ _) (list_addW l m its.toArray its2.toArray n n2 dd dd2 sl sl2 hn) ⟨ho,ho2,?_⟩
 have ea:its.toArray++its2.toArray=(its++its2).toArray:=by simp
 rw [ea]
 have hf:=I.hok.fresh (Nat.le_refl _)
 refine ⟨.ref s.heap.objs.size,_,I.laid (t':=s.toks) (o:=.lst (us++ws)) (fun b o e=>Heap.get?_push_of_some _ e) (Nat.le_refl _) ⟨by rw [List.length_append,d1.length,d2.length];exact hz,its++its2,0,r.append r2,Heap.get?_push_size _ rfl⟩,rfl,q _ _ (Same.new hf) ?_⟩
 exact .lst (SqL.of Aw) ((d1.append d2).mono (Same.new hf))
theorem LA {xs ys:List PyData} (hx:xs≠[]) (hz:xs.length + ys.length≤sizeLine):OD X (binaryOp .Add) (.tuple xs) (.tuple ys) (.tuple (xs++ys)):=
 op_catT.imp fun x y H Q ⟨h1,h2,q⟩=>by
  obtain ⟨l,us,rfl,hl,d1⟩:=h1.of_tup
  obtain ⟨m,ws,rfl,hm,d2⟩:=h2.of_tup
  refine ⟨l,m,us,ws,rfl,rfl,hl,hm,fun z=>hx ?_,by rw [d1.length,d2.length];exact hz,fun z=>?_,fun z p hp=>?_⟩
  ·subst z
   cases d1
   rfl
  ·subst z
   cases d2
   rw [List.append_nil] at q
   exact q _ H (Same.refl H) (.tup hl d1)
  ·exact q _ _ (Same.new hp) (.tup (SqT.of Aw) ((d1.append d2).mono (Same.new hp)))
def Di:PyData→Bool
 | .none=>true
 | .bool _=>true
 | .int _=>true
 | .str _=>true
 | _=>false
theorem DV.flat {K:PySem.W.Frag} {H:Hp} {v:V} {d:PyData} (h:DV K H v d) (f:Di d=true):Eb v=true:=by
 cases h <;> first | rfl | cases f
theorem DVs.flat {K:PySem.W.Frag} {H:Hp}:∀{vs:List V} {ds:List PyData},DVs K H vs ds→ds.all Di=true→vs.all Eb=true
 | _,_,.nil,_=>rfl
 | _,_,.cons h t,f=>by
   rw [List.all_cons,Bool.and_eq_true] at f ⊢
   exact ⟨h.flat f.1,DVs.flat t f.2⟩
theorem DV.eqV_eqv {K:PySem.W.Frag} {H:Hp} {v w:V} {d e:PyData} (h:DV K H v d) (h':DV K H w e) (f:Di d=true) (f':Di e=true):eqV v w=PyData.eqv d e:=by
 cases h <;> cases h' <;> first | rfl | (simp [Di] at f;done) | (simp [Di] at f';done)
theorem DVs.inV {K:PySem.W.Frag} {H:Hp} {v:V} {d:PyData} (h:DV K H v d) (f:Di d=true):∀{vs:List V} {ds:List PyData},DVs K H vs ds→ds.all Di=true→inV v vs=ds.any fun e=>PyData.eqv e d
 | _,_,.nil,_=>rfl
 | _,_,.cons h' t,fs=>by
   rw [List.all_cons,Bool.and_eq_true] at fs
   have ih:=DVs.inV h f t fs.2
   unfold L2.inV at ih ⊢
   rw [List.any_cons,List.any_cons,ih,h'.eqV_eqv h fs.1 f]
theorem JS {xs:List PyData} {k:Bool} (hs:db=.list xs∨db=.tuple xs) (f:Di da=true) (fs:xs.all Di=true) (hk:(xs.any fun e=>PyData.eqv e da)=k):OD X (compareOp .In) da db (.bool k):=
 op_in_seq.imp fun x y H Q ⟨h1,h2,q⟩=>by
  have z:∃p us,y=.ref p∧(SqL X.K H p us∨SqT X.K H p us)∧DVs X.K H us xs:=by
   rcases hs with rfl | rfl
   ·obtain ⟨l,us,e,hl,d1⟩:=h2.of_lst
    exact ⟨l,us,e,.inl hl,d1⟩
   ·obtain ⟨l,us,e,hl,d1⟩:=h2.of_tup
    exact ⟨l,us,e,.inr hl,d1⟩
  obtain ⟨p,us,e,hl,d1⟩:=z
  refine ⟨p,us,e,hl,h1.flat f,d1.flat fs,q _ H (Same.refl H) ?_⟩
  rw [if_neg (by simp),d1.inV h1 f fs,hk]
  exact .bl k
theorem JX {xs:List PyData} {k:Bool} (hs:db=.list xs∨db=.tuple xs) (f:Di da=true) (fs:xs.all Di=true) (hk:(!xs.any fun e=>PyData.eqv e da)=k):OD X (compareOp .NotIn) da db (.bool k):=
 op_notIn_seq.imp fun x y H Q ⟨h1,h2,q⟩=>by
  have z:∃p us,y=.ref p∧(SqL X.K H p us∨SqT X.K H p us)∧DVs X.K H us xs:=by
   rcases hs with rfl | rfl
   ·obtain ⟨l,us,e,hl,d1⟩:=h2.of_lst
    exact ⟨l,us,e,.inl hl,d1⟩
   ·obtain ⟨l,us,e,hl,d1⟩:=h2.of_tup
    exact ⟨l,us,e,.inr hl,d1⟩
  obtain ⟨p,us,e,hl,d1⟩:=z
  refine ⟨p,us,e,hl,h1.flat f,d1.flat fs,q _ H (Same.refl H) ?_⟩
  rw [if_pos rfl,d1.inV h1 f fs,hk]
  exact .bl k
def nonD:PyData→Bool
 | .none=>true
 | _=>false
theorem DV.isNon {K:PySem.W.Frag} {H:Hp} {v:V} {d:PyData} (h:DV K H v d):decide (v=.non)=nonD d:=by
 cases h <;> rfl
theorem Ad:AV X G [] []:=pa_nil.imp fun σ H Q ⟨h,q⟩=>q [] H (Same.refl H) .nil
theorem Aa {ds:List PyData} (h:EV X G e d) (hr:AV X G es ds) (hs:starEach (e::es) X.env=(false,eval e X.env)::starEach es X.env:=by rfl):AV X G (e::es) (d::ds):=
 (BD h hr hs).imp fun σ H Q ⟨h,q⟩=>⟨h,fun v H1 s1 d1=>⟨h.mono s1,fun vs H2 s2 d2=>q _ H2 (s1.trans s2) (.cons (d1.mono s2) d2)⟩⟩
theorem AG {x1} {ds:List PyData} (h:AV X G es ds) (hz:ds.length≤sizeLine):EV X G (.Tuple es x1 pos) (.tuple ds):=
 (NA h).imp fun σ H Q ⟨h,q⟩=>⟨h,fun vs H1 s1 d1=>⟨by rw [d1.length];exact hz,fun p hp=>q _ _ (s1.trans (Same.new hp)) (.tup (SqT.of Aw) (d1.mono (Same.new hp)))⟩⟩
theorem Ay {ds:List PyData} (h:AV X G es ds) (hz:ds.length≤sizeLine):EV X G (.List es pos) (.list ds):=
 (G5 h).imp fun σ H Q ⟨h,q⟩=>⟨h,fun vs H1 s1 d1=>⟨by rw [d1.length];exact hz,fun p hp=>q _ _ (s1.trans (Same.new hp)) (.lst (SqL.of Aw) (d1.mono (Same.new hp)))⟩⟩
theorem DVs.atI {K:PySem.W.Frag} {H:Hp} {vs:List V} {ds:List PyData} {i:Int} {d:PyData} (h:DVs K H vs ds) (e:atI ds i=some d):∃v,L2.atI vs i=some v∧DV K H v d:=by
 unfold L2.atI at e ⊢
 rw [h.length]
 cases q:ixN ds.length i with
 | none=>rw [q] at e;cases e
 | some j=>
   rw [q] at e
   exact h.get e
theorem Ao {ds:List PyData} {i:Int} (ha:EV X G a (.list ds)) (hb:EV X G b (.int i)) (he:atI ds i=some d) (hs:FY b:=by intro _ _;rfl):EV X G (.Subscript a b pos) d:=
 (No Pr ha hb hs).imp fun σ H Q ⟨h,q⟩=>HS h fun x y H' s' d1 d2=>by
  obtain ⟨l,us,rfl,hl,d3⟩:=d1.of_lst
  obtain ⟨v,e1,e2⟩:=d3.atI he
  exact ⟨l,us,i,v,rfl,d2.of_int,hl,e1,q v H' s' e2⟩
theorem Aq {ds:List PyData} {i:Int} (ha:EV X G a (.tuple ds)) (hb:EV X G b (.int i)) (he:atI ds i=some d) (hs:FY b:=by intro _ _;rfl):EV X G (.Subscript a b pos) d:=
 (No Qx ha hb hs).imp fun σ H Q ⟨h,q⟩=>HS h fun x y H' s' d1 d2=>by
  obtain ⟨l,us,rfl,hl,d3⟩:=d1.of_tup
  obtain ⟨v,e1,e2⟩:=d3.atI he
  exact ⟨l,us,i,v,rfl,d2.of_int,hl,e1,q v H' s' e2⟩
theorem GZ {i:Int} (ha:EV X G a (.int i)):EV X G (.UnaryOp .USub a pos) (.int (-i)):=
 (Su QB ha).imp fun σ H Q ⟨h,q⟩=>⟨h,fun v H' s' dv=>⟨i,dv.of_int,q _ H' s' (.int _)⟩⟩
def tDO (K:PySem.W.Frag) (G:Gam) (o:Option Int):TO:=fun σ H Q=>SD K H σ G∧∀H',Same H H'→Q o H'
abbrev OV (X:Cx) (G:Gam) (e:Option Expr) (o:Option Int):Prop:=PO X e (tDO X.K G o)
theorem F_:OV X G none none:=fun pins s σ H Q I ⟨h,q⟩=>Pa pins s σ H Q I (q H (Same.refl H))
theorem DT {i:Int} (h:EV X G e (.int i)):OV X G (some e) (some i):=fun pins s σ H Q I ⟨h1,q⟩=>OL h pins s σ H Q I ⟨h1,fun v H' s' dv=>⟨i,dv.of_int,q H' s'⟩⟩
def cutD (xs:List PyData) (lo hi:Option Int):List PyData:=(xs.drop (HT.sIx xs.length 0 lo)).take (HT.sIx xs.length xs.length hi - HT.sIx xs.length 0 lo)
theorem DVs.cut {K:PySem.W.Frag} {H:Hp} {vs:List V} {ds:List PyData} (h:DVs K H vs ds) (lo hi:Option Int):DVs K H (cutV vs lo hi) (cutD ds lo hi):=by
 unfold cutV cutD
 rw [h.length]
 exact (h.drop _).take _
theorem Ha {lo hi:Option Expr} {ol oh:Option Int} {p2:Pos} {ds:List PyData} (ha:EV X G a (.tuple ds)) (hl:OV X G lo ol) (hh:OV X G hi oh) (hw:¬(HT.sIx ds.length 0 ol=0∧HT.sIx ds.length ds.length oh=ds.length)):
  EV X G (.Subscript a (.Slice lo hi none p2) pos) (.tuple (cutD ds ol oh)):=
 (NW Ri ha hl hh).imp fun σ H Q ⟨h,q⟩=>⟨h,fun v H1 s1 d1=>⟨h.mono s1,fun H2 s2=>⟨(h.mono s1).mono s2,fun H3 s3=>by
  obtain ⟨l,us,rfl,hl,d3⟩:=((d1.mono s2).mono s3).of_tup
  exact ⟨l,us,rfl,hl,by rw [d3.length];exact hw,fun p hp=>q _ _ (((s1.trans s2).trans s3).trans (Same.new hp)) (.tup (SqT.of Aw) ((d3.cut ol oh).mono (Same.new hp)))⟩⟩⟩⟩
end
section
variable {κ:Type} [DecidableEq κ]
def valV (kvs:List (κ×V)) (k:κ):Option V:=(kvs.find? fun kv=>decide (kv.1=k)).map (·.2)
def putK (kvs:List (κ×V)) (k:κ) (v:V):List (κ×V):=
 if (kvs.any fun kv=>decide (kv.1=k))=true then kvs.map (fun kv=>if kv.1=k then (kv.1,v) else kv) else kvs++[(k,v)]
def SF (kvs:List (κ×V)) (k:κ):List (κ×V):=kvs.filter fun kv=>decide (kv.1≠k)
end
theorem R_ {P:Program} {w:World} {k:Key} {u:Value} (r:RelV (kV k) u):(BS P w).is k u=true:=by
 cases k with
 | inl i=>obtain ⟨t,e⟩:=(show ∃t,u=Value.int i t from r);subst e;exact Jg P w i t
 | inr x=>obtain ⟨t,e⟩:=(show ∃t,u=Value.str x t from r);subst e;exact J7 P w x t
theorem HM {P:Program} {w:World}:∀{ks:List Key} {us:List Value},Vals (ks.map kV) us→ItemsAre (BS P w) ks us
 | [],_,r=>by rw [List.map_nil] at r;cases r;exact .nil
 | k::ks,_,r=>by
   rw [List.map_cons] at r
   cases r with
   | cons h t=>exact .cons (R_ h) (HM t)
abbrev KT (H:Hp):List (List Key×V)→List (List Key×Addr×Value)→Prop:=Paired fun p q=>p.1=q.1∧H q.2.1=some (.tup (p.1.map kV))∧RelV p.2 q.2.2
section
variable {P:Program} {w:World} {H:Hp} {h:Heap} {a:Addr}
theorem PV {u:HO} (ok:HOk P w H h) (e:Rd H a u):ObjOk P w H h a u:=e.ok ok
theorem Qk {kvs:List (Key×V)} (ok:HOk P w H h) (e:Rd H a (.dK kvs)):kvs.length≤sizeLine∧(a==sysModules)=false∧∃vs,KV kvs vs∧h.DictOf (BS P w) a vs:=
 show ObjOk P w H h a (.dK kvs) from PV ok e
theorem QV {ks:List Key} (ok:HOk P w H h) (e:H a=some (.tup (ks.map kV))):(tupleKind (BS P w)).is h ks a:=by
 obtain ⟨_,⟨its,r,o,h1,h2,n,h3⟩,_⟩:=(show ObjOk P w H h a (.tup (ks.map kV)) from ok a _ e)
 exact ⟨o,its.toArray,n,h1,h2,h3,by simpa using HM r⟩
theorem S3 {kvs:List (List Key×V)} (ok:HOk P w H h) (e:Rd H a (.dT kvs)):kvs.length≤sizeLine∧(a==sysModules)=false∧
  ∃xs,KT H kvs xs∧h.DictOfH (tupleKind (BS P w)) a xs:=by
 obtain ⟨z,y,xs,r,o,es,ep,h1,h2,h3,h4,h5⟩:=(show ObjOk P w H h a (.dT kvs) from PV ok e)
 refine ⟨z,y,xs,r,o,es,ep,h1,h2,h3,h4,fun x hx=>?_,h5⟩
 have all:∀{l:List (List Key×V)} {m:List (List Key×Addr×Value)},KT H l m→∀x∈m,(tupleKind (BS P w)).is h x.1 x.2.1:=by
  intro l m q
  induction q with
  | nil=>intro x hx;exact nomatch hx
  | @cons p q ps qs hq t ih=>
    intro x hx
    rcases List.mem_cons.mp hx with e | hx
    ·subst e
     exact QV ok (by rw [←hq.1];exact hq.2.1)
    ·exact ih x hx
 exact all r x hx
end
def DGet (H:Hp) (a:Addr) (y:V) (r:Option V):Prop:=
 (∃kvs k,Rd H a (.dK kvs)∧y=kV k∧r=valV kvs k)∨∃kvs k b,Rd H a (.dT kvs)∧y=.ref b∧H b=some (.tup (k.map kV))∧r=valV kvs k
def DPut (H:Hp) (a:Addr) (y v:V) (H':Hp):Prop:=
 (∃kvs k,H a=some (.dK kvs)∧y=kV k∧kvs.length < sizeLine∧H'=upd H a (.dK (putK kvs k v)))∨
 ∃kvs k b,H a=some (.dT kvs)∧y=.ref b∧H b=some (.tup (k.map kV))∧kvs.length < sizeLine∧H'=upd H a (.dT (putK kvs k v))
section
variable {X:Cx} {pins:List (Addr×Obj)} {σ:St} {H:Hp} {s:Shared} {a:Addr} {y v:V} {u r:Value} {o:Option V} {A:Around} {E:Value→Shared→Prop}
end
section
variable {X:Cx} {pins:List (Addr×Obj)} {σ:St} {H:Hp} {s:Shared} {a:Addr} {kvs:List (Key×V)} {k:Key} {u:Value} {A:Around} {E:Value→Shared→Prop}
end
section
variable {X:Cx} {o i e value:Expr} {pos pos' tpos:Pos} {td ty tv:TE}
end
section
variable {X:Cx} {pos:Pos}
end
structure M1 (X:Cx) (o:Expr) (m:Str) (apos:Pos) (e:Expr) (cpos:Pos):Prop where
 base:attributeBase o m X.env (eval o X.env)=eval o X.env
 few:((backTo cpos (starEach [e] X.env)).all (fun x=>!x.1) && (backToKw cpos (keywordEach [] X.env)).all (fun x=>x.1.isSome)
  && decide (([e]:List Expr).length + ([]:List Keyword).length + (if ([]:List Keyword).isEmpty then 0 else 1) < 30))=true
 line:(apos.endLine==cpos.line)=true
 trees:backTo cpos (starEach [e] X.env)=[(false,eval e X.env)]
structure M2 (X:Cx) (o:Expr) (m:Str) (apos:Pos) (e f:Expr) (cpos:Pos):Prop where
 base:attributeBase o m X.env (eval o X.env)=eval o X.env
 few:((backTo cpos (starEach [e,f] X.env)).all (fun x=>!x.1) && (backToKw cpos (keywordEach [] X.env)).all (fun x=>x.1.isSome)
  && decide (([e,f]:List Expr).length + ([]:List Keyword).length + (if ([]:List Keyword).isEmpty then 0 else 1) < 30))=true
 line:(apos.endLine==cpos.line)=true
 trees:backTo cpos (starEach [e,f] X.env)=[(false,eval e X.env),(false,eval f X.env)]
def IsD (H:Hp) (a:Addr):Prop:=(∃kvs,Rd H a (.dK kvs))∨∃kvs,Rd H a (.dT kvs)
theorem Ru {X:Cx} {pins:List (Addr×Obj)} {σ:St} {H:Hp} {s:Shared} {a:Addr} (I:Inv X pins σ H s) (d:IsD H a):
  s.TypeIs (.ref a) "dict"∧(∀b,Value.ref a=.ref b→∃ob,s.heap.get? b=some ob∧ob.dict=none)∧(a==sysModules)=false:=by
 rcases d with ⟨kvs,e⟩ | ⟨kvs,e⟩
 ·obtain ⟨_,hd,vs,_,dd⟩:=Qk I.hok e
  refine ⟨dd.typeIs,fun b q=>?_,hd⟩
  cases q
  obtain ⟨ob,_,_,h1,h2,_⟩:=dd
  exact ⟨ob,h1,h2.2.1⟩
 ·obtain ⟨_,hd,xs,_,dd⟩:=S3 I.hok e
  refine ⟨dd.typeIs,fun b q=>?_,hd⟩
  cases q
  obtain ⟨ob,_,_,h1,h2,_⟩:=dd
  exact ⟨ob,h1,h2.2.1⟩
section
variable {X:Cx} {pins:List (Addr×Obj)} {σ:St} {H:Hp} {s:Shared} {a:Addr} {y d:V} {u r:Value} {o:Option V} {A:Around} {E:Value→Shared→Prop}
end
section
variable {X:Cx} {o e f:Expr} {apos cpos:Pos} {td ty tx:TE}
end
section
variable {X:Cx} {pins:List (Addr×Obj)} {σ:St} {H:Hp} {s:Shared} {a:Addr} {kvs:List (Key×V)} {A:Around} {E:Value→Shared→Prop}
end
section
variable {X:Cx} {pins:List (Addr×Obj)} {σ:St} {H:Hp} {s:Shared} {a:Addr} {y:V} {u:Value} {A:Around} {E:Value→Shared→Prop}
end
def rDA (K:PySem.W.Frag) (ds:List PyData) (d:PyData):List V→Hp→VK→Prop:=fun xs H Q=>DVs K H xs ds∧∀v H',Same H H'→DV K H' v d→Q v H'
abbrev CD (X:Cx) (f:Value) (ds:List PyData) (d:PyData):Prop:=CallR X f (rDA X.K ds d)
section
variable {X:Cx} {G:Gam} {a b c e:Expr} {es rest:List Expr} {pos p p2:Pos} {d da db dc:PyData} {ds:List PyData} {x:Str} {id T:String}
theorem Nw (hc:CD X (.builtin id) ds d) (hg:Gl X x) (hm:X.mg x=none) (hv:bootBuiltins x=some (.builtin id)) (ha:AV X G (e::es) ds) (hn:x≠"__name__":=by decide) (hdb:(x==("__debug__":Str))=false:=by decide)
  (he:starEach (e::es) X.env=(false,eval e X.env)::starEach es X.env:=by rfl) (hpl:(backTo pos (starEach es X.env)).any (·.1)=false:=by rfl):EV X G (.Call (.Name x p) (e::es) [] pos) d:=
 (JP hc hg hm hv ha hn hdb he hpl).imp fun σ H Q ⟨h,q⟩=>⟨h,fun vs H1 s1 d1=>⟨d1,fun v H2 s2 d2=>q v H2 (s1.trans s2) d2⟩⟩
theorem Mh (hc:CD X (.type T) ds d) (hg:Gl X x) (hm:X.mg x=none) (hv:bootBuiltins x=some (.type T)) (ha:AV X G (e::es) ds) (hn:x≠"__name__":=by decide) (hdb:(x==("__debug__":Str))=false:=by decide)
  (he:starEach (e::es) X.env=(false,eval e X.env)::starEach es X.env:=by rfl) (hpl:(backTo pos (starEach es X.env)).any (·.1)=false:=by rfl):EV X G (.Call (.Name x p) (e::es) [] pos) d:=
 (HY hc hg hm hv ha hn hdb he hpl).imp fun σ H Q ⟨h,q⟩=>⟨h,fun vs H1 s1 d1=>⟨d1,fun v H2 s2 d2=>q v H2 (s1.trans s2) d2⟩⟩
theorem DVs.one {K:PySem.W.Frag} {H:Hp} {vs:List V} (h:DVs K H vs [d]):∃v,vs=[v]∧DV K H v d:=by
 cases h with
 | cons h t=>cases t;exact ⟨_,rfl,h⟩
theorem DVs.two {K:PySem.W.Frag} {H:Hp} {vs:List V} (h:DVs K H vs [da,db]):∃v w,vs=[v,w]∧DV K H v da∧DV K H w db:=by
 cases h with
 | cons h t=>
   obtain ⟨w,rfl,h2⟩:=t.one
   exact ⟨_,w,rfl,h,h2⟩
theorem Gm:CD X (.builtin "len") [.list ds] (.int ds.length):=call_len_seq.imp fun xs H Q ⟨h,q⟩=>by
 obtain ⟨v,rfl,dv⟩:=h.one
 obtain ⟨l,us,rfl,hl,d1⟩:=dv.of_lst
 exact ⟨l,us,rfl,.inl hl,q _ H (Same.refl H) (by rw [d1.length];exact .int _)⟩
theorem Gn:CD X (.builtin "len") [.tuple ds] (.int ds.length):=call_len_seq.imp fun xs H Q ⟨h,q⟩=>by
 obtain ⟨v,rfl,dv⟩:=h.one
 obtain ⟨l,us,rfl,hl,d1⟩:=dv.of_tup
 exact ⟨l,us,rfl,.inr hl,q _ H (Same.refl H) (by rw [d1.length];exact .int _)⟩
theorem Lh {z:Str} (hz:z.length≤sizeLine):CD X (.builtin "len") [.str z] (.int z.length):=call_len_str.imp fun xs H Q ⟨h,q⟩=>by
 obtain ⟨v,rfl,dv⟩:=h.one
 exact ⟨z,by rw [dv.of_str],hz,q _ H (Same.refl H) (.int _)⟩
theorem CN:CD X (.type "tuple") [.list ds] (.tuple ds):=call_tuple_of.imp fun xs H Q ⟨h,q⟩=>by
 obtain ⟨v,rfl,dv⟩:=h.one
 obtain ⟨l,us,rfl,hl,d1⟩:=dv.of_lst
 exact ⟨l,us,rfl,.inl ⟨hl,fun p hp=>q _ _ (Same.new hp) (.tup (SqT.of Aw) (d1.mono (Same.new hp)))⟩⟩
theorem MX:CD X (.type "list") [.list ds] (.list ds):=call_list_of.imp fun xs H Q ⟨h,q⟩=>by
 obtain ⟨v,rfl,dv⟩:=h.one
 obtain ⟨l,us,rfl,hl,d1⟩:=dv.of_lst
 exact ⟨l,us,rfl,.inl hl,fun p hp=>q _ _ (Same.new hp) (.lst (SqL.of Aw) (d1.mono (Same.new hp)))⟩
theorem MT:CD X (.type "list") [.tuple ds] (.list ds):=call_list_of.imp fun xs H Q ⟨h,q⟩=>by
 obtain ⟨v,rfl,dv⟩:=h.one
 obtain ⟨l,us,rfl,hl,d1⟩:=dv.of_tup
 exact ⟨l,us,rfl,.inr hl,fun p hp=>q _ _ (Same.new hp) (.lst (SqL.of Aw) (d1.mono (Same.new hp)))⟩
theorem IZ {k:Bool}:CD X (.type "int") [.bool k] (.int (if k then 1 else 0)):=call_int1.imp fun xs H Q ⟨h,q⟩=>by
 obtain ⟨v,rfl,dv⟩:=h.one
 exact .inr ⟨k,by rw [dv.of_bl],q _ H (Same.refl H) (.int _)⟩
theorem Rx {i j:Int} (hc:X.calm=true):CD X (.builtin "max") [.int i,.int j] (.int (if j > i then j else i)):=(MC hc).imp fun xs H Q ⟨h,q⟩=>by
 obtain ⟨v,w,rfl,dv,dw⟩:=h.two
 exact ⟨i,j,by rw [dv.of_int,dw.of_int],q _ H (Same.refl H) (.int _)⟩
theorem Iu (bs:List Bool):(List.range bs.length).all (fun i=>bs.getD i false)=bs.all (fun z=>z):=by
 rw [Bool.eq_iff_iff,List.all_eq_true,List.all_eq_true]
 constructor
 ·intro h x hx
  obtain ⟨i,hi,e⟩:=List.mem_iff_getElem.mp hx
  have:=h i (List.mem_range.mpr hi)
  simp only [List.getD_eq_getElem?_getD,List.getElem?_eq_getElem hi,Option.getD_some] at this
  rw [←e]
  exact this
 ·intro h i hi
  have hi:=List.mem_range.mp hi
  simp only [List.getD_eq_getElem?_getD,List.getElem?_eq_getElem hi,Option.getD_some]
  exact h _ (List.getElem_mem hi)
theorem GM (hc:X.calm=true) {bs:List Bool}:CD X (.builtin "all") [.list (bs.map PyData.bool)] (.bool (bs.all fun z=>z)):=by
 intro pins s σ H xs us Q I rs ⟨h,q⟩
 obtain ⟨v,rfl,dv⟩:=h.one
 obtain ⟨l,vs,rfl,hl,d1⟩:=dv.of_lst
 obtain ⟨u,rfl,ru⟩:=vals1 rs
 cases ru
 have e1:=d1.of_bools
 subst e1
 obtain ⟨its,r,pl,hz⟩:=I.list hl
 have hlt:l < s.heap.objs.size:=by
  obtain ⟨o,ho,_⟩:=pl.isList
  exact Heap.lt_size ho
 have hh:X.A.in1.handled=none:=I.ok.hd hc
 have hlen:its.toArray.size=bs.length:=by rw [List.size_toArray,←r.length,List.length_map]
 refine call_all_walk (wpAny_pyIter_list pl.isList ⟨s.heap.objs.size,_,_,its.toArray.size,_,_,fun i=>bs.getD i false,rfl,Walks.list hh s.heap.objs.size l (Nat.ne_of_lt hlt) its.toArray,
  ⟨⟨_,Heap.get?_push_size _ rfl,rfl,rfl⟩,let ⟨o,e,r⟩:=pl.isList;⟨o,Heap.get?_push_of_some _ e,r⟩⟩,fun i v s2 Q2 E2 hP hQ=>?_,fun h' tk hk=>?_⟩)
 ·have hP:its.toArray[i]?=some v:=hP
  have hP:its[i]?=some v:=by simpa using hP
  have hi:i < bs.length:=by
   have:=(List.getElem?_eq_some_iff.mp hP).1
   rw [←r.length,List.length_map] at this
   exact this
  have hb:(bs.map V.bl)[i]?=some (V.bl bs[i]):=by simp [hi]
  obtain ⟨u,e2,r2⟩:=r.get hb
  rw [hP] at e2
  cases e2
  cases r2
  refine wpAny_truthy_bool ?_
  have:bs.getD i false=bs[i]:=by simp [List.getD_eq_getElem?_getD,hi]
  exact this ▸ hQ
 ·rw [hlen,Iu]
  have I1:Inv X pins σ H {s with heap:=h',toks:=tk}:=I.kept fun b o e=>hk b o (by
   intro z
   have z:b=s.heap.objs.size:=by simpa using z
   exact absurd (Heap.lt_size e) (by rw [z];exact Nat.lt_irrefl _)) (Heap.get?_push_of_some _ e)
  exact ⟨.bl _,H,I1,rfl,q _ H (Same.refl H) (.bl _)⟩
theorem K3 (hc:X.calm=true) {ns:List Int}:CD X (.builtin "sum") [.list (ns.map PyData.int)] (.int ns.sum):=by
 intro pins s σ H xs us Q I rs ⟨h,q⟩
 obtain ⟨v,rfl,dv⟩:=h.one
 obtain ⟨l,vs,rfl,hl,d1⟩:=dv.of_lst
 obtain ⟨u,rfl,ru⟩:=vals1 rs
 cases ru
 have e1:=d1.of_ints
 subst e1
 obtain ⟨its,r,pl,hz⟩:=I.list hl
 have hi:IntsAre its ns:=intsAre_of r
 obtain ⟨ys,ey⟩:=(hi.allInts:AllInts its.toArray).items
 have hh:X.A.handled=none:=I.ok.hd hc
 have hl':s.heap.IsList l (intItems ys):=ey ▸ pl.isList
 refine sum_intListG hh hl' fun h' tk t' hk=>?_
 have I1:Inv X pins σ H {s with heap:=h',toks:=tk}:=I.kept hk
 have en:ns=numsOf its:=hi.numsOf.symm
 have es:preSum (numAt ys) ys.size=ns.sum:=by
  rw [preSum_eq,List.take_of_length_le (by simp),en,←nums_intItems ys]
  congr 2
  have:=congrArg Array.toList ey
  simpa using this.symm
 rw [es]
 exact ⟨.int _,H,I1,⟨_,rfl⟩,q _ H (Same.refl H) (.int _)⟩
def tyD:PyData→Value
 | .none=>.type "NoneType"
 | .bool _=>.type "bool"
 | .int _=>.type "int"
 | .str _=>.type "str"
 | .list _=>.type "list"
 | .tuple _=>.type "tuple"
 | .dict es=>match excC es with
   | some C=>.ref C
   | none=>.type "dict"
def IC (K:PySem.W.Frag) (C:Addr):Prop:=∀(a:Addr) (φ:Heap→Prop),(∀h,φ h→∃o,h.get? a=some o∧o.cls=.ref C)→PySem.W.KitX K (.ref a) (.ref C) φ
theorem NL {pins:List (Addr×Obj)} {σ:St} {H:Hp} {s:Shared} {A:Around} {E:Value→Shared→Prop} {Q:Value→Shared→Prop} {c:Value} {k:Bool} {v:V} {u:Value} (I:Inv X pins σ H s) (h:DV X.K H v d) (rv:RelV v u)
  (e:PySem.W.kitOne X.K (tyD d) c=some k) (hq:∀tk,Q (.bool k) {s with toks:=tk}) (hX:∀C,d=excD C→IC X.K C:=by intro _ z;cases z) (hX2:∀C n,d=Qd C n→IC X.K C:=by intro _ _ z;first | cases z | (unfold excD at z;cases z)) (hO:O3 d=false:=by first | rfl | assumption):wpAny (model X.prog X.w) A (call (.builtin "isinstance") [u,c]) Q E s:=by
 cases h with
 | non=>exact DS I rv .non e hq
 | bl b=>exact DS I rv (.bl b) e hq
 | int i=>exact DS I rv (.int i) e hq
 | str x=>exact DS I rv (.str x) e hq
 | @tup a xs ds h t=>
   cases rv
   obtain ⟨its,_,⟨o,h1,h2,_⟩,_⟩:=I.tuple h
   exact PySem.W.kia_one PySem.W.kitx_tuple I.kIn ⟨o,h1,h2⟩ e (fun z=>nomatch z) hq
 | @lst a xs ds h t=>
   cases rv
   obtain ⟨its,_,pl,_⟩:=I.list h
   obtain ⟨o,h1,h2,_⟩:=pl.isList
   exact PySem.W.kia_one PySem.W.kitx_list I.kIn ⟨o,h1,h2⟩ e (fun z=>nomatch z) hq
 | @dct a kvs es h t=>
   cases rv
   have e':PySem.W.kitOne X.K (.type "dict") c=some k:=by
    have z:tyD (.dict es)=(match excC es with | some C=>Value.ref C | none=>.type "dict"):=rfl
    rw [z,Jn t] at e
    exact e
   exact PySem.W.kia_one PySem.W.kitx_dict I.kIn (Ru I (.inl ⟨kvs,.inl h⟩)).1 e' (fun z=>nomatch z) hq
 | @exc a C h=>
   cases rv
   have e':PySem.W.kitOne X.K (.ref C) c=some k:=e
   exact PySem.W.kia_one (hX C rfl a _ fun h p=>let ⟨o,_,h1,h2,_⟩:=p;⟨o,h1,h2⟩) I.kIn (I.hok a _ h).1 e' (fun z=>nomatch z) hq
 | @exr a C dx n h h'=>
   cases rv
   have e':PySem.W.kitOne X.K (.ref C) c=some k:=e
   exact PySem.W.kia_one (hX2 C n rfl a _ fun h p=>let ⟨o,_,h1,h2,_⟩:=p;⟨o,h1,h2⟩) I.kIn (I.hok a _ h).1 e' (fun z=>nomatch z) hq
 | obj h n t=>cases hO
 | dtt h=>unfold ppE O3 at hO;cases hO
theorem B9 {k:Bool} {n:String} {x1:Str} (ha:EV X G a da) (hg:Gl X "isinstance") (hm:X.mg "isinstance"=none) (hg1:Gl X x1) (hm1:X.mg x1=none) (hv1:bootBuiltins x1=some (.type n)) (e:PySem.W.kitOne X.K (tyD da) (.type n)=some k)
  (hX:∀C,da=excD C→IC X.K C:=by intro _ z;cases z) (hX2:∀C n,da=Qd C n→IC X.K C:=by intro _ _ z;first | cases z | (unfold excD at z;cases z)) (hO:O3 da=false:=by first | rfl | assumption) (hn:x1≠"__name__":=by decide) (hd1:(x1==("__debug__":Str))=false:=by decide) (hv:bootBuiltins "isinstance"=some (.builtin "isinstance"):=by decide +kernel)
  (he:starEach [a,.Name x1 p2] X.env=(false,eval a X.env)::starEach [.Name x1 p2] X.env:=by rfl) (he2:starEach [.Name x1 p2] X.env=(false,eval (.Name x1 p2) X.env)::starEach [] X.env:=by rfl)
  (hpl:(backTo pos (starEach [.Name x1 p2] X.env)).any (·.1)=false:=by rfl):
  EV X G (.Call (.Name "isinstance" p) [a,.Name x1 p2] [] pos) (.bool k):=by
 have cr:CallR X (.builtin "isinstance") (fun xs H Q=>∃v,xs=[v,.ty n]∧DV X.K H v da∧Q (.bl k) H):=by
  intro pins s σ H xs us Q I rs ⟨v,ex,dv,q⟩
  subst ex
  obtain ⟨u,w,rfl,ru,rw'⟩:=vals2 rs
  cases rw'
  exact NL I dv ru e (fun tk=>⟨.bl k,H,I.tok tk,rfl,q⟩) hX hX2 hO
 refine (JP cr hg hm hv (BD ha (BD (PK (v:=.ty n) hg1 hm1 hv1 rfl hn hd1) pa_nil he2) he) (by decide) (by decide) he hpl).imp fun σ H Q ⟨h,q⟩=>⟨h,fun v H1 s1 d1=>⟨v,rfl,d1,q _ H1 s1 (.bl k)⟩⟩
def spD (K:PySem.W.Frag) (F:List PyData→PyData→Prop):Sp:=fun vs H Q _=>∃ds d,DVs K H vs ds∧F ds d∧∀v H',Same H H'→DV K H' v d→Q v H'
def DFn (P:Program) (w:World) (K:PySem.W.Frag) (mg:Str→Option Value) (base:Heap) (k:Nat) (x:Str) (F:List PyData→PyData→Prop):Prop:=
 ∃f fd ps,FnOk P w K mg base CX0 k f fd ps (spD K F)∧mg x=some (.ref f)∧PySem.W.keepIn K (.ref f)=true∧Binds K fd ps []
theorem An {k:Nat} {F:List PyData→PyData→Prop} (D:DFn X.prog X.w X.K X.mg X.base k x F) (hr:Room k X.A) (hg:Gl X x) (ha:AV X G (e::es) ds) (hF:F ds d) (hdb:(x==("__debug__":Str))=false:=by decide)
  (he:starEach (e::es) X.env=(false,eval e X.env)::starEach es X.env:=by rfl) (hpl:(backTo pos (starEach es X.env)).any (·.1)=false:=by rfl):EV X G (.Call (.Name x p) (e::es) [] pos) d:=by
 obtain ⟨f,fd,ps,ok,hm,hk,hb⟩:=D
 refine (DW ok hr hg hm hk hb .nil CK ha hdb he hpl).imp fun σ H Q ⟨h,q⟩=>⟨h,fun vs H1 s1 d1=>?_⟩
 show spD X.K F (vs++[]) H1 Q E0
 rw [List.append_nil]
 exact ⟨ds,d,d1,hF,fun v H2 s2 d2=>q v H2 (s1.trans s2) d2⟩
theorem CJ {i:Int} {t:Tok} (hg:Gl X x) (hm:X.mg x=some (.int i t)) (hd:(x==("__debug__":Str))=false:=by decide):EV X G (.Name x pos) (.int i):=
 (Id (v:=.int i) hg hm ⟨t,rfl⟩ hd).imp fun σ H Q ⟨h,q⟩=>q _ H (Same.refl H) (.int i)
theorem Af:SVs X G [] (.next G):=pss_nil.imp fun D σ H ⟨h,q⟩=>q σ H (Same.refl H) h
theorem Ac {st:Stmt} {sts:List Stmt} {G1:Gam} {o:Out} (h1:SV X G st (.next G1)) (h2:SVs X G1 sts o):SVs X G (st::sts) o:=
 (A7 h1 h2).imp fun D σ H ⟨h,q⟩=>⟨h,fun σ' H' s' h'=>⟨h',by
  cases o with
  | next G2=>exact fun σ2 H2 s2 h2=>q σ2 H2 (s'.trans s2) h2
  | ret d=>exact fun v H2 s2 h2=>q v H2 (s'.trans s2) h2⟩⟩
theorem Ag {st:Stmt} {sts:List Stmt} (h1:SV X G st (.ret d)):SVs X G (st::sts) (.ret d):=by
 intro pins s σ H D I ⟨h,q⟩
 have z:PSs X (st::sts) (fun D σ H=>tDS X.K G (.ret d) D σ H):=by
  refine (A7 (t:=fun D σ H=>tDS X.K G (.ret d) D σ H) (u:=O8) h1 Bd).imp fun D σ H ⟨h,q⟩=>⟨h,q⟩
 exact z pins s σ H D I ⟨h,q⟩
theorem Ar (h:EV X G e d):SV X G (.Return (some e) pos) (.ret d):=(Fl h).imp fun D σ H ⟨h,q⟩=>⟨h,q⟩
theorem A2 {i:Nat} (hN:X.N.Nodup) (hi:X.N[i]?=some x) (hx:Loc X.env.scope x) (h:EV X G e d) (hs:swapsWith e (some (.Name x p)) pos.line X.env=pure false:=by rfl)
  (hf:X.fn x=true∨X.env.scope.names.lookup x=some .local:=by first | exact .inl rfl | exact .inr rfl | assumption):SV X G (.Assign [.Name x p] e pos) (.next (G.set i (some d))):=
 (Cw hN hi hx h hs hf).imp fun D σ H ⟨h,q⟩=>⟨h,fun v H1 s1 d1=>q _ H1 s1 ((h.mono s1).set d1)⟩
theorem Am {k:Bool} {A B:List Stmt} {o:Out} (hc:TV X G c k) (h1:k=true→SVs X G A o) (h2:k=false→SVs X G B o):SV X G (.If c A B pos) o:=by
 have hA:PSs X A (fun D σ H=>k=true∧tDS X.K G o D σ H):=fun pins s σ H D I ⟨e,q⟩=>h1 e pins s σ H D I q
 have hB:PSs X B (fun D σ H=>k=false∧tDS X.K G o D σ H):=fun pins s σ H D I ⟨e,q⟩=>h2 e pins s σ H D I q
 refine (FB hc hA hB).imp fun D σ H ⟨h,q⟩=>⟨h,fun H1 s1=>?_⟩
 have fin:tDS X.K G o D σ H1:=⟨h.mono s1,by
  cases o with
  | next G2=>exact fun σ2 H2 s2 h2=>q σ2 H2 (s1.trans s2) h2
  | ret d=>exact fun v H2 s2 h2=>q v H2 (s1.trans s2) h2⟩
 cases k with
 | true=>exact iteT ⟨rfl,fin⟩
 | false=>exact iteF ⟨rfl,fin⟩
theorem Ek {sts:List Stmt} {G1 G2:Gam} (h:SVs X G sts (.next G1)) (hl:G2.length=G1.length) (hw:∀(i:Nat) d,G2[i]?=some (some d)→G1[i]?=some (some d)):SVs X G sts (.next G2):=
 h.imp fun D σ H ⟨h,q⟩=>⟨h,fun σ' H' s' h'=>q σ' H' s' (h'.forget hl hw)⟩
structure ItD (K:PySem.W.Frag) (J:It) (ds:List PyData) (H0:Hp):Prop where
 go:∀i H,Same H0 H→i < ds.length→J.go i H
 yld:∀i H v H',Same H0 H→i < ds.length→J.yld i H v H'→Same H H'∧∃d,ds[i]?=some d∧DV K H' v d
 stop:∀i H,Same H0 H→ds.length≤i→J.stop i H
def tDI (K:PySem.W.Frag) (G:Gam) (ds:List PyData):TI:=fun σ H R=>SD K H σ G∧∀J H',Same H H'→ItD K J ds H'→R J H'
abbrev IV (X:Cx) (G:Gam) (tg iter:Expr) (ds:List PyData):Prop:=PI X tg iter (tDI X.K G ds)
theorem PI.imp {tg:Expr} {t t':TI} (h:PI X tg e t) (m:∀σ H R,t' σ H R→t σ H R):PI X tg e t':=fun pins s σ H R I q=>h pins s σ H R I (m σ H R q)
theorem Ij {tg:Expr} (h:EV X G e (.list ds)):IV X G tg e ds:=(Pt h).imp fun σ H R ⟨h,q⟩=>⟨h,fun v H1 s1 d1=>by
 obtain ⟨l,us,rfl,hl,d2⟩:=d1.of_lst
 refine ⟨l,rfl,⟨us,hl⟩,q _ H1 s1 ⟨fun i H2 s2 hi=>?_,fun i H2 v H3 s2 _ ⟨e,y⟩=>?_,fun i H2 s2 hi=>⟨us,s2.seq hl,by rw [d2.length];exact hi⟩⟩⟩
 ·obtain ⟨v,e,_⟩:=d2.get (i:=i) (d:=ds[i]) (by simp [hi])
  exact ⟨us,v,s2.seq hl,e⟩
 ·subst e
  obtain ⟨d,e1,e2⟩:=d2.get' (y us (s2.seq hl))
  exact ⟨Same.refl _,d,e1,e2.mono s2⟩⟩
theorem BW {tg:Expr} (h:EV X G e (.tuple ds)):IV X G tg e ds:=(Q1 h).imp fun σ H R ⟨h,q⟩=>⟨h,fun v H1 s1 d1=>by
 obtain ⟨l,us,rfl,hl,d2⟩:=d1.of_tup
 refine ⟨l,rfl,⟨us,hl⟩,q _ H1 s1 ⟨fun i H2 s2 hi=>?_,fun i H2 v H3 s2 _ ⟨e,y⟩=>?_,fun i H2 s2 hi=>⟨us,s2.seqT hl,by rw [d2.length];exact hi⟩⟩⟩
 ·obtain ⟨v,e,_⟩:=d2.get (i:=i) (d:=ds[i]) (by simp [hi])
  exact ⟨us,v,s2.seqT hl,e⟩
 ·subst e
  obtain ⟨d,e1,e2⟩:=d2.get' (y us (s2.seqT hl))
  exact ⟨Same.refl _,d,e1,e2.mono s2⟩⟩
abbrev Es (lo:Int) (n:Nat):List PyData:=(List.range n).map fun (i:Nat)=>PyData.int (lo + (i:Int))
theorem Ez {lo:Int} {n:Nat}:(Es lo n).length=n:=by simp [Es]
theorem Kp {lo:Int} {n i:Nat} (h:i < n):(Es lo n)[i]?=some (.int (lo + (i:Int))):=by simp [Es,h]
theorem Ht {K:PySem.W.Frag} {lo:Int} {n:Nat} {H:Hp}:ItD K (Itr lo n) (Es lo n) H where
 go:=fun i H s h=>by rw [Ez] at h;exact h
 yld:=fun i H v H' s h ⟨e,y⟩=>by
  rw [Ez] at h
  subst e y
  exact ⟨Same.refl _,_,Kp h,.int _⟩
 stop:=fun i H s h=>by rw [Ez] at h;exact h
theorem Fu {tg:Expr} {n:Int} (ha:EV X G a (.int n)) (h1:-(2 ^ 62)≤n) (h2:n < 2 ^ 62) (hg:Gl X "range") (hm:X.mg "range"=none) (hs:starEach [a] X.env=[(false,eval a X.env)]:=by rfl):
  IV X G tg (.Call (.Name "range" p) [a] [] pos) (Es 0 n.toNat):=
 (Ff hg hm (Aa ha Ad hs) hs).imp fun σ H R ⟨h,q⟩=>⟨h,fun vs H1 s1 d1=>by
  obtain ⟨v,rfl,dv⟩:=d1.one
  exact ⟨n,by rw [dv.of_int],h1,h2,q _ H1 s1 Ht⟩⟩
theorem Mz {tg:Expr} {m n:Int} (ha:EV X G a (.int m)) (hb:EV X G b (.int n)) (h0:-(2 ^ 62)≤m∧m < 2 ^ 62∧-(2 ^ 62)≤n∧n < 2 ^ 62) (hg:Gl X "range") (hm:X.mg "range"=none)
  (hs:starEach [a,b] X.env=[(false,eval a X.env),(false,eval b X.env)]:=by rfl) (hs2:starEach [b] X.env=[(false,eval b X.env)]:=by rfl):
  IV X G tg (.Call (.Name "range" p) [a,b] [] pos) (Es m (n - m).toNat):=
 (Mb hg hm (Aa ha (Aa hb Ad hs2) (by rw [hs,hs2])) hs hs2).imp fun σ H R ⟨h,q⟩=>⟨h,fun vs H1 s1 d1=>by
  obtain ⟨v,w,rfl,dv,dw⟩:=d1.two
  exact ⟨m,n,by rw [dv.of_int,dw.of_int],h0,q _ H1 s1 Ht⟩⟩
end
def outG (ix:List Nat) (G:Gam):Gam:=ix.map fun i=>(G[i]?).getD none
theorem SD.comp {K:PySem.W.Frag} {H:Hp} {σ:St} {G:Gam} (h:SD K H σ G) (k:Nat) (ix:List Nat):SD K H (List.replicate k none++outS ix σ) (List.replicate k none++outG ix G):=by
 refine ⟨by simp [outS,outG],fun i d e=>?_⟩
 rcases Nat.lt_or_ge i k with hi | hi
 ·rw [List.getElem?_append_left (by simpa using hi),List.getElem?_replicate,if_pos hi] at e
  cases e
 ·rw [List.getElem?_append_right (by simpa using hi),List.length_replicate] at e ⊢
  unfold outG at e
  unfold outS
  rw [List.getElem?_map] at e ⊢
  cases q:ix[i - k]? with
  | none=>rw [q] at e;cases e
  | some j=>
    rw [q] at e
    have e:(G[j]?).getD none=some d:=Option.some.inj e
    have e':G[j]?=some (some d):=by
     cases z:G[j]? with
     | none=>rw [z] at e;cases e
     | some w=>rw [z] at e;have e:w=some d:=e;rw [e]
    obtain ⟨v,a,b⟩:=h.2 j d e'
    exact ⟨v,by rw [Option.map_some,a];rfl,b⟩
section
variable {X:Cx} {G:Gam} {elt target iter:Expr} {ifs:List Expr} {scope:Scope} {pos:Pos} {N:List Str} {ix:List Nat} {ds:List PyData}
theorem PE.ex {ι:Type} {e:Expr} {t:ι→TE} {p:ι→Prop} (h:∀i,p i→PE X e (t i)):PE X e (fun σ H Q=>∃i,p i∧t i σ H Q):=fun pins s σ H Q I ⟨i,hi,q⟩=>h i hi pins s σ H Q I q
theorem PF.ex {ι:Type} {es:List Expr} {t:ι→TT} {p:ι→Prop} (h:∀i,p i→PF X es (t i)):PF X es (fun σ H Q=>∃i,p i∧t i σ H Q):=fun pins s σ H Q I ⟨i,hi,q⟩=>h i hi pins s σ H Q I q
theorem BU:PF X [] (tDT X.K G true):=fun pins s σ H Q I ⟨h,q⟩=>R4 pins s σ H Q I (q H (Same.refl H))
theorem Sk {c:Expr} {k:Bool} (h:TV X G c k):PF X [c] (tDT X.K G k):=QX h
structure BindD (K:PySem.W.Frag) (k:Nat) (g:TG) (B:PyData→Gam→Gam) (d:PyData):Prop where
 to:∀(v:V) σ H G (Q:St→Hp→Prop),SD K H σ G→DV K H v d→(∀σ2,SD K H σ2 (B d G)→Q σ2 H)→g v σ H Q
def bind1 (d:PyData) (G:Gam):Gam:=G.set 0 (some d)
def JZ (d:PyData) (G:Gam):Gam:=match d with
 | .tuple [a,b]=>(G.set 0 (some a)).set 1 (some b)
 | _=>G
theorem BF {K:PySem.W.Frag} (d:PyData):BindD K 1 (C2 0) bind1 d:=⟨fun v σ H G Q h dv q=>q _ (h.set dv)⟩
theorem IO {K:PySem.W.Frag} (a b:PyData):BindD K 2 (gTup K 2 (J9 (C2 0) (J9 (C2 1) gNil))) JZ (.tuple [a,b]):=⟨fun v σ H G Q h dv q=>by
 obtain ⟨l,us,rfl,hl,d1⟩:=dv.of_tup
 obtain ⟨x,y,rfl,dx,dy⟩:=d1.two
 exact ⟨l,[x,y],rfl,hl,rfl,x,[y],rfl,y,[],rfl,rfl,q _ ((h.set dx).set dy)⟩⟩
theorem FX {α:Type} {as:List α} {D:α→PyData} {k:Nat} {g:TG} {B:PyData→Gam→Gam} {σ:St} {J:It} {H1:Hp} {Q:List V→Hp→Prop} (K:PySem.W.Frag) (Pd:α→Bool) (F:α→PyData) (hz:as.length≤sizeLine) (og:OwnG k g)
  (hb:∀a∈as,BindD K k g B (D a)) (hσ:SD K H1 σ G) (hJ:ItD K J (as.map D) H1) (q:∀ys H',Same H1 H'→DVs K H' ys ((as.filter Pd).map F)→Q ys H'):
  LE k ix g (fun σ H Q=>∃a,a∈as∧tDT K (B (D a) (List.replicate k none++outG ix G)) (Pd a) σ H Q) (fun σ H Q=>∃a,(a∈as∧Pd a=true)∧tD K (B (D a) (List.replicate k none++outG ix G)) (F a) σ H Q) σ J H1 Q:=by
 refine ⟨fun i m ys H=>i≤as.length∧m=as.length - i∧Same H1 H∧DVs K H ys (((as.take i).filter Pd).map F),⟨_,Nat.zero_le _,rfl,Same.refl _,.nil⟩,?_⟩
 rintro i m ys H ⟨hi,rfl,sm,dy⟩
 have hyl:ys.length≤as.length:=by
  rw [dy.length,List.length_map]
  refine Nat.le_trans (List.length_filter_le _ _) ?_
  rw [List.length_take]
  omega
 refine ⟨Nat.le_trans hyl hz,?_⟩
 by_cases hlt:i < as.length
 ·refine .inr ⟨hJ.go i H sm (by rw [List.length_map];exact hlt),fun v H' y=>?_⟩
  obtain ⟨s2,d,ed,dv⟩:=hJ.yld i H v H' sm (by rw [List.length_map];exact hlt) y
  have ea:as[i]?=some as[i]:=List.getElem?_eq_getElem hlt
  have ed':d=D as[i]:=by
   rw [List.getElem?_map,ea] at ed
   exact (Option.some.inj ed).symm
  subst ed'
  have hd:as[i]∈as:=List.getElem_mem hlt
  have tk:(as.take (i + 1)).filter Pd=(as.take i).filter Pd++(if Pd as[i] then [as[i]] else []):=take_succ_filter Pd as i as[i] ea
  refine (hb _ hd).to v _ H' _ _ (((hσ.mono sm).mono s2).comp k ix) dv fun σ2 h2=>⟨as[i],hd,h2,fun H3 s3=>?_⟩
  cases hp:Pd as[i] with
  | true=>
    refine iteT ⟨as[i],⟨hd,hp⟩,h2.mono s3,fun w H4 s4 dw=>⟨as.length - (i + 1),by omega,hlt,rfl,((sm.trans s2).trans s3).trans s4,?_⟩⟩
    rw [tk,hp,if_pos rfl,List.map_append]
    exact (((dy.mono s2).mono s3).mono s4).append (.cons dw .nil)
  | false=>
    refine iteF ⟨as.length - (i + 1),by omega,hlt,rfl,(sm.trans s2).trans s3,?_⟩
    rw [tk,hp,if_neg Bool.false_ne_true,List.append_nil]
    exact (dy.mono s2).mono s3
 ·have e:i=as.length:=by omega
  subst e
  rw [List.take_length] at dy
  exact .inl ⟨hJ.stop _ H sm (by rw [List.length_map];exact Nat.le_refl _),q ys H sm dy⟩
theorem Bi {α:Type} {as:List α} {D:α→PyData} {k:Nat} {g:TG} {B:PyData→Gam→Gam} (Pd:α→Bool) (F:α→PyData) (hcalm:X.calm=true) (hc:Cj X.env.scope X.N k ix N scope) (og:OwnG k g) (hi:IV X G target iter (as.map D)) (hz:as.length≤sizeLine)
  (hb:∀a∈as,BindD X.K k g B (D a)) (hg:∀cl C s H fp,PG (AH X scope cl C N s H fp) target g)
  (ht:∀a∈as,∀cl C s H fp,PF (AH X scope cl C N s H fp) ifs (tDT X.K (B (D a) (List.replicate k none++outG ix G)) (Pd a)))
  (he:∀a∈as,Pd a=true→∀cl C s H fp,EV (AH X scope cl C N s H fp) (B (D a) (List.replicate k none++outG ix G)) elt (F a))
  (hs:∀x,foldedSetIterable iter X.env x=pure x:=by intro _;rfl):EV X G (.ListComp elt [⟨target,iter,ifs,0⟩] scope pos) (.list ((as.filter Pd).map F)):=by
 refine (Li hcalm hc og hi (fun cl C s H fp=>⟨hg cl C s H fp,PF.ex (t:=fun a=>tDT X.K (B (D a) (List.replicate k none++outG ix G)) (Pd a)) (p:=fun a=>a∈as) fun d hd=>ht d hd cl C s H fp,PE.ex (t:=fun a=>tD X.K (B (D a) (List.replicate k none++outG ix G)) (F a)) (p:=fun a=>a∈as∧Pd a=true) fun d hd=>he d hd.1 hd.2 cl C s H fp⟩) hs).imp fun σ H Q ⟨h,q⟩=>⟨h,fun J H1 s1 hJ=>?_⟩
 refine FX X.K Pd F hz og hb (h.mono s1) hJ fun ys H2 s2 dy D hD=>?_
 exact q _ _ ((s1.trans s2).trans (Same.new hD)) (.lst (SqL.of Aw) (dy.mono (Same.new hD)))
theorem Kg {α:Type} {as:List α} {D:α→PyData} {k i:Nat} {x:Str} {pos' spos:Pos} {g:TG} {B:PyData→Gam→Gam} (Pd:α→Bool) (F:α→PyData) (hcalm:X.calm=true) (hN:X.N.Nodup) (hx0:X.N[i]?=some x) (hx:X.env.scope.names.lookup x=some .local)
  (hc:Cj X.env.scope X.N k ix N scope) (og:OwnG k g) (hi:IV X G target iter (as.map D)) (hz:as.length≤sizeLine)
  (hb:∀a∈as,BindD X.K k g B (D a)) (hg:∀cl C s H fp,PG (AH X scope cl C N s H fp) target g)
  (ht:∀a∈as,∀cl C s H fp,PF (AH X scope cl C N s H fp) ifs (tDT X.K (B (D a) (List.replicate k none++outG ix G)) (Pd a)))
  (he:∀a∈as,Pd a=true→∀cl C s H fp,EV (AH X scope cl C N s H fp) (B (D a) (List.replicate k none++outG ix G)) elt (F a))
  (hsw:swapsWith (.ListComp elt [⟨target,iter,ifs,0⟩] scope pos) (some (.Name x pos')) spos.line X.env=pure true:=by rfl)
  (hs:∀x,foldedSetIterable iter X.env x=pure x:=by intro _;rfl):SV X G (.Assign [.Name x pos'] (.ListComp elt [⟨target,iter,ifs,0⟩] scope pos) spos) (.next (G.set i (some (.list ((as.filter Pd).map F))))):=by
 refine (GO hcalm hN hx0 hx hc og hi (fun cl C s H fp=>⟨hg cl C s H fp,PF.ex (t:=fun a=>tDT X.K (B (D a) (List.replicate k none++outG ix G)) (Pd a)) (p:=fun a=>a∈as) fun d hd=>ht d hd cl C s H fp,PE.ex (t:=fun a=>tD X.K (B (D a) (List.replicate k none++outG ix G)) (F a)) (p:=fun a=>a∈as∧Pd a=true) fun d hd=>he d hd.1 hd.2 cl C s H fp⟩) hsw hs).imp fun Dn σ H ⟨h,q⟩=>⟨h,fun J H1 s1 hJ=>?_⟩
 refine FX X.K Pd F hz og hb (h.mono s1) hJ fun ys H2 s2 dy D hD=>?_
 have s3:=(s1.trans s2).trans (Same.new (o:=.lst ys) hD)
 exact q _ _ s3 ((h.mono s3).set (.lst (SqL.of Aw) (dy.mono (Same.new hD))))
theorem KQ {α:Type} {as:List α} {D:α→PyData} {tg:Expr} {body:List Stmt} {k:Nat} {g:TG} {B:PyData→Gam→Gam} (J:Nat→Gam) (hp:PassesOwn (model X.prog X.w) X.A X.env X.xe) (hcalm:X.calm=true) (hi:IV X (J 0) tg iter (as.map D)) (hg:PG X tg g) (hb:∀a∈as,BindD X.K k g B (D a))
  (hs:∀(i:Nat) a,as[i]?=some a→SVs X (B (D a) (J i)) body (.next (J (i + 1)))) (hfs:∀x,foldedSetIterable iter X.env x=pure x:=by intro _;rfl):SV X (J 0) (.For tg iter body [] pos) (.next (J as.length)):=by
 have hbody:PSs X body (fun Dn σ H=>∃p:Nat×α,as[p.1]?=some p.2∧tDS X.K (B (D p.2) (J p.1)) (.next (J (p.1 + 1))) Dn σ H):=fun pins s σ H Dn I ⟨p,hp,q⟩=>hs p.1 p.2 hp pins s σ H Dn I q
 refine (IP hp hcalm hi hg hbody hfs).imp fun Dn σ H ⟨h,q⟩=>⟨h,fun It0 H1 s1 hJ=>?_⟩
 refine ⟨fun i m σ H=>i≤as.length∧m=as.length - i∧Same H1 H∧SD X.K H σ (J i),⟨_,Nat.zero_le _,rfl,Same.refl _,h.mono s1⟩,?_⟩
 rintro i m σ H ⟨hi,rfl,sm,hσ⟩
 by_cases hlt:i < as.length
 ·refine .inr ⟨hJ.go i H sm (by rw [List.length_map];exact hlt),fun σ' H'=>Same H1 H'∧SD X.K H' σ' (J (i + 1)),fun σ' H' ⟨a,b⟩=>⟨as.length - (i + 1),by omega,hlt,rfl,a,b⟩,fun v H' y=>?_⟩
  obtain ⟨s2,d,ed,dv⟩:=hJ.yld i H v H' sm (by rw [List.length_map];exact hlt) y
  have ea:as[i]?=some as[i]:=List.getElem?_eq_getElem hlt
  have ed':d=D as[i]:=by
   rw [List.getElem?_map,ea] at ed
   exact (Option.some.inj ed).symm
  subst ed'
  refine (hb _ (List.getElem_mem hlt)).to v _ H' _ _ (hσ.mono s2) dv fun σ2 h2=>⟨(i,as[i]),ea,h2,fun σ3 H3 s3 h3=>⟨(sm.trans s2).trans s3,h3⟩⟩
 ·have e:i=as.length:=by omega
  subst e
  exact .inl ⟨hJ.stop _ H sm (by rw [List.length_map];exact Nat.le_refl _),q σ H (s1.trans sm) hσ⟩
def Ku (i:Nat) (d:PyData) (G:Gam):Gam:=G.set i (some d)
theorem KW {K:PySem.W.Frag} {k:Nat} (i:Nat) (d:PyData):BindD K k (C2 i) (Ku i) d:=⟨fun v σ H G Q h dv q=>q _ (h.set dv)⟩
end
def Bm (N:List Str) (ds:List PyData):Gam:=ds.map some++List.replicate (N.length - ds.length) none
theorem SD.start {K:PySem.W.Frag} {H:Hp} {N:List Str} {vs:List V} {ds:List PyData} (h:DVs K H vs ds):SD K H (start N vs) (Bm N ds):=by
 refine ⟨by simp [L2.start,Bm,h.length],fun i d e=>?_⟩
 unfold Bm at e
 unfold L2.start
 rcases Nat.lt_or_ge i ds.length with hi | hi
 ·rw [List.getElem?_append_left (by simpa using hi),List.getElem?_map] at e
  rw [List.getElem?_append_left (by simpa [h.length] using hi),List.getElem?_map]
  cases q:ds[i]? with
  | none=>rw [q] at e;cases e
  | some d'=>
    rw [q] at e
    have e:d'=d:=by
     have:=Option.some.inj e
     exact Option.some.inj this
    subst e
    obtain ⟨v,a,b⟩:=h.get q
    exact ⟨v,by rw [a];rfl,b⟩
 ·rw [List.getElem?_append_right (by simpa using hi),List.getElem?_replicate] at e
  split at e <;> cases e
section
variable {P:Program} {w:World} {K:PySem.W.Frag} {mg:Str→Option Value} {base:Heap}
theorem Fun.data {x qual:Str} {st:Stmt} {f:Addr} {fd:FuncData} {N ps:List Str} {k:Nat} {F:List PyData→PyData→Prop} (F0:Fun K x qual st f fd) (hm:mg x=some (.ref f)) (hb:Binds K fd ps []) (S:FnScope N ps (Ai st)) (len:∀ds d,F ds d→ds.length=ps.length)
  (hbody:∀(cdv:Value) (A:Around) (outer:List Env) (s:Shared) (H:Hp) (E:XK) (ds:List PyData) (d:PyData),Room k (A.deeper (envOfC qual (Ai st) s.heap.objs.size f cdv))→F ds d→
   SVs (cxOf CX0 P w K mg base N qual (Ai st) f cdv A outer s H E).nox (Bm N ds) (AM st) (.ret d)):DFn P w K mg base (k + 1) x F:=by
 refine ⟨f,fd,ps,F0.ok S (fun vs H Q E ⟨ds,d,h1,h2,_⟩=>h1.length.trans (len ds d h2)) (fun cdv A outer s H vs Q E hr ⟨ds,d,h1,h2,q⟩=>⟨_,hbody cdv A outer s H E ds d hr h2,SD.start h1,q⟩),hm,F0.kp,hb⟩
end
mutual
def noL:PyData→Bool
 | .none=>true
 | .bool _=>true
 | .int _=>true
 | .str _=>true
 | .tuple xs=>noLs xs
 | .list _=>false
 | .dict _=>false
def noLs:List PyData→Bool
 | []=>true
 | x::r=>noL x && noLs r
end
def dele (H:Hp) (p:Addr):Hp:=fun b=>if b=p then none else H b
theorem HK {H:Hp} {p:Addr}:dele H p p=none:=by unfold dele;rw [if_pos rfl]
theorem Ga {H:Hp} {p b:Addr} (h:b≠p):dele H p b=H b:=by unfold dele;rw [if_neg h]
theorem Jc {H:Hp} {p:Addr} {o:HO} (h:H p=some o):upd (dele H p) p o=H:=by
 funext b
 by_cases hb:b=p
 ·subst hb;rw [Aw,h]
 ·rw [Au hb,Ga hb]
mutual
theorem DV.dele {K:PySem.W.Frag} {H:Hp} {p:Addr} {ws:List V} (hp:H p=some (.lst ws)):∀{v:V} {d:PyData},DV K H v d→noL d=true→DV K (L2.dele H p) v d
 | _,_,.non,_=>.non
 | _,_,.bl b,_=>.bl b
 | _,_,.int i,_=>.int i
 | _,_,.str x,_=>.str x
 | _,_,.tup (a:=a) h t,f=>by
   refine .tup ?_ (DVs.dele hp t (by unfold noL at f;exact f))
   rcases h with (h | ⟨o,h⟩) | h
   ·have:a≠p:=fun z=>by subst z;rw [hp] at h;cases h
    exact .inl (.inl (by rw [Ga this];exact h))
   ·have:a≠p:=fun z=>by subst z;rw [hp] at h;cases h
    exact .inl (.inr ⟨o,by rw [Ga this];exact h⟩)
   ·exact .inr h
 | _,_,.lst h t,f=>by unfold noL at f;cases f
 | _,_,.dct h t,f=>by unfold noL at f;cases f
 | _,_,.exc h,f=>by unfold noL at f;cases f
 | _,_,.exr h h',f=>by unfold noL at f;cases f
 | _,_,.obj h n t,f=>by unfold noL at f;cases f
 | _,_,.dtt h,f=>by unfold noL at f;cases f
theorem DVs.dele {K:PySem.W.Frag} {H:Hp} {p:Addr} {ws:List V} (hp:H p=some (.lst ws)):∀{vs:List V} {ds:List PyData},DVs K H vs ds→noLs ds=true→DVs K (L2.dele H p) vs ds
 | _,_,.nil,_=>.nil
 | _,_,.cons h t,f=>by
   unfold noLs at f
   rw [Bool.and_eq_true] at f
   exact .cons (DV.dele hp h f.1) (DVs.dele hp t f.2)
end
def OSt (K:PySem.W.Frag) (H0:Hp) (p:Addr) (i:Nat) (G:Gam) (ds:List PyData) (σ:St) (H:Hp):Prop:=
 ∃Hb vs,H=upd Hb p (.lst vs)∧Hb p=none∧Same H0 Hb∧SD K Hb σ G∧σ[i]?=some (some (.ref p))∧DVs K Hb vs ds
abbrev Fy (G:Gam) (i:Nat) (ds:List PyData):Gam:=G.set i (some (.list ds))
theorem OSt.sd {K:PySem.W.Frag} {H0:Hp} {p:Addr} {i:Nat} {G:Gam} {ds:List PyData} {σ:St} {H:Hp} (h:OSt K H0 p i G ds σ H):SD K H σ (Fy G i ds):=by
 obtain ⟨Hb,vs,rfl,hn,_,hσ,hi,dv⟩:=h
 have h1:=hσ.mono (Same.new (o:=.lst vs) hn)
 have h2:=h1.set (i:=i) (v:=.ref p) (d:=.list ds) (.lst (SqL.of Aw) (dv.mono (Same.new hn)))
 have e:σ.set i (some (V.ref p))=σ:=by
  refine List.ext_getElem? fun j=>?_
  by_cases hj:i=j
  ·subst hj
   rw [List.getElem?_set_self (List.getElem?_eq_some_iff.mp hi).1,hi]
  ·rw [List.getElem?_set_ne hj]
 rw [e] at h2
 exact h2
theorem OSt.step {K:PySem.W.Frag} {H0:Hp} {p:Addr} {i:Nat} {G:Gam} {ds:List PyData} {σ:St} {H H':Hp} (h:OSt K H0 p i G ds σ H) (s:Same H H'):
  OSt K H0 p i G ds σ H'∧∀v d,DV K H' v d→noL d=true→∃Hb vs,H'=upd Hb p (.lst vs)∧Hb p=none∧Same H0 Hb∧SD K Hb σ G∧σ[i]?=some (some (.ref p))∧DVs K Hb vs ds∧DV K Hb v d:=by
 obtain ⟨Hb,vs,rfl,hn,s0,hσ,hi,dv⟩:=h
 have hp:H' p=some (.lst vs):=s p _ Aw
 have sb:Same Hb (dele H' p):=fun b o e=>by
  have hb:b≠p:=A4 e hn
  rw [Ga hb]
  exact s b o (by rw [Au hb];exact e)
 refine ⟨⟨dele H' p,vs,(Jc hp).symm,HK,s0.trans sb,hσ.mono sb,hi,dv.mono sb⟩,fun v d q f=>⟨dele H' p,vs,(Jc hp).symm,HK,s0.trans sb,hσ.mono sb,hi,dv.mono sb,DV.dele hp q f⟩⟩
def tH (K:PySem.W.Frag) (H0:Hp) (p:Addr) (i:Nat) (Pre Post:Gam→List PyData→Prop):TS:=fun D σ H=>(∃G ds,Pre G ds∧OSt K H0 p i G ds σ H)∧∀σ' H' G ds,Post G ds→OSt K H0 p i G ds σ' H'→D.nx σ' H'
abbrev HT1 (X:Cx) (H0:Hp) (p:Addr) (i:Nat) (Pre:Gam→List PyData→Prop) (st:Stmt) (Post:Gam→List PyData→Prop):Prop:=PS X st (tH X.K H0 p i Pre Post)
abbrev HTs (X:Cx) (H0:Hp) (p:Addr) (i:Nat) (Pre:Gam→List PyData→Prop) (sts:List Stmt) (Post:Gam→List PyData→Prop):Prop:=PSs X sts (tH X.K H0 p i Pre Post)
section
variable {X:Cx} {H0:Hp} {p:Addr} {i j:Nat} {Pre Mid Post PreA PreB:Gam→List PyData→Prop} {e c:Expr} {pos pos' pos2:Pos} {x:Str}
theorem BM (h:∀G ds,Pre G ds→Post G ds):HTs X H0 p i Pre [] Post:=pss_nil.imp fun D σ H ⟨⟨G,ds,a,b⟩,q⟩=>q σ H G ds (h G ds a) b
theorem Be {st:Stmt} {sts:List Stmt} (h1:HT1 X H0 p i Pre st Mid) (h2:HTs X H0 p i Mid sts Post):HTs X H0 p i Pre (st::sts) Post:=
 (A7 h1 h2).imp fun D σ H ⟨a,q⟩=>⟨a,fun σ' H' G ds m o=>⟨⟨G,ds,m,o⟩,q⟩⟩
theorem Ey (hN:X.N.Nodup) (hi:X.N[j]?=some x) (hij:j≠i) (hx:Loc X.env.scope x) (h:∀G ds,Pre G ds→∃d,EV X (Fy G i ds) e d∧noL d=true∧Post (G.set j (some d)) ds) (hs:swapsWith e (some (.Name x pos')) pos.line X.env=pure false:=by rfl)
  (hf:X.fn x=true∨X.env.scope.names.lookup x=some .local:=by first | exact .inl rfl | exact .inr rfl | assumption):HT1 X H0 p i Pre (.Assign [.Name x pos'] e pos) Post:=by
 intro pins s σ H D I ⟨⟨G,ds,a,o⟩,q⟩
 obtain ⟨d,ev,nl,po⟩:=h G ds a
 refine Cw hN hi hx ev hs hf pins s σ H D I ⟨o.sd,fun v H1 s1 d1=>?_⟩
 obtain ⟨_,k⟩:=o.step s1
 obtain ⟨Hb,vs,e1,e2,e3,e4,e5,e6,e7⟩:=k v d d1 nl
 exact q _ _ _ ds po ⟨Hb,vs,e1,e2,e3,e4.set e7,by rw [List.getElem?_set_ne hij];exact e5,e6⟩
theorem Cl (h:∀G ds,Pre G ds→∃d,EV X (Fy G i ds) e d∧noL d=true∧ds.length < sizeLine∧Post G (ds++[d])) (hv:PE X (.Name x pos2) (tVar i))
  (hs0:starEach [e] X.env=(false,eval e X.env)::starEach [] X.env:=by rfl)
  (hb:attributeBase (.Name x pos2) "append" X.env (eval (.Name x pos2) X.env)=eval (.Name x pos2) X.env:=by rfl)
  (hfew:((backTo pos' (starEach [e] X.env)).all (fun x=>!x.1) && (backToKw pos' (keywordEach [] X.env)).all (fun x=>x.1.isSome)
   && decide ([e].length + ([]:List Keyword).length + (if ([]:List Keyword).isEmpty then 0 else 1) < 30))=true:=by rfl)
  {apos:Pos} (hline:(apos.endLine==pos'.line)=true:=by rfl) (hpl:(backTo pos' (starEach [] X.env)).any (·.1)=false:=by rfl)
  (hsw:swapsWith (.Call (.Attribute (.Name x pos2) "append" apos) [e] [] pos') none pos.line X.env=pure false:=by rfl):
  HT1 X H0 p i Pre (.Expr (.Call (.Attribute (.Name x pos2) "append" apos) [e] [] pos') pos) Post:=by
 intro pins s σ H D I ⟨⟨G,ds,a,o⟩,q⟩
 obtain ⟨d,ev,nl,hz,po⟩:=h G ds a
 refine Da (La PySem.F.plainAttrs_list PySem.F.slot_list_append PySem.F.type_list_append E_ hv (Aa ev Ad hs0) hb hfew hline hs0 hpl) hsw pins s σ H D I ?_
 obtain ⟨Hb,vs,rfl,hn,s0,hσ,hi,dv⟩:=id o
 refine ⟨_,hi,.inl ⟨rfl,vs,SqL.of Aw⟩,o.sd,fun ws H1 s1 d1=>?_⟩
 obtain ⟨v,rfl,d2⟩:=d1.one
 obtain ⟨_,k⟩:=o.step s1
 obtain ⟨Hb',vs',e1,e2,e3,e4,e5,e6,e7⟩:=k v d d2 nl
 subst e1
 have hup:upd (upd Hb' p (.lst vs')) p (.lst (vs'++[v]))=upd Hb' p (.lst (vs'++[v])):=P7
 refine ⟨p,vs',v,rfl,rfl,Aw,by rw [e6.length];exact hz,?_⟩
 rw [hup]
 exact q _ _ G _ po ⟨Hb',vs'++[v],rfl,e2,e3,e4,e5,e6.append (.cons e7 .nil)⟩
theorem Ju {a:Expr} {G:Gam} {tg:Expr} {n:Int} (ha:EV X G a (.int n)) (h1:-(2 ^ 62)≤n) (h2:n < 2 ^ 62) (hg:Gl X "range") (hm:X.mg "range"=none) (hs:starEach [a] X.env=[(false,eval a X.env)]:=by rfl):
  PI X tg (.Call (.Name "range" pos') [a] [] pos) (fun σ H R=>SD X.K H σ G∧∀H',Same H H'→R (Itr 0 n.toNat) H'):=
 (Ff hg hm (Aa ha Ad hs) hs).imp fun σ H R ⟨h,q⟩=>⟨h,fun vs H1 s1 d1=>by
  obtain ⟨v,rfl,dv⟩:=d1.one
  exact ⟨n,by rw [dv.of_int],h1,h2,q H1 s1⟩⟩
theorem HH {A B:List Stmt} (h:∀G ds,Pre G ds→(TV X (Fy G i ds) c true∧PreA G ds)∨(TV X (Fy G i ds) c false∧PreB G ds)) (h1:HTs X H0 p i PreA A Post) (h2:HTs X H0 p i PreB B Post):HT1 X H0 p i Pre (.If c A B pos) Post:=by
 intro pins s σ H D I ⟨⟨G,ds,a,o⟩,q⟩
 rcases h G ds a with ⟨tv,pa⟩ | ⟨tv,pb⟩
 ·exact FB tv h1 h2 pins s σ H D I ⟨o.sd,fun H1 s1=>iteT ⟨⟨G,ds,pa,(o.step s1).1⟩,q⟩⟩
 ·exact FB tv h1 h2 pins s σ H D I ⟨o.sd,fun H1 s1=>iteF ⟨⟨G,ds,pb,(o.step s1).1⟩,q⟩⟩
theorem EG {tg iter:Expr} {body:List Stmt} {lo:Int} {n:Nat} (W:Nat→Gam→List PyData→Prop) (hp:PassesOwn (model X.prog X.w) X.A X.env X.xe) (hcalm:X.calm=true) (hij:j≠i) (hg:PG X tg (C2 j))
  (hpre:∀G ds,Pre G ds→W 0 G ds∧PI X tg iter (fun σ H R=>SD X.K H σ (Fy G i ds)∧∀H',Same H H'→R (Itr lo n) H'))
  (hs:∀k,k < n→HTs X H0 p i (fun G ds=>∃G',W k G' ds∧G=G'.set j (some (.int (lo + (k:Nat))))) body (W (k + 1))) (hpost:∀G ds,W n G ds→Post G ds)
  (hfs:∀x,foldedSetIterable iter X.env x=pure x:=by intro _;rfl):HT1 X H0 p i Pre (.For tg iter body [] pos) Post:=by
 intro pins s σ H D I ⟨⟨G,ds,a,o⟩,q⟩
 obtain ⟨w0,hi⟩:=hpre G ds a
 have hbody:PSs X body (fun D σ H=>∃k:Nat,k < n∧tH X.K H0 p i (fun G ds=>∃G',W k G' ds∧G=G'.set j (some (.int (lo + (k:Nat))))) (W (k + 1)) D σ H):=fun pins s σ H D I ⟨k,hk,q⟩=>hs k hk pins s σ H D I q
 refine IP hp hcalm hi hg hbody hfs pins s σ H D I ⟨o.sd,fun H1 s1=>?_⟩
 refine HB (lo:=lo) (n:=n) (g:=C2 j) (tb:=fun D σ H=>∃k:Nat,k < n∧tH X.K H0 p i (fun G ds=>∃G',W k G' ds∧G=G'.set j (some (.int (lo + (k:Nat))))) (W (k + 1)) D σ H) (fun k σ H=>k≤n∧∃G ds,W k G ds∧OSt X.K H0 p i G ds σ H) ⟨Nat.zero_le _,G,ds,w0,(o.step s1).1⟩ (fun k σ2 H2 hk ⟨_,G2,ds2,w2,o2⟩=>?_) (fun σ2 H2 ⟨_,G2,ds2,w2,o2⟩=>q σ2 H2 G2 ds2 (hpost _ _ w2) o2)
 obtain ⟨Hb,vs,rfl,hn,s0,hσ,hi2,dv⟩:=id o2
 refine ⟨k,hk,⟨_,ds2,⟨G2,w2,rfl⟩,Hb,vs,rfl,hn,s0,hσ.set (.int _),by rw [List.getElem?_set_ne hij];exact hi2,dv⟩,fun σ3 H3 G3 ds3 w3 o3=>⟨hk,G3,ds3,w3,o3⟩⟩
def tR (K:PySem.W.Frag) (G:Gam) (R:PyData→Prop):TS:=fun D σ H=>SD K H σ G∧∀d v H',R d→Same H H'→DV K H' v d→D.rt v H'
abbrev RVs (X:Cx) (G:Gam) (sts:List Stmt) (R:PyData→Prop):Prop:=PSs X sts (tR X.K G R)
def tHR (K:PySem.W.Frag) (H0:Hp) (p:Addr) (i:Nat) (Pre:Gam→List PyData→Prop) (R:PyData→Prop):TS:=fun D σ H=>(∃G ds,Pre G ds∧OSt K H0 p i G ds σ H)∧∀d v H',R d→Same H0 H'→DV K H' v d→D.rt v H'
abbrev HRs (X:Cx) (H0:Hp) (p:Addr) (i:Nat) (Pre:Gam→List PyData→Prop) (sts:List Stmt) (R:PyData→Prop):Prop:=PSs X sts (tHR X.K H0 p i Pre R)
variable {R:PyData→Prop} {G:Gam} {d:PyData}
theorem DH {st:Stmt} {sts:List Stmt} (h1:HT1 X H0 p i Pre st Mid) (h2:HRs X H0 p i Mid sts R):HRs X H0 p i Pre (st::sts) R:=
 (A7 h1 h2).imp fun D σ H ⟨a,q⟩=>⟨a,fun σ' H' G ds m o=>⟨⟨G,ds,m,o⟩,q⟩⟩
theorem Pj {sts:List Stmt} (hN:X.N.Nodup) (hi:X.N[i]?=some x) (hx:Loc X.env.scope x) (hG:i < G.length) (h:∀H0 p,HRs X H0 p i (fun G' ds=>G'=G.set i none∧ds=[]) sts R)
  (hs:swapsWith (.List [] pos2) (some (.Name x pos')) pos.line X.env=pure false:=by rfl) (hf:X.fn x=true∨X.env.scope.names.lookup x=some .local:=by first | exact .inl rfl | exact .inr rfl | assumption):
  RVs X G (.Assign [.Name x pos'] (.List [] pos2) pos::sts) R:=by
 intro pins s σ H D I ⟨hσ,q⟩
 have h2:PSs X sts (fun D σ H=>∃hp:Hp×Addr,tHR X.K hp.1 hp.2 i (fun G' ds=>G'=G.set i none∧ds=[]) R D σ H):=fun pins s σ H D I ⟨hp,q⟩=>h hp.1 hp.2 pins s σ H D I q
 refine A7 (Cw hN hi hx (G5 pa_nil) hs hf) h2 pins s σ H D I ⟨Nat.zero_le _,fun p hp=>⟨(H,p),⟨_,[],⟨rfl,rfl⟩,H,[],rfl,hp,Same.refl _,⟨by rw [List.length_set,List.length_set,hσ.1],fun j d e=>?_⟩,List.getElem?_set_self (by rw [hσ.1];exact hG),.nil⟩,fun d v H' r s' dv=>q d v H' r s' dv⟩⟩
 by_cases hj:i=j
 ·subst hj
  rw [List.getElem?_set_self hG] at e
  cases e
 ·rw [List.getElem?_set_ne hj] at e ⊢
  exact hσ.2 j d e
def tDR (K:PySem.W.Frag) (G:Gam) (R:PyData→Prop):TE:=fun σ H Q=>SD K H σ G∧∀d v H',R d→Same H H'→DV K H' v d→Q v H'
abbrev EVR (X:Cx) (G:Gam) (e:Expr) (R:PyData→Prop):Prop:=PE X e (tDR X.K G R)
theorem Rp (h:EV X G e d) (hr:R d):EVR X G e R:=h.imp fun σ H Q ⟨h,q⟩=>⟨h,fun v H' s' dv=>q d v H' hr s' dv⟩
theorem Ng {sts:List Stmt} {o:Out} (hN:X.N.Nodup) (hi:X.N[i]?=some x) (hx:Loc X.env.scope x) (h:EVR X G e R) (h2:∀d,R d→SVs X (G.set i (some d)) sts o) (hs:swapsWith e (some (.Name x pos')) pos.line X.env=pure false:=by rfl)
  (hf:X.fn x=true∨X.env.scope.names.lookup x=some .local:=by first | exact .inl rfl | exact .inr rfl | assumption):SVs X G (.Assign [.Name x pos'] e pos::sts) o:=by
 have hr:PSs X sts (fun D σ H=>∃d,R d∧tDS X.K (G.set i (some d)) o D σ H):=fun pins s σ H D I ⟨d,r,q⟩=>h2 d r pins s σ H D I q
 refine (A7 (Cw hN hi hx h hs hf) hr).imp fun D σ H ⟨h,q⟩=>⟨h,fun d v H1 r s1 d1=>⟨d,r,(h.mono s1).set d1,?_⟩⟩
 cases o with
 | next G2=>exact fun σ2 H2 s2 h2=>q σ2 H2 (s1.trans s2) h2
 | ret d=>exact fun v H2 s2 h2=>q v H2 (s1.trans s2) h2
end
section
variable {P:Program} {w:World} {K:PySem.W.Frag} {mg:Str→Option Value} {base:Heap}
end
section
section
variable {X:Cx} {G:Gam} {a b c e:Expr} {es rest:List Expr} {pos p p2 p3:Pos} {d d' da db dc:PyData} {ds:List PyData} {x:Str}
theorem Ap (h:EV X G e d) (q:d=d'):EV X G e d':=q ▸ h
theorem As {k k':Bool} (h:TV X G e k) (q:k=k'):TV X G e k':=q ▸ h
end
mutual
theorem Br:∀(d:PyData),d.canLay0=true→PyData.eqv d d=true
 | .none,_=>rfl
 | .bool b,_=>by simp [PyData.eqv]
 | .int i,_=>by simp [PyData.eqv]
 | .str x,_=>by simp [PyData.eqv]
 | .list xs,h=>by unfold PyData.eqv;exact DG xs (by simpa [PyData.canLay0] using h)
 | .tuple xs,h=>by unfold PyData.eqv;exact DG xs (by simpa [PyData.canLay0] using h)
 | .dict _,h=>by simp [PyData.canLay0] at h
theorem DG:∀(ds:List PyData),PyData.canLayAll0 ds=true→PyData.eqvAll ds ds=true
 | [],_=>rfl
 | d::r,h=>by
   have h':d.canLay0=true∧PyData.canLayAll0 r=true:=by simpa [PyData.canLayAll0] using h
   unfold PyData.eqvAll
   rw [Br d h'.1,DG r h'.2]
   rfl
end
theorem Ec {α:Type} {f:α→PyData}:∀(l:List α),(∀a∈l,(f a).canLay0=true)→PyData.canLayAll0 (l.map f)=true
 | [],_=>rfl
 | a::r,h=>by
   rw [List.map_cons]
   unfold PyData.canLayAll0
   rw [h a List.mem_cons_self,Ec r fun b hb=>h b (List.mem_cons_of_mem _ hb)]
   rfl
theorem EM {α:Type} {f:α→PyData} {n:Nat}:∀(l:List α),(∀a∈l,(f a).depth≤n)→PyData.depthAll (l.map f)≤n
 | [],_=>Nat.zero_le _
 | a::r,h=>by
   rw [List.map_cons]
   unfold PyData.depthAll
   exact Nat.max_le.mpr ⟨h a List.mem_cons_self,EM r fun b hb=>h b (List.mem_cons_of_mem _ hb)⟩
theorem AA {α:Type} (l:List α):l.filter (fun _=>true)=l:=List.filter_eq_self.mpr fun _ _=>rfl
theorem Aj {xs:List PyData} {i:Int} {d:PyData} (h0:0≤i) (h:xs[i.toNat]?=some d):atI xs i=some d:=by
 have:=OY h
 rwa [Int.toNat_of_nonneg h0] at this
section
variable {X:Cx} {G:Gam} {a b c e:Expr} {es:List Expr} {pos p:Pos} {d da db dc:PyData} {ds:List PyData} {x:Str}
theorem At (id:String) (ha:AV X G (e::es) ds) (hc:CD X (.builtin id) ds d) (hg:Gl X x) (hm:X.mg x=none) (hv:bootBuiltins x=some (.builtin id)) (hn:x≠"__name__":=by decide) (hdb:(x==("__debug__":Str))=false:=by decide)
  (he:starEach (e::es) X.env=(false,eval e X.env)::starEach es X.env:=by rfl) (hpl:(backTo pos (starEach es X.env)).any (·.1)=false:=by rfl):EV X G (.Call (.Name x p) (e::es) [] pos) d:=Nw hc hg hm hv ha hn hdb he hpl
theorem A8 (T:String) (ha:AV X G (e::es) ds) (hc:CD X (.type T) ds d) (hg:Gl X x) (hm:X.mg x=none) (hv:bootBuiltins x=some (.type T)) (hn:x≠"__name__":=by decide) (hdb:(x==("__debug__":Str))=false:=by decide)
  (he:starEach (e::es) X.env=(false,eval e X.env)::starEach es X.env:=by rfl) (hpl:(backTo pos (starEach es X.env)).any (·.1)=false:=by rfl):EV X G (.Call (.Name x p) (e::es) [] pos) d:=Mh hc hg hm hv ha hn hdb he hpl
theorem HI {op op':CmpOp} {k k':Bool} (ha:EV X G a da) (hb:EV X G b db) (ho:OD X (compareOp op) da db (.bool k)) (hc:EV X G c dc) (ho':OD X (compareOp op') db dc (.bool k'))
  (hm:lastMarks [op,op'] [b,c]=false:=by with_unfolding_all rfl):EV X G (.Compare a [op,op'] [b,c] pos) (.bool (k && k')):=OC ho (fun _=>ho') ha hb (fun _=>hc) hm
end
theorem AW {zs:List Int} {i:Int} (h0:0≤i) (h:i < zs.length):atI (zs.map PyData.int) i=some (.int (zs.getD i.toNat 0)):=by
 have hi:i.toNat < zs.length:=by omega
 exact Aj h0 (by simp [hi])
structure FnIn (K:PySem.W.Frag) (x:Str) (st:Stmt) (f:Addr) (fd:FuncData):Prop where
 ns:PySem.W.nsIn K mainGlobals x=some (some (.ref f))
 fn:Fun K x x st f fd
theorem fnIn_mk {K:PySem.W.Frag} {x:Str} {st:Stmt} {f:Addr} {oc:Value} {od an:Option Addr} {osl:Array (Option Value)} {kV doc pm cdv ct:Value} (a:PySem.W.nsIn K mainGlobals x=some (some (.ref f)))
  (l:K.lookup f=some ⟨oc,od,.func (PySem.W.fnOf x x (Ca st) (AM st) (Ai st) .none kV doc pm an cdv ct),osl⟩) (c:PySem.W.codeIn K cdv x=true) (k:PySem.W.keepIn K (.ref f)=true):∃f fd,FnIn K x st f fd:=
 ⟨f,_,a,K4 l c k⟩
section
variable {P:Program} {w:World} {K:PySem.W.Frag} {mg:Str→Option Value} {base:Heap}
theorem Fun.dataOk {x qual:Str} {st:Stmt} {f:Addr} {fd:FuncData} {N ps:List Str} {k:Nat} {F:List PyData→PyData→Prop} (F0:Fun K x qual st f fd) (S:FnScope N ps (Ai st)) (len:∀ds d,F ds d→ds.length=ps.length)
  (hbody:∀(cdv:Value) (A:Around) (outer:List Env) (s:Shared) (H:Hp) (E:XK) (ds:List PyData) (d:PyData),Room k (A.deeper (envOfC qual (Ai st) s.heap.objs.size f cdv))→F ds d→
   SVs (cxOf CX0 P w K mg base N qual (Ai st) f cdv A outer s H E).nox (Bm N ds) (AM st) (.ret d)):FnOk P w K mg base CX0 (k + 1) f fd ps (spD K F):=
 F0.ok S (fun vs H Q E ⟨ds,d,h1,h2,_⟩=>h1.length.trans (len ds d h2)) (fun cdv A outer s H vs Q E hr ⟨ds,d,h1,h2,q⟩=>⟨_,hbody cdv A outer s H E ds d hr h2,SD.start h1,q⟩)
end
def K_ (ds:List PyData) (d:PyData):Prop:=∃ns:List Int,ds=[.list (ns.map PyData.int)]∧ns.length≤63∧d=.bool true
theorem walk_D {l:PySem.W.OpenLaw} {q:Program} {loose:List Str} {XP:(Str→Option Value)→Heap→Prop} {YP:World→Heap→Prop} {d:DefRec} {K:Params→PySem.W.Frag} (hn:l.most=some 63) (hdf:d.params.defaults=[])
  (hY:∀(w:World) (h:Heap),YP w h→(K w.params).In h)
  (F:∀(w:World) (mg:Str→Option Value) (fa:Addr) (h:Heap),(K w.params).In h→h.Ns mainGlobals mg→mg d.name=some (.ref fa)→
   ∃fd:FuncData,(∀(s:Shared) (u:Value),BindsTo s fd ⟨[u],[]⟩ [("script",u)])∧∀base:Heap,(K w.params).In base→base.Ns mainGlobals mg→FnOk l.prog w (K w.params) mg base CX0 20 fa fd ["script"] (spD (K w.params) K_)):
  PySem.W.WalkO q loose XP YP l.row.toRowW d [] (fun f vs=>PySem.call f vs):=
 L2.walk_of (n:=63) (k:=20) (x:="script") (CX:=fun _=>CX0) (sp:=fun w=>spD (K w.params) K_) hn (by decide) hdf ⟨rfl,by decide,by decide⟩ hY F
   (fun _ _ a ns hl _ hS=>⟨_,_,.cons (.lst hS (DVs.ints ns)) .nil,⟨ns,rfl,hl,rfl⟩,fun v H' _ dv=>dv.of_bl⟩) fun _ _ _ _ _ z=>z
end
section
open Builtin.SmallTypes (nextOf)
section
variable {prog:Program} {w:World} {A:Around} {E:Value→Shared→Prop} {s:Shared}
theorem Jj {it t:Addr} {i:Nat} {its:Array Value} {x:Value} {Q:Value→Shared→Prop} (hi:s.heap.IsTupleIter it t i) (ht:s.heap.IsTuple t its) (hx:its[i]?=some x)
  (q:∀g,g.IsTupleIter it t (i + 1)→Heap.SameBut it s.heap g→Q x {s with heap:=g}):wpAny (model prog w) A (nextOf (.ref it)) Q E s:=by
 obtain ⟨o,ho,hc,hd⟩:=id hi;obtain ⟨ol,hol,_,nl,hdl⟩:=ht
 unfold nextOf
 refine wpAny_bind (wpAny_callSpecial?_slot (name:=Str.ofString "__next__") hi.typeIs PySem.F.slot_tuple_iterator_next (wpAny_call_entry PySem.F.slot_tuple_iterator_next hi.typeIs PySem.F.entry_tuple_iterator_next ?_ (PySem.F.args_tuple_iterator_next_1 _)))
 show wpAny _ A.in1 (field (.ref it) 0 >>=_) _ _ s
 refine wpAny_bind (wpAny_field ho hd (x:=.ref t) rfl ?_)
 show wpAny _ A.in1 (if (Value.ref t==Value.none)=true then _ else _) _ _ s
 rw [if_neg (show ¬((Value.ref t==Value.none)=true) by exact Bool.false_ne_true)]
 show wpAny _ A.in1 (field (.ref it) 1 >>=_) _ _ s
 refine wpAny_bind (wpAny_field ho hd (x:=.int i 0) rfl ?_)
 show wpAny _ A.in1 (seqItems? (.ref t) >>=_) _ _ s
 refine wpAny_bind (wpAny_seqItems hol hdl ?_)
 simp only [Int.toNat_natCast,hx]
 refine wpAny_bind (wpAny_setField ho hd (by simp) (wpAny_pure ⟨x,rfl,wpAny_pure (q _ ⟨_,Heap.get?_update_self _ ho (Obj.isFreed_of_fields (Obj.data_mapFields hd _)),(Obj.cls_mapFields ..).trans hc,?_⟩ (Heap.SameBut.update ..))⟩))
 rw [Obj.data_mapFields hd];simp [rawInt]
theorem EU {it t:Addr} {i:Nat} {its:Array Value} {Q:Value→Shared→Prop} (hh:A.handled=none) (hi:s.heap.IsTupleIter it t i) (ht:s.heap.IsTuple t its) (hx:its[i]?=none)
  (q:∀g e,Heap.ExtBut it s.heap g→(∃o,g.get? e=some o∧o.cls=.type "StopIteration")→E (.ref e) {s with heap:=g}):wpAny (model prog w) A (nextOf (.ref it)) Q E s:=by
 obtain ⟨o,ho,hc,hd⟩:=id hi;obtain ⟨ol,hol,_,nl,hdl⟩:=ht
 unfold nextOf
 refine wpAny_bind (wpAny_callSpecial?_slot (name:=Str.ofString "__next__") hi.typeIs PySem.F.slot_tuple_iterator_next (wpAny_call_entry PySem.F.slot_tuple_iterator_next hi.typeIs PySem.F.entry_tuple_iterator_next ?_ (PySem.F.args_tuple_iterator_next_1 _)))
 show wpAny _ A.in1 (field (.ref it) 0 >>=_) _ _ s
 refine wpAny_bind (wpAny_field ho hd (x:=.ref t) rfl ?_)
 show wpAny _ A.in1 (if (Value.ref t==Value.none)=true then _ else _) _ _ s
 rw [if_neg (show ¬((Value.ref t==Value.none)=true) by exact Bool.false_ne_true)]
 show wpAny _ A.in1 (field (.ref it) 1 >>=_) _ _ s
 refine wpAny_bind (wpAny_field ho hd (x:=.int i 0) rfl ?_)
 show wpAny _ A.in1 (seqItems? (.ref t) >>=_) _ _ s
 refine wpAny_bind (wpAny_seqItems hol hdl ?_)
 simp only [Int.toNat_natCast,hx]
 refine wpAny_bind (wpAny_rule (wpAny_bind (wpAny_setField ho hd (by simp) ?_)))
 show wpAny _ A.in1 (newExc (.type "StopIteration") [] >>=_) _ _ _
 refine wpAny_bind ?_
 simp only [newExc,newTuple]
 refine wpAny_bind (wpAny_newObj_type ?_ (by size_fits))
 refine wpAny_bind (m:=firstArgMember _ _) (wpAny_of_eq (a:=Value.none) (by first | rfl | (simp only [firstArgMember];rfl)) ?_)
 refine wpAny_newObj_type ?_ (by size_fits)
 simp only [raiseNew]
 refine wpAny_bind (wpAny_handled ?_)
 rw [show A.in1.handled=none from hh]
 exact wpAny_bind (wpAny_pure (wpAny_throw (q _ _ (((Heap.SameBut.update ..).extBut.push _).push _) ⟨_,Heap.get?_push_size _ rfl,rfl⟩)))
structure ZAp (z a b i j t:Addr):Prop where
 az:a≠z
 bz:b≠z
 iz:i≠z
 jz:j≠z
 ab:a≠b
 ai:a≠i
 aj:a≠j
 bi:b≠i
 bj:b≠j
 ij:i≠j
 tz:t≠z
 tb:t≠b
 ti:t≠i
 tj:t≠j
abbrev CZ:String:="str_ascii_iterator"
theorem MR {z a b i j t:Addr} {k c:Nat} {x:Str} {tk:Tok} {ys:Array Value} {y p q:Value} {Q:Value→Shared→Prop} (D:ZAp z a b i j t)
  (hz:IsZip s.heap z a b .none) (ha:IsPair s.heap a (.ref i) (.ref j)) (hb:IsPair s.heap b p q) (h1:s.heap.IsStrIter i CZ x tk k) (h2:s.heap.IsTupleIter j t k) (ht:s.heap.IsTuple t ys) (hx:x.cps[k]?=some c) (hy:ys[k]?=some y)
  (fin:∀g n,IsZip g z a b (rawInt s.heap.objs.size)→IsPair g b (.str ⟨#[c]⟩ s.toks) y→g.IsStrIter i CZ x tk (k + 1)→g.IsTupleIter j t (k + 1)→IsPair g s.heap.objs.size (.str ⟨#[c]⟩ s.toks) y→g.objs.size=s.heap.objs.size + 1→
   (∀d o,d≠z→d≠b→d≠i→d≠j→s.heap.get? d=some o→g.get? d=some o)→Q (.ref s.heap.objs.size) {s with heap:=g,toks:=n}):
  wpAny (model prog w) A (Builtin.«zip.__next__» ⟨[.ref z],[]⟩) (fun r s'=>∃v,r=.done (.ret v)∧Q v s') E s:=by
 show wpAny (model prog w) A (field (.ref z) 2 >>=_) _ _ _
 refine wpAny_bind (wpAny_field hz rfl (x:=.bool false) rfl ?_)
 show wpAny (model prog w) A (field (.ref z) 3 >>=_) _ _ _
 refine wpAny_bind (wpAny_field hz rfl (x:=.ref a) rfl (wpAny_bind (wpAny_seqItems ha rfl ?_)))
 show wpAny (model prog w) A (Builtin.SmallTypes.ownedTupleIsFree (.ref z) >>=_) _ _ _
 refine wpAny_bind ?_
 unfold Builtin.SmallTypes.ownedTupleIsFree
 refine wpAny_bind (wpAny_field hz rfl (x:=.none) rfl (wpAny_pure ?_))
 simp only [if_true]
 refine wpAny_bind (wpAny_rule (wpAny_bind (wpAny_field hz rfl (x:=.ref b) rfl (wpAny_bind (wpAny_setField_rec hz (by simp) fun g1 z1 s1=>?_)))))
 replace z1:IsZip g1 z a b .ellipsis:=z1
 refine wpAny_bind ?_
 simp only [List.zipIdx_cons,List.zipIdx_nil,List.forIn_cons,List.forIn_nil]
 refine wpAny_bind (wpAny_bind (wpAny_onRaise ?_))
 show wpAny (model prog w) A (nextOf (.ref i) >>=_) _ _ _
 refine wpAny_bind (wpAny_nextOf_ascii_item (h1.extBut s1.extBut D.iz) hx fun g2 i2 s2=>wpAny_pure ?_)
 have b2:IsPair g2 b p q:=s2.extBut _ _ D.bi (s1.extBut _ _ D.bz hb)
 refine wpAny_bind (wpAny_seqItems b2 rfl (wpAny_bind (wpAny_updateSeq_pair b2 fun g3 b3 s3=>?_)))
 replace b3:IsPair g3 b (.str ⟨#[c]⟩ s.toks) q:=b3
 refine wpAny_bind (wpAny_letGo (wpAny_pure ?_))
 refine wpAny_bind (wpAny_bind (wpAny_onRaise ?_))
 show wpAny (model prog w) A (nextOf (.ref j) >>=_) _ _ _
 have j3:g3.IsTupleIter j t k:=by
  obtain ⟨o,e,r⟩:=h2
  exact ⟨o,s3.extBut _ _ D.bj.symm (s2.extBut _ _ D.ij.symm (s1.extBut _ _ D.jz e)),r⟩
 have t3:g3.IsTuple t ys:=by
  obtain ⟨o,e,r⟩:=ht
  exact ⟨o,s3.extBut _ _ D.tb (s2.extBut _ _ D.ti (s1.extBut _ _ D.tz e)),r⟩
 refine wpAny_bind (Jj j3 t3 hy fun g4 j4 s4=>wpAny_pure ?_)
 have b4:IsPair g4 b (.str ⟨#[c]⟩ s.toks) q:=s4.extBut _ _ D.bj b3
 refine wpAny_bind (wpAny_seqItems b4 rfl (wpAny_bind (wpAny_updateSeq_pair b4 fun g5 b5 s5=>?_)))
 replace b5:IsPair g5 b (.str ⟨#[c]⟩ s.toks) y:=b5
 refine wpAny_bind (wpAny_letGo (wpAny_pure (wpAny_pure (wpAny_bind (wpAny_seqItems b5 rfl (wpAny_bind (wpAny_newTuple ?_)))))))
 have sz:g5.objs.size=s.heap.objs.size:=by rw [s5.1,s4.1,s3.1,s2.1,s1.1]
 have z5:IsZip g5 z a b .ellipsis:=s5.extBut _ _ D.bz.symm (s4.extBut _ _ D.jz.symm (s3.extBut _ _ D.bz.symm (s2.extBut _ _ D.iz.symm z1)))
 have k5:∀d o,d≠z→d≠b→d≠i→d≠j→s.heap.get? d=some o→g5.get? d=some o:=fun d o d1 d2 d3 d4 e=>s5.extBut _ _ d2 (s4.extBut _ _ d4 (s3.extBut _ _ d2 (s2.extBut _ _ d3 (s1.extBut _ _ d1 e))))
 have i5:g5.IsStrIter i CZ x tk (k + 1):=((i2.extBut s3.extBut D.bi.symm).extBut s4.extBut D.ij).extBut s5.extBut D.bi.symm
 have j5:g5.IsTupleIter j t (k + 1):=by
  obtain ⟨o,e,r⟩:=j4
  exact ⟨o,s5.extBut _ _ D.bj.symm e,r⟩
 have zlt:z < g5.objs.size:=Heap.lt_size z5
 show wpAny (model prog w) A (Builtin.SmallTypes.ownedTupleHandOut (.ref z) (.ref g5.objs.size) >>=_) _ _ _
 refine wpAny_bind ?_
 unfold Builtin.SmallTypes.ownedTupleHandOut
 have z6:IsZip (g5.push {cls:=.type "tuple",data:=.seq #[.str ⟨#[c]⟩ s.toks,y]}) z a b .ellipsis:=Heap.get?_push_of_some _ z5
 refine wpAny_bind (wpAny_setField_rec z6 (by simp) fun g7 z7 s7=>?_)
 replace z7:IsZip g7 z a b (rawInt g5.objs.size):=z7
 refine wpAny_setField_rec z7 (by simp) fun g8 z8 s8=>?_
 replace z8:IsZip g8 z a b (rawInt g5.objs.size):=z8
 have up:∀d o,d≠z→g5.get? d=some o→g8.get? d=some o:=fun d o d1 e=>s8.extBut _ _ d1 (s7.extBut _ _ d1 (Heap.get?_push_of_some _ e))
 have p8:IsPair g8 g5.objs.size (.str ⟨#[c]⟩ s.toks) y:=s8.extBut _ _ (Nat.ne_of_gt zlt) (s7.extBut _ _ (Nat.ne_of_gt zlt) (Heap.get?_push_size _ rfl))
 have n8:g8.objs.size=g5.objs.size + 1:=by rw [s8.1,s7.1,Heap.size_push]
 rw [sz] at z8 p8 n8
 refine wpAny_pure ⟨_,rfl,?_⟩
 show Q (.ref g5.objs.size) _
 rw [sz]
 refine fin g8 _ z8 (up _ _ D.bz b5) ?_ ?_ p8 n8 fun d o d1 d2 d3 d4 e=>up d o d1 (k5 d o d1 d2 d3 d4 e)
 ·obtain ⟨o,e,r⟩:=i5
  exact ⟨o,up _ _ D.iz e,r⟩
 ·obtain ⟨o,e,r⟩:=j5
  exact ⟨o,up _ _ D.jz e,r⟩
theorem Oo {z a b i j:Addr} {k:Nat} {x:Str} {tk:Tok} {Q:Fin→Shared→Prop} (hh:A.handled=none) (iz:i≠z)
  (hz:IsZip s.heap z a b .none) (ha:IsPair s.heap a (.ref i) (.ref j)) (h1:s.heap.IsStrIter i CZ x tk k) (hx:x.cps[k]?=none)
  (fin:∀g e,(∀d o,d≠z→d≠b→d≠i→d≠j→s.heap.get? d=some o→g.get? d=some o)→(∃o,g.get? e=some o∧o.cls=.type "StopIteration")→E (.ref e) {s with heap:=g}):
  wpAny (model prog w) A (Builtin.«zip.__next__» ⟨[.ref z],[]⟩) Q E s:=by
 show wpAny (model prog w) A (field (.ref z) 2 >>=_) _ _ _
 refine wpAny_bind (wpAny_field hz rfl (x:=.bool false) rfl ?_)
 show wpAny (model prog w) A (field (.ref z) 3 >>=_) _ _ _
 refine wpAny_bind (wpAny_field hz rfl (x:=.ref a) rfl (wpAny_bind (wpAny_seqItems ha rfl ?_)))
 show wpAny (model prog w) A (Builtin.SmallTypes.ownedTupleIsFree (.ref z) >>=_) _ _ _
 refine wpAny_bind ?_
 unfold Builtin.SmallTypes.ownedTupleIsFree
 refine wpAny_bind (wpAny_field hz rfl (x:=.none) rfl (wpAny_pure ?_))
 simp only [if_true]
 refine wpAny_bind (wpAny_rule (wpAny_bind (wpAny_field hz rfl (x:=.ref b) rfl (wpAny_bind (wpAny_setField_rec hz (by simp) fun g1 z1 s1=>?_)))))
 replace z1:IsZip g1 z a b .ellipsis:=z1
 refine wpAny_bind ?_
 simp only [List.zipIdx_cons,List.zipIdx_nil,List.forIn_cons,List.forIn_nil]
 refine wpAny_bind (wpAny_bind (wpAny_onRaise ?_))
 show wpAny (model prog w) A (nextOf (.ref i) >>=_) _ _ _
 refine wpAny_bind (wpAny_nextOf_ascii_end hh (h1.extBut s1.extBut iz) hx fun g2 e s2 he=>?_)
 obtain ⟨oe,hoe,hce⟩:=he
 have z2:IsZip g2 z a b .ellipsis:=s2 _ _ iz.symm z1
 have ez:e≠z:=fun y=>by subst y;rw [z2] at hoe;cases hoe;simp at hce
 exact wpAny_setField_rec z2 (by simp) fun g3 _ s3=>fin g3 e (fun d o d1 _ d3 _ y=>s3.extBut _ _ d1 (s2 _ _ d3 (s1.extBut _ _ d1 y))) ⟨oe,s3.extBut _ _ ez hoe,hce⟩
end
end
def Sw (K:PySem.W.Frag) (x:Str) (t:Addr):It:=
 ⟨fun k H=>∃ys,SqT K H t ys∧k < ys.length∧k < x.cps.size,fun k H v H'=>∃p c y,H p=none∧v=.ref p∧H'=upd H p (.tup [.str ⟨#[c]⟩,y])∧x.cps[k]?=some c∧∀ys,SqT K H t ys→ys[k]?=some y,fun k _=>x.cps.size≤k⟩
def ZTn (z a b i j t:Addr) (x:Str) (tk:Tok) (k:Nat) (h:Heap):Prop:=IsZip h z a b .none∧IsPair h a (.ref i) (.ref j)∧(∃p q,IsPair h b p q)∧h.IsStrIter i CZ x tk k∧h.IsTupleIter j t k
structure ZAp0 (z a b i j:Addr):Prop where
 az:a≠z
 bz:b≠z
 iz:i≠z
 jz:j≠z
 ab:a≠b
 ai:a≠i
 aj:a≠j
 bi:b≠i
 bj:b≠j
 ij:i≠j
theorem Fg {X:Cx} {pins:List (Addr×Obj)} {σ:St} {H:Hp} {s:Shared} {t b:Addr} {ys:List V} (I:Inv X pins σ H s) (h:SqT X.K H t ys) (f:FpOk X pins H b):t≠b:=by
 intro e
 subst e
 obtain ⟨hn,_,_,hx,_⟩:=f
 rcases h with (h | ⟨o,h⟩) | ⟨o,its,n,hk,_⟩
 ·rw [hn] at h;cases h
 ·rw [hn] at h;cases h
 ·have hb:=I.mod.kin t o hk
  rcases hx with hx | hx
  ·exact I.ok.noex t o hb hx
  ·exact absurd (Nat.lt_of_lt_of_le (Heap.lt_size (I.ok.bs t o hb).1) hx) (Nat.lt_irrefl _)
theorem Inv.turnedNew {X:Cx} {pins:List (Addr×Obj)} {σ:St} {H:Hp} {s:Shared} {h':Heap} {t':Nat} {ch:List Addr} {p:Addr} {vs:List V} {us:List Value} (I:Inv X pins σ H s) (hf:∀b∈ch,FpOk X pins H b)
  (k:∀b o,b∉ch→s.heap.get? b=some o→h'.get? b=some o) (hc:∀b∈ch,∃o,h'.get? b=some o) (hp:s.heap.objs.size≤p) (r:Vals vs us) (hz:vs.length≤sizeLine) (ht:IsTup h' p us.toArray∧∃o,h'.get? p=some o∧o.dict=none):Inv X pins σ (upd H p (.tup vs)) {s with heap:=h',toks:=t'}:=by
 have nc:∀b u,H b=some u→b∉ch:=fun b u e z=>by rw [(hf b z).1] at e;cases e
 have hn:H p=none:=I.hok.fresh hp
 refine I.step (g':=s.gens) (d':=s.drawn) (ch:=ch) (fun b hb=>?_) (fun b o _ _ hc e _=>k b o hc e) (fun b o _ _ hc e _=>⟨o.slots,k b o hc e⟩) (fun b o _ e n=>?_) (fun b o hc e=>⟨o,k b o hc e⟩)
  (fun b xs e=>?_) (fun b o u e=>?_) (fun b ps e=>⟨#[],?_⟩) (fun m hm=>?_) (fun b u e=>?_) I.bare
 ·obtain ⟨_,h1,h2,h3,h4,h5⟩:=hf b hb
  exact ⟨h3,h1,h4,h5⟩
 ·rw [Au (Nat.ne_of_lt (Nat.lt_of_lt_of_le (Heap.lt_size e) hp))];exact n
 ·rw [Au (A4 e hn)];exact e
 ·rw [Au (A4 e hn)];exact e
 ·rw [Au (A4 e hn),e];simp
 ·obtain ⟨o,es,ep,ho,rr⟩:=hm
  exact ⟨o,es,ep,k _ o (fun z=>(hf _ z).2.1 rfl) ho,rr⟩
 ·by_cases hb:b=p
  ·subst hb
   rw [Aw] at e
   cases e
   exact ⟨hz,⟨us,r,ht.1⟩,ht.2⟩
  ·rw [Au hb] at e
   refine (I.hok b u e).stay (fun c v hc q=>k c v ?_ q) (fun c q=>?_) fun c xs q=>?_
   ·rcases hc with z | z
    ·rw [z];exact nc b u e
    ·exact nc c _ z
   ·rw [Au (A4 q hn)];exact q
   ·rw [Au (A4 q hn)];exact q
theorem Inv.turnedMany {X:Cx} {pins:List (Addr×Obj)} {σ:St} {H:Hp} {s:Shared} {h':Heap} {t':Nat} {ch:List Addr} (I:Inv X pins σ H s) (hf:∀b∈ch,FpOk X pins H b)
  (k:∀b o,b∉ch→s.heap.get? b=some o→h'.get? b=some o):Inv X pins σ H {s with heap:=h',toks:=t'}:=by
 have nc:∀b u,H b=some u→b∉ch:=fun b u e z=>by rw [(hf b z).1] at e;cases e
 refine I.step (g':=s.gens) (d':=s.drawn) (ch:=ch) (fun b hb=>?_) (fun b o _ _ hc e _=>k b o hc e) (fun b o _ _ hc e _=>⟨o.slots,k b o hc e⟩) (fun b o _ e n=>n) (fun b o hc e=>⟨o,k b o hc e⟩)
  (fun b xs e=>e) (fun b o u e=>e) (fun b ps e=>⟨#[],by rw [e];simp⟩) (fun m hm=>?_) (fun b u e=>?_) I.bare
 ·obtain ⟨_,h1,h2,h3,h4,h5⟩:=hf b hb
  exact ⟨h3,h1,h4,h5⟩
 ·obtain ⟨o,es,ep,ho,rr⟩:=hm
  exact ⟨o,es,ep,k _ o (fun z=>(hf _ z).2.1 rfl) ho,rr⟩
 ·refine (I.hok b u e).stay (fun c v hc q=>k c v ?_ q) (fun c q=>q) fun c xs q=>q
  rcases hc with z | z
  ·rw [z];exact nc b u e
  ·exact nc c _ z
theorem Nc {P:Program} {w:World} {K:PySem.W.Frag} {elts:List Expr} {x1} {tpos:Pos} {z a b i j t:Addr} {x:Str} {tk:Tok} (D0:ZAp0 z a b i j):
  Turn P w K (.Tuple elts x1 tpos) (Sw K x t) [z,a,b,i,j] z (ZTn z a b i j t x tk) where
 mem:=by simp
 obj:=fun k h st c hc=>by
  obtain ⟨hz,ha,⟨p,q,hb⟩,⟨o1,e1,_,d1⟩,⟨o2,e2,_,d2⟩⟩:=st
  simp only [List.mem_cons,List.not_mem_nil,or_false] at hc
  rcases hc with rfl | rfl | rfl | rfl | rfl
  ·exact ⟨_,hz,fun v z=>(by cases z)⟩
  ·exact ⟨_,ha,fun v z=>(by cases z)⟩
  ·exact ⟨_,hb,fun v z=>(by cases z)⟩
  ·exact ⟨_,e1,fun v z=>by rw [d1] at z;cases z⟩
  ·exact ⟨_,e2,fun v z=>by rw [d2] at z;cases z⟩
 keep:=fun k h h' st kk=>by
  obtain ⟨hz,ha,⟨p,q,hb⟩,⟨o1,e1,r1⟩,⟨o2,e2,r2⟩⟩:=st
  exact ⟨kk z (by simp) _ hz,kk a (by simp) _ ha,⟨p,q,kk b (by simp) _ hb⟩,⟨o1,kk i (by simp) _ e1,r1⟩,⟨o2,kk j (by simp) _ e2,r2⟩⟩
 item:=fun X eP eW eK hcalm k pins s σ H E I hf st go=>by
  subst eP eW eK
  obtain ⟨ys,hq,hk,hkx⟩:=go
  obtain ⟨hz,ha,⟨p,q,hb⟩,h1,h2⟩:=st
  obtain ⟨its,rv,ht,hzz⟩:=I.tuple hq
  have tap:=fun c (hc:c∈[z,a,b,i,j])=>Fg I hq (hf c hc)
  have D:ZAp z a b i j t:=⟨D0.az,D0.bz,D0.iz,D0.jz,D0.ab,D0.ai,D0.aj,D0.bi,D0.bj,D0.ij,tap z (by simp),tap b (by simp),tap i (by simp),tap j (by simp)⟩
  have hy:ys[k]?=some ys[k]:=List.getElem?_eq_getElem hk
  obtain ⟨u,eu,ru⟩:=rv.get hy
  have hc0:x.cps[k]?=some x.cps[k]:=Array.getElem?_eq_getElem hkx
  have hT:s.TypeIs (.ref z) "zip":=⟨_,hz,rfl⟩
  unfold pyNext
  refine wpAny_bind (wpAny_attempt (wpAny_callSpecial?_slot (name:=Str.ofString "__next__") hT PySem.F.slot_zip_next (wpAny_call_entry PySem.F.slot_zip_next hT PySem.F.entry_zip_next
   (MR D hz ha hb h1 h2 (show s.heap.IsTuple t its.toArray from ht) hc0 (by simpa using eu) fun g n a1 a2 a3 a4 a5 a6 a7=>wpAny_pure ⟨_,rfl,?_⟩) (PySem.F.args_zip_next_1 _))))
  refine wpAny_letOwnedTupleGo_zip a1 fun g' z' s'=>?_
  have hp:H s.heap.objs.size=none:=I.hok.fresh (Nat.le_refl _)
  have zlt:z < s.heap.objs.size:=Heap.lt_size hz
  have k':∀c o,c∉[z,b,i,j]→s.heap.get? c=some o→g'.get? c=some o:=fun c o hc e=>by
   simp only [List.mem_cons,List.not_mem_nil,or_false,not_or] at hc
   exact s'.extBut _ _ hc.1 (a7 c o hc.1 hc.2.1 hc.2.2.1 hc.2.2.2 e)
  have pr:IsPair g' s.heap.objs.size (.str ⟨#[x.cps[k]]⟩ s.toks) u:=s'.extBut _ _ (Nat.ne_of_gt zlt) a5
  have ks:∀c∈[z,b,i,j],c∈[z,a,b,i,j]:=fun c hc=>by
   simp only [List.mem_cons,List.not_mem_nil,or_false] at hc ⊢
   rcases hc with h | h | h | h <;> simp [h]
  have b':IsPair g' b (.str ⟨#[x.cps[k]]⟩ s.toks) u:=s'.extBut _ _ D.bz a2
  have i':g'.IsStrIter i CZ x tk (k + 1):=a3.extBut s'.extBut D.iz
  have j':g'.IsTupleIter j t (k + 1):=by
   obtain ⟨o,e,r⟩:=a4
   exact ⟨o,s'.extBut _ _ D.jz e,r⟩
  have I1:Inv X pins σ (upd H s.heap.objs.size (.tup [.str ⟨#[x.cps[k]]⟩,ys[k]])) {s with heap:=g',toks:=n}:=I.turnedNew (ch:=[z,b,i,j]) (fun c hc=>hf c (ks c hc)) k' (fun c hc=>by
   simp only [List.mem_cons,List.not_mem_nil,or_false] at hc
   rcases hc with rfl | rfl | rfl | rfl
   ·exact ⟨_,z'⟩
   ·exact ⟨_,b'⟩
   ·exact ⟨_,i'.choose_spec.1⟩
   ·exact ⟨_,j'.choose_spec.1⟩) (Nat.le_refl _) (us:=[.str ⟨#[x.cps[k]]⟩ s.toks,u]) (.cons ⟨_,rfl⟩ (.cons ru .nil)) (by rw [sizeLine_eq];show 2≤16777216;decide) ⟨⟨_,pr,rfl,_,rfl⟩,_,pr,rfl⟩
  refine ⟨.ref s.heap.objs.size,_,I1,rfl,⟨_,x.cps[k],ys[k],hp,rfl,rfl,hc0,fun zs hzs=>?_⟩,⟨z',k' a _ (by simp [D0.az,D0.ab,D0.ai,D0.aj]) ha,⟨_,_,b'⟩,i',j'⟩,fun c hc=>?_⟩
  ·rw [I.tuple_inj hzs hq];exact hy
  ·have hcn:=(hf c hc).1
   have:c≠s.heap.objs.size:=fun e=>by
    obtain ⟨o,eo⟩:∃o,s.heap.get? c=some o:=by
     simp only [List.mem_cons,List.not_mem_nil,or_false] at hc
     rcases hc with rfl | rfl | rfl | rfl | rfl
     ·exact ⟨_,hz⟩
     ·exact ⟨_,ha⟩
     ·exact ⟨_,hb⟩
     ·exact ⟨_,h1.choose_spec.1⟩
     ·exact ⟨_,h2.choose_spec.1⟩
    exact absurd (Heap.lt_size eo) (by rw [e];exact Nat.lt_irrefl _)
   rw [Au this];exact hcn
 done:=fun X eP eW eK hcalm k pins s σ H E I hf st stp=>by
  subst eP eW eK
  obtain ⟨hz,ha,⟨p,q,hb⟩,h1,h2⟩:=st
  have stp:x.cps.size≤k:=stp
  have hT:s.TypeIs (.ref z) "zip":=⟨_,hz,rfl⟩
  unfold pyNext
  refine wpAny_bind (wpAny_attempt (wpAny_callSpecial?_slot (name:=Str.ofString "__next__") hT PySem.F.slot_zip_next (wpAny_call_entry PySem.F.slot_zip_next hT PySem.F.entry_zip_next
   (Oo (I.ok.hd hcalm) D0.iz hz ha h1 (Array.getElem?_eq_none stp) fun g e kk he=>?_) (PySem.F.args_zip_next_1 _))))
  obtain ⟨o,ho,hc⟩:=he
  refine wpAny_bind (wpAny_isInstance (T:="StopIteration") (b:=true) ⟨o,ho,hc⟩ isSubtype_stop (wpAny_pure ⟨rfl,?_⟩))
  refine I.turnedMany (t':=s.toks) (ch:=[z,b,i,j]) (fun c hc=>hf c ?_) fun c o hc e=>?_
  ·simp only [List.mem_cons,List.not_mem_nil,or_false] at hc ⊢
   rcases hc with h | h | h | h <;> simp [h]
  ·simp only [List.mem_cons,List.not_mem_nil,or_false,not_or] at hc
   exact kk c o hc.1 hc.2.1 hc.2.2.1 hc.2.2.2 e
 self:=fun A k s Q E st hQ=>wpAny_pyIter_zip st.1 hQ
abbrev zs1 (h:Heap) (x:Str) (tk:Tok):Heap:=h.push {cls:=.type (strIterType x),data:=.fields #[.str x tk,.int 0 0]}
abbrev zs2 (h:Heap) (x:Str) (tk:Tok) (t:Addr):Heap:=(zs1 h x tk).push {cls:=.type "tuple_iterator",data:=.fields #[.ref t,.int 0 0]}
abbrev zs3 (h:Heap) (x:Str) (tk:Tok) (t:Addr):Heap:=(zs2 h x tk t).push {cls:=.type "tuple",data:=.seq #[.ref h.objs.size,.ref (zs1 h x tk).objs.size]}
abbrev zs4 (h:Heap) (x:Str) (tk:Tok) (t:Addr):Heap:=(zs3 h x tk t).push {cls:=.type "tuple",data:=.seq #[.none,.none]}
abbrev zs5 (h:Heap) (x:Str) (tk:Tok) (t:Addr):Heap:=(zs4 h x tk t).push {cls:=.type "zip",data:=.fields #[.none,.bool false,.bool false,.ref (zs2 h x tk t).objs.size,.ref (zs3 h x tk t).objs.size]}
theorem MP (x:Str) (tk:Tok) (t:Addr) (ys:Array Value):Meets (Builtin.«zip.__new__» ⟨[.type "zip",.str x tk,.ref t],[]⟩) (fun _ R s=>s.heap.IsTuple t ys∧R (.ok (.ret (.ref (zs4 s.heap x tk t).objs.size))) {s with heap:=zs5 s.heap x tk t}):=
 .of_wp fun prog w A R s h=>by
  obtain ⟨hp,g,d,tk',os⟩:=s;obtain ⟨hl,h⟩:=h
  have hsub:=sub_zip
  have hL:Heap.IsTuple (Shared.heap ⟨hp.push {cls:=.type (strIterType x),data:=.fields #[.str x tk,.int 0 0]},g,d,tk',os⟩) t ys:=by
   obtain ⟨o,e,r⟩:=hl
   exact ⟨o,Heap.get?_push_of_some _ e,r⟩
  wp_walk using wpAny_pyIter_strU,wpAny_pyIter_tuple hL
  exact ⟨_,rfl,h⟩
theorem Kn {prog:Program} {w:World} {A:Around} {E:Value→Shared→Prop} {s:Shared} {x:Str} {tk:Tok} {t:Addr} {ys:Array Value} {Q:Value→Shared→Prop} (hx:strIterType x=CZ) (ht:s.heap.IsTuple t ys)
  (h:∀g,ZTn (s.heap.objs.size + 4) (s.heap.objs.size + 2) (s.heap.objs.size + 3) s.heap.objs.size (s.heap.objs.size + 1) t x tk 0 g→(∀c o,s.heap.get? c=some o→g.get? c=some o)→Q (.ref (s.heap.objs.size + 4)) {s with heap:=g}):
  wpAny (model prog w) A (call (.type "zip") [.str x tk,.ref t]) Q E s:=by
 refine callType_new PySem.F.called_zip (by decide) (PySem.F.typeCall_zip_2 _ _) (PySem.F.newCall_zip_2 _ _) (fun obj=>PySem.F.args_object_init_3 obj _ _) PySem.F.entry_zip_new (MP x tk t ys) ⟨ht,?_⟩
 have z1:(zs1 s.heap x tk).objs.size=s.heap.objs.size + 1:=Heap.size_push ..
 have z2:(zs2 s.heap x tk t).objs.size=s.heap.objs.size + 2:=by rw [Heap.size_push,z1]
 have z3:(zs3 s.heap x tk t).objs.size=s.heap.objs.size + 3:=by rw [Heap.size_push,z2]
 have z4:(zs4 s.heap x tk t).objs.size=s.heap.objs.size + 4:=by rw [Heap.size_push,z3]
 have g5:(zs5 s.heap x tk t).get? (zs4 s.heap x tk t).objs.size=some _:=Heap.get?_push_size _ rfl
 have g4:(zs5 s.heap x tk t).get? (zs3 s.heap x tk t).objs.size=some _:=Heap.get?_push_of_some _ (Heap.get?_push_size _ rfl)
 have g3:(zs5 s.heap x tk t).get? (zs2 s.heap x tk t).objs.size=some _:=Heap.get?_push_of_some _ (Heap.get?_push_of_some _ (Heap.get?_push_size _ rfl))
 have g2:(zs5 s.heap x tk t).get? (zs1 s.heap x tk).objs.size=some _:=Heap.get?_push_of_some _ (Heap.get?_push_of_some _ (Heap.get?_push_of_some _ (Heap.get?_push_size _ rfl)))
 have g1:(zs5 s.heap x tk t).get? s.heap.objs.size=some _:=Heap.get?_push_of_some _ (Heap.get?_push_of_some _ (Heap.get?_push_of_some _ (Heap.get?_push_of_some _ (Heap.get?_push_size _ rfl))))
 show _∧_
 rw [z2,z3,z4] at g5
 rw [z1,z2] at g3
 rw [z3] at g4
 rw [z1] at g2
 rw [z4]
 rw [hx] at g1
 exact ⟨⟨_,g5,rfl⟩,h _ ⟨g5,g3,⟨_,_,g4⟩,⟨_,g1,rfl,rfl⟩,⟨_,g2,rfl,rfl⟩⟩ fun c o y=>Heap.get?_push_of_some _ (Heap.get?_push_of_some _ (Heap.get?_push_of_some _ (Heap.get?_push_of_some _ (Heap.get?_push_of_some _ y))))⟩
section
variable {X:Cx} {G:Gam} {a b:Expr} {pos p:Pos}
def zipD (q:Nat×PyData):PyData:=.tuple [.str ⟨#[q.1]⟩,q.2]
theorem QW {elts:List Expr} {x1} {tpos:Pos} {x:Str} {ds:List PyData} (ha:EV X G a (.str x)) (hb:EV X G b (.tuple ds)) (hx:strIterType x=CZ) (hl:x.cps.size=ds.length) (hg:Gl X "zip") (hm:X.mg "zip"=none)
  (hs:starEach [a,b] X.env=[(false,eval a X.env),(false,eval b X.env)]:=by rfl) (hs2:starEach [b] X.env=[(false,eval b X.env)]:=by rfl):
  IV X G (.Tuple elts x1 tpos) (.Call (.Name "zip" p) [a,b] [] pos) ((x.cps.toList.zip ds).map zipD):=by
 intro pins s σ H R I ⟨h,q⟩
 refine Call_ (Dr I hg hm boot_zip (PyProof.Rows.callWith_type1 (thn (Aa ha (Aa hb Ad hs2) (by rw [hs,hs2]) pos pins s σ H _ I ⟨h,fun vs H' s' dv=>(⟨s',dv⟩:Same H H'∧DVs X.K H' vs [.str x,.tuple ds])⟩) fun us s1 ⟨vs,H1,I1,r1,s1',dv⟩=>?_) (by rw [hs,hs2]) (by rw [hs2];rfl)))
 obtain ⟨v1,v2,rfl,d1,d2⟩:=dv.two
 cases d1.of_str
 obtain ⟨t,ys,rfl,hq,dys⟩:=d2.of_tup
 obtain ⟨u1,u2,rfl,⟨tk,rfl⟩,ru2⟩:=vals2 r1
 cases ru2
 obtain ⟨its,rv,ht,_⟩:=I1.tuple hq
 refine Kn hx (show s1.heap.IsTuple t its.toArray from ht) fun g zt kk=>?_
 refine wpAny_pyIter_zip zt.1 ?_
 have I2:Inv X pins σ H1 {s1 with heap:=g}:=I1.kept (t':=s1.toks) kk
 have sz:∀n,s1.heap.objs.size≤s1.heap.objs.size + n:=fun n=>Nat.le_add_right _ _
 refine ⟨_,_,_,_,H1,rfl,I2,Nc (K:=X.K) (x:=x) (t:=t) (tk:=tk) (z:=s1.heap.objs.size + 4) (a:=s1.heap.objs.size + 2) (b:=s1.heap.objs.size + 3) (i:=s1.heap.objs.size) (j:=s1.heap.objs.size + 1) ⟨?_,?_,?_,?_,?_,?_,?_,?_,?_,?_⟩,zt,fun c hc=>?_,q _ H1 s1' ⟨fun k H2 s2 hk=>?_,fun k H2 v H3 s2 hk ⟨r,c,y,hr,ev,eH,ec,ey⟩=>?_,fun k H2 s2 hk=>?_⟩⟩
 all_goals first
  | exact Nat.ne_of_lt (Nat.add_lt_add_left (by decide) _)
  | exact Nat.ne_of_gt (Nat.add_lt_add_left (by decide) _)
  | exact Nat.ne_of_lt (Nat.lt_add_of_pos_right (by decide))
  | exact Nat.ne_of_gt (Nat.lt_add_of_pos_right (by decide))
  | skip
 ·simp only [List.mem_cons,List.not_mem_nil,or_false] at hc
  rcases hc with rfl | rfl | rfl | rfl | rfl
  ·exact I1.fpOk (sz 4) (I1.hok.fresh (sz 4))
  ·exact I1.fpOk (sz 2) (I1.hok.fresh (sz 2))
  ·exact I1.fpOk (sz 3) (I1.hok.fresh (sz 3))
  ·exact I1.fpOk (Nat.le_refl _) (I1.hok.fresh (Nat.le_refl _))
  ·exact I1.fpOk (sz 1) (I1.hok.fresh (sz 1))
 ·have hk':k < ds.length:=by
   rw [List.length_map,List.length_zip,Array.length_toList,hl] at hk
   omega
  exact ⟨ys,s2.seqT hq,by rw [dys.length];exact hk',by rw [hl];exact hk'⟩
 ·have hk':k < ds.length:=by
   rw [List.length_map,List.length_zip,Array.length_toList,hl] at hk
   omega
  subst ev eH
  have e1:=ey ys (s2.seqT hq)
  obtain ⟨d,e2,e3⟩:=dys.get' e1
  refine ⟨Same.new hr,zipD (c,d),?_,.tup (SqT.of Aw) (.cons (.str _) (.cons ((e3.mono s2).mono (Same.new hr)) .nil))⟩
  rw [List.getElem?_map,show (x.cps.toList.zip ds)[k]?=some (c,d) from by
   rw [List.getElem?_zip_eq_some]
   exact ⟨by simpa using ec,e2⟩]
  rfl
 ·show x.cps.size≤k
  rw [List.length_map,List.length_zip,Array.length_toList,hl] at hk
  omega
end
end L2
namespace PySem.SeqAt
open AutoSeq1 (wpAny_loadPart')
open MeetsSeq MeetsSeq2 MeetsSeq3 SeqRoads2
end PySem.SeqAt
namespace L2
open PySem PySem.Spec PyProof.Rows
def GTup (K:PySem.W.Frag) (mg:Str→Option Value) (x:Str) (ss:List Str):Prop:=
 ∃(a:Addr) (o:Obj) (its:Array Value) (n:Nat),mg x=some (.ref a)∧K.lookup a=some o∧o.cls=.type "tuple"∧o.dict=none∧o.data=.seq its n∧its.size≤sizeLine∧Vals (ss.map V.str) its.toList
def DZ (K:PySem.W.Frag) (mg:Str→Option Value) (P:Params) (x:Str) (tab:List (Str×PyData)):Prop:=
 ∃(a:Addr) (es:Array DictEntry) (n:Nat),mg x=some (.ref a)∧K.lookup a=some ⟨.type "dict",none,.dict es n,#[]⟩∧PySem.W.KeysLit P es.toList∧∀q∈tab,∃u v,PySem.W.nsIn K a q.1=some (some u)∧RelV v u∧∀H,DV K H v q.2
section
variable {X:Cx} {G:Gam} {a b e:Expr} {pos p p2:Pos} {d:PyData} {x:Str}
theorem Jv {tab:List (Str×PyData)} {s:Str} (T:DZ X.K X.mg X.w.params x tab) (hg:Gl X x) (he:EV X G e (.str s)) (hs:(s,d)∈tab) (hp:FY e:=by intro _ _;rfl) (hd:(x==("__debug__":Str))=false:=by decide):EV X G (.Subscript (.Name x p) e pos) d:=by
 obtain ⟨ad,es,n,hm,hk,hl,ht⟩:=T
 obtain ⟨u,v,h1,h2,h3⟩:=ht _ hs
 have ir:IxR X (fun y z H Q=>y=.ref ad∧z=.str s∧Q v H):=by
  intro value slice pins s1 σ H y z vy vz Q I ry rz ⟨e1,e2,q⟩ hsub
  subst e1 e2
  cases ry
  obtain ⟨t,rfl⟩:=rz
  have mo:=PySem.W.mapOf_K (prog:=X.prog) (w:=X.w) I.kIn hk hl
  exact tail_any mo.typeIs slot_dict_getitem.lookup (wpAny_getItem_of (strKind_is X.prog X.w s t) mo (PySem.W.find_K hk h1) ⟨v,H,I.tok _,h2,q⟩) hsub
 exact (No ir (Id (v:=.ref ad) hg hm rfl hd) he hp).imp fun σ H Q ⟨h,q⟩=>⟨h,fun y H1 s1 d1=>⟨rfl,d1.of_str,q v H1 s1 (h3 H1)⟩⟩
end
def tFR (K:PySem.W.Frag) (G:Gam) (ws:List PyData):TS:=fun D σ H=>SD K H σ G∧∀p us H',H p=none→Same H H'→H' p=some (.lst us)→DVs K H' us ws→D.rt (.ref p) H'
abbrev FRs (X:Cx) (G:Gam) (sts:List Stmt) (ws:List PyData):Prop:=PSs X sts (tFR X.K G ws)
def spFL (K:PySem.W.Frag) (F:List PyData→List PyData→Prop):Sp:=fun vs H Q _=>∃ds ws,DVs K H vs ds∧F ds ws∧∀p us H',H p=none→Same H H'→H' p=some (.lst us)→DVs K H' us ws→Q (.ref p) H'
def FFn (P:Program) (w:World) (K:PySem.W.Frag) (mg:Str→Option Value) (base:Heap) (k:Nat) (x:Str) (F:List PyData→List PyData→Prop):Prop:=
 ∃f fd ps,FnOk P w K mg base CX0 k f fd ps (spFL K F)∧mg x=some (.ref f)∧PySem.W.keepIn K (.ref f)=true∧Binds K fd ps []
section
variable {X:Cx} {G:Gam} {c e:Expr} {es:List Expr} {pos pos' pos2:Pos} {ws:List PyData} {sts A B:List Stmt}
theorem Pi {st:Stmt} {G1:Gam} (h1:SV X G st (.next G1)) (h2:FRs X G1 sts ws):FRs X G (st::sts) ws:=
 (A7 h1 h2).imp fun D σ H ⟨h,q⟩=>⟨h,fun σ' H' s' h'=>⟨h',fun p us H2 hp s2 hl dv=>q p us H2 (s'.free hp) (s'.trans s2) hl dv⟩⟩
end
section
variable {P:Program} {w:World} {K:PySem.W.Frag} {mg:Str→Option Value} {base:Heap}
theorem Fun.dataF {x qual:Str} {st:Stmt} {f:Addr} {fd:FuncData} {N ps:List Str} {k:Nat} {F:List PyData→List PyData→Prop} (F0:Fun K x qual st f fd) (hm:mg x=some (.ref f)) (hb:Binds K fd ps []) (S:FnScope N ps (Ai st)) (len:∀ds d,F ds d→ds.length=ps.length)
  (hbody:∀(cdv:Value) (A:Around) (outer:List Env) (s:Shared) (H:Hp) (E:XK) (ds ws:List PyData),Room k (A.deeper (envOfC qual (Ai st) s.heap.objs.size f cdv))→F ds ws→
   FRs (cxOf CX0 P w K mg base N qual (Ai st) f cdv A outer s H E).nox (Bm N ds) (AM st) ws):FFn P w K mg base (k + 1) x F:=
 ⟨f,fd,ps,F0.ok S (fun vs H Q E ⟨ds,d,h1,h2,_⟩=>h1.length.trans (len ds d h2)) (fun cdv A outer s H vs Q E hr ⟨ds,ws,h1,h2,q⟩=>⟨_,hbody cdv A outer s H E ds ws hr h2,SD.start h1,q⟩),hm,F0.kp,hb⟩
end
section
variable {X:Cx} {G G2:Gam} {e:Expr} {es:List Expr} {pos pos' pos2:Pos} {ws ds:List PyData} {sts:List Stmt} {i:Nat} {x y:Str}
def tDF (K:PySem.W.Frag) (G:Gam) (ws:List PyData):TE:=fun σ H Q=>SD K H σ G∧∀p us H',H p=none→Same H H'→H' p=some (.lst us)→DVs K H' us ws→Q (.ref p) H'
abbrev EVF (X:Cx) (G:Gam) (e:Expr) (ws:List PyData):Prop:=PE X e (tDF X.K G ws)
theorem Ob {k:Nat} {F:List PyData→List PyData→Prop} (D:FFn X.prog X.w X.K X.mg X.base k x F) (hr:Room k X.A) (hg:Gl X x) (ha:AV X G (e::es) ds) (hF:F ds ws) (hdb:(x==("__debug__":Str))=false:=by decide)
  (he:starEach (e::es) X.env=(false,eval e X.env)::starEach es X.env:=by rfl) (hpl:(backTo pos (starEach es X.env)).any (·.1)=false:=by rfl):EVF X G (.Call (.Name x pos2) (e::es) [] pos) ws:=by
 obtain ⟨f,fd,ps,ok,hm,hk,hb⟩:=D
 refine (DW ok hr hg hm hk hb .nil CK ha hdb he hpl).imp fun σ H Q ⟨h,q⟩=>⟨h,fun vs H1 s1 d1=>?_⟩
 show spFL X.K F (vs++[]) H1 Q E0
 rw [List.append_nil]
 exact ⟨ds,ws,d1,hF,fun p us H2 hp s2 hl dv=>q p us H2 (s1.free hp) (s1.trans s2) hl dv⟩
end
section
variable {X:Cx} {G:Gam} {a:Expr} {pos:Pos} {da:PyData}
theorem L9 {j pos'} {k:Bool} (ha:EV X G a da) (hk:(!nonD da)=k):TV X G (.Compare a [.IsNot] [.Constant .none j pos'] pos) k:=
 (QM (Pg ha)).imp fun σ H Q ⟨h,q⟩=>⟨h,fun v H' s' dv=>⟨k,by rw [dv.isNon,hk],q H' s'⟩⟩
end
def valB:Value→PyData→Bool
 | .str x _,.str y=>x==y
 | .int i _,.int j=>i==j
 | _,_=>false
def tabB:List (Str×PyData)→List DictEntry→Bool
 | [],[]=>true
 | q::r,e::es=>e.key.isStr q.1 && valB e.val q.2 && tabB r es
 | _,_=>false
theorem IQ {v:Value} {s:Str} (h:v.isStr s=true):∃t,v=.str s t:=by
 cases v with
 | str x t=>exact ⟨t,by rw [eq_of_beq (show (x==s)=true from h)]⟩
 | _=>cases h
theorem Om {u:Value} {d:PyData} (h:valB u d=true):∃v,RelV v u∧∀(K:PySem.W.Frag) H,DV K H v d:=by
 cases u with
 | str x t=>cases d with
   | str y=>exact ⟨.str y,⟨t,by rw [eq_of_beq (show (x==y)=true from h)]⟩,fun _ _=>.str y⟩
   | _=>cases h
 | int x t=>cases d with
   | int y=>exact ⟨.int y,⟨t,by rw [eq_of_beq (show (x==y)=true from h)]⟩,fun _ _=>.int y⟩
   | _=>cases h
 | _=>cases h
theorem Hv:∀{tab:List (Str×PyData)} {es:List DictEntry},tabB tab es=true→(tab.map (·.1)).Nodup→∀q∈tab,∃e,es.find? (·.key.isStr q.1)=some e∧valB e.val q.2=true
 | [],[],_,_,q,hq=>by cases hq
 | [],_::_,h,_,_,_=>by cases h
 | _::_,[],h,_,_,_=>by cases h
 | p::r,e::es,h,hn,q,hq=>by
   have h:=Bool.and_eq_true_iff.mp (show (e.key.isStr p.1 && valB e.val p.2 && tabB r es)=true from h)
   have h1:=Bool.and_eq_true_iff.mp h.1
   rw [List.map_cons,List.nodup_cons] at hn
   rcases List.mem_cons.mp hq with rfl | hq
   ·exact ⟨e,by rw [List.find?_cons,h1.1],h1.2⟩
   ·obtain ⟨e',f1,f2⟩:=Hv h.2 hn.2 q hq
    refine ⟨e',?_,f2⟩
    have:e.key.isStr q.1=false:=by
     obtain ⟨t,e1⟩:=IQ h1.1
     rw [e1]
     refine beq_eq_false_iff_ne.mpr fun c=>hn.1 ?_
     rw [c]
     exact List.mem_map.mpr ⟨q,hq,rfl⟩
    rw [List.find?_cons,this]
    exact f1
theorem gdict_mk {K:PySem.W.Frag} {mg:Str→Option Value} {h:Heap} {P:Params} (X:K.In h) (G:h.Ns mainGlobals mg) {x:Str} {tab:List (Str×PyData)} {a:Addr} {es:Array DictEntry} {n:Nat}
  (z:PySem.W.nsIn K mainGlobals x=some (some (.ref a))) (l:K.lookup a=some ⟨.type "dict",none,.dict es n,#[]⟩) (hk:PySem.W.KeysLit P es.toList) (ht:tabB tab es.toList=true) (hn:(tab.map (·.1)).Nodup):DZ K mg P x tab:=
 ⟨a,es,n,PySem.W.mg_of X G z,l,hk,fun q hq=>by
   obtain ⟨e,h1,h2⟩:=Hv ht hn q hq
   obtain ⟨v,r,d⟩:=Om h2
   exact ⟨e.val,v,by unfold PySem.W.nsIn;rw [l];simp only;rw [h1],r,fun H=>d K H⟩⟩
def TabV (K:PySem.W.Frag) (H:Hp):List (Key×V)→List (Str×PyData)→Prop
 | [],[]=>True
 | kv::r,q::t=>kv.1=.inr q.1∧DV K H kv.2 q.2∧TabV K H r t
 | _,_=>False
mutual
def noK:PyData→Bool
 | .none=>true
 | .bool _=>true
 | .int _=>true
 | .str _=>true
 | .tuple xs=>noKs xs
 | .list xs=>noKs xs
 | .dict _=>false
def noKs:List PyData→Bool
 | []=>true
 | x::r=>noK x && noKs r
end
theorem FW {H:Hp} {p a:Addr} {kvs:List (Key×V)} {o:HO} (hp:H p=some (.dK kvs)) (e:H a=some o) (n:∀k,o≠.dK k):a≠p:=fun c=>by subst c;rw [hp] at e;cases e;exact n _ rfl
mutual
theorem DV.noDict {K:PySem.W.Frag} {H H':Hp} {p:Addr} {kvs:List (Key×V)} (hp:H p=some (.dK kvs)) (hH:∀a,a≠p→H' a=H a):∀{v:V} {d:PyData},DV K H v d→noK d=true→DV K H' v d
 | _,_,.non,_=>.non
 | _,_,.bl b,_=>.bl b
 | _,_,.int i,_=>.int i
 | _,_,.str x,_=>.str x
 | _,_,.tup (a:=a) h t,f=>by
   refine .tup ?_ (DVs.noDict hp hH t (by unfold noK at f;exact f))
   rcases h with (h | ⟨o,h⟩) | h
   ·exact .inl (.inl (by rw [hH a (FW hp h fun _ c=>by cases c)];exact h))
   ·exact .inl (.inr ⟨o,by rw [hH a (FW hp h fun _ c=>by cases c)];exact h⟩)
   ·exact .inr h
 | _,_,.lst (a:=a) h t,f=>by
   refine .lst ?_ (DVs.noDict hp hH t (by unfold noK at f;exact f))
   rcases h with (h | ⟨o,h⟩) | h
   ·exact .inl (.inl (by rw [hH a (FW hp h fun _ c=>by cases c)];exact h))
   ·exact .inl (.inr ⟨o,by rw [hH a (FW hp h fun _ c=>by cases c)];exact h⟩)
   ·exact .inr h
 | _,_,.dct h t,f=>by unfold noK at f;cases f
 | _,_,.exc h,f=>by unfold noK at f;cases f
 | _,_,.exr h h',f=>by unfold noK at f;cases f
 | _,_,.obj h n t,f=>by unfold noK at f;cases f
 | _,_,.dtt h,f=>by unfold noK at f;cases f
theorem DVs.noDict {K:PySem.W.Frag} {H H':Hp} {p:Addr} {kvs:List (Key×V)} (hp:H p=some (.dK kvs)) (hH:∀a,a≠p→H' a=H a):∀{v:List V} {d:List PyData},DVs K H v d→noKs d=true→DVs K H' v d
 | _,_,.nil,_=>.nil
 | _,_,.cons h t,f=>by
   unfold noKs at f
   rw [Bool.and_eq_true] at f
   exact .cons (DV.noDict hp hH h f.1) (DVs.noDict hp hH t f.2)
end
def S7 (t:List (Str×PyData)) (s:Str):Option PyData:=(t.find? fun q=>q.1==s).map (·.2)
section
variable {X:Cx} {G:Gam} {e f:Expr} {pos p p2 apos:Pos} {d d0:PyData} {x:Str} {keys:List (Option Expr)} {values:List Expr} {tab:List (Str×PyData)}
end
section
variable {X:Cx} {G:Gam} {o e:Expr} {pos p p2:Pos} {d:PyData} {x:Str}
theorem DVs.of_strs {K:PySem.W.Frag} {H:Hp}:∀{ss:List Str} {vs:List V},DVs K H vs (ss.map PyData.str)→vs=ss.map V.str
 | [],_,.nil=>rfl
 | a::r,_,.cons h t=>by rw [h.of_str,DVs.of_strs t];rfl
theorem DQ {ss:List Str} {s:Str} {j:Nat} {apos:Pos} (ho:EV X G o (.list (ss.map PyData.str))) (he:EV X G e (.str s)) (hj:ss[j]?=some s) (hno:∀m,m < j→ss[m]?≠some s)
  (hb:attributeBase o "index" X.env (eval o X.env)=eval o X.env:=by rfl)
  (hfew:((backTo pos (starEach [e] X.env)).all (fun x=>!x.1) && (backToKw pos (keywordEach [] X.env)).all (fun x=>x.1.isSome)
   && decide ([e].length + ([]:List Keyword).length + (if ([]:List Keyword).isEmpty then 0 else 1) < 30))=true:=by rfl)
  (hline:(apos.endLine==pos.line)=true:=by rfl) (hs:starEach [e] X.env=(false,eval e X.env)::starEach [] X.env:=by rfl) (hpl:(backTo pos (starEach [] X.env)).any (·.1)=false:=by rfl):
  EV X G (.Call (.Attribute o "index" apos) [e] [] pos) (.int j):=by
 have hjl:j < ss.length:=(List.getElem?_eq_some_iff.mp hj).1
 have mr:MtR X "list.index" (fun y ys H Q=>∃l,y=.ref l∧SqL X.K H l (ss.map V.str)∧ys=[.str s]∧Q (.int j) H):=by
  intro pins s1 σ H y ys v us Q I ry rys ⟨l,e1,hl,e2,q⟩
  subst e1 e2
  cases ry
  obtain ⟨u,rfl,ru⟩:=vals1 rys
  obtain ⟨its,r,⟨ob,n,h1,h2,h3,h4⟩,hz⟩:=I.list hl
  obtain ⟨oc,od,odt,osl⟩:=ob
  simp only at h2 h3 h4
  subst h2 h3 h4
  have hlen:its.length=ss.length:=by rw [←r.length,List.length_map]
  rw [List.length_map,sizeLine_eq] at hz
  have get:∀m (hm:m < its.toArray.size),∃t,its.toArray[m]=Value.str (ss[m]'(by simpa [hlen] using hm)) t:=by
   intro m hm
   have hm2:m < ss.length:=by simpa [hlen] using hm
   obtain ⟨u2,eu,t,ru2⟩:=r.get (i:=m) (x:=V.str ss[m]) (by simp [hm2])
   refine ⟨t,?_⟩
   rw [←ru2]
   have hm3:m < its.length:=by rw [hlen];exact hm2
   rw [List.getElem?_eq_getElem hm3] at eu
   simpa using Option.some.inj eu
  have hjs:j < its.toArray.size:=by simpa [hlen] using hjl
  refine call_meets PySem.F.slot_list_index ⟨_,h1,rfl⟩ PySem.F.entry_list_index (PySem.F.args_list_index_2 _ _) (PySem.SeqAt.list_indexAt l its.toArray n none osl u (fun y=>y.isStr s) j hjs (by omega) ?_ ?_)
   ⟨h1,fun y hy=>?_,⟨.int j,H,I.tok _,⟨_,rfl⟩,q⟩⟩
  ·obtain ⟨t,et⟩:=get j hjs
   simp only [et]
   show (_==s)=true
   have:=(List.getElem?_eq_some_iff.mp hj).2
   simpa using this
  ·intro m hm hlt
   obtain ⟨t,et⟩:=get m hm
   simp only [et]
   show (_==s)=false
   have hm2:m < ss.length:=by simpa [hlen] using hm
   refine beq_eq_false_iff_ne.mpr fun c=>hno m hlt ?_
   rw [List.getElem?_eq_getElem hm2,c]
  ·obtain ⟨m,hm,em⟩:=Array.getElem_of_mem hy
   obtain ⟨t,et⟩:=get m hm
   rw [←em,et]
   have rr:RelV (.str (ss[m]'(by simpa [hlen] using hm))) (Value.str (ss[m]'(by simpa [hlen] using hm)) t):=⟨t,rfl⟩
   exact Oi (A:=X.A.in1) (s:=s1) rr ru rfl rfl
 refine (La PySem.F.plainAttrs_list PySem.F.slot_list_index PySem.F.type_list_index mr ho (Aa he Ad hs) hb hfew hline hs hpl).imp fun σ H Q ⟨h,q⟩=>⟨h,fun v H1 s1 d1=>?_⟩
 obtain ⟨l,us,rfl,hl,d2⟩:=d1.of_lst
 refine ⟨.inl ⟨rfl,us,hl⟩,h.mono s1,fun vs H2 s2 d3=>?_⟩
 obtain ⟨v,rfl,dv⟩:=d3.one
 exact ⟨l,rfl,by rw [←d2.of_strs];exact s2.seq hl,by rw [dv.of_str],q _ H2 (s1.trans s2) (.int j)⟩
end
section
variable {X:Cx} {G:Gam} {H0:Hp} {p:Addr} {i j:Nat} {Pre Mid Post:Gam→List PyData→Prop} {a b e c:Expr} {es:List Expr} {pos pos' pos2:Pos} {x:Str} {ws xs ys:List PyData} {d:PyData}
theorem CV (h:AV X G es ws) (hz:ws.length≤sizeLine):EVF X G (.List es pos) ws:=
 (G5 h).imp fun σ H Q ⟨h,q⟩=>⟨h,fun vs H1 s1 d1=>⟨by rw [d1.length];exact hz,fun p hp=>q p vs _ (s1.free hp) (s1.trans (Same.new hp)) Aw (d1.mono (Same.new hp))⟩⟩
theorem IT {sts:List Stmt} (h:∀G ds,Pre G ds→SVs X (Fy G i ds) sts (.ret d)):HRs X H0 p i Pre sts (fun z=>z=d):=by
 intro pins s σ H D I ⟨⟨G,ds,a,o⟩,q⟩
 refine h G ds a pins s σ H D I ⟨o.sd,fun v H' s' dv=>q d v H' rfl ?_ dv⟩
 obtain ⟨Hb,vs,rfl,hn,s0,_⟩:=o
 exact (s0.trans (Same.new hn)).trans s'
theorem IR {sts:List Stmt} (hN:X.N.Nodup) (hi:X.N[i]?=some x) (hx:Loc X.env.scope x) (hG:i < G.length) (h:∀H0 p,HRs X H0 p i (fun G' ds=>G'=G.set i none∧ds=[]) sts (fun z=>z=d))
  (hs:swapsWith (.List [] pos2) (some (.Name x pos')) pos.line X.env=pure false:=by rfl) (hf:X.fn x=true∨X.env.scope.names.lookup x=some .local:=by first | exact .inl rfl | exact .inr rfl | assumption):
  SVs X G (.Assign [.Name x pos'] (.List [] pos2) pos::sts) (.ret d):=
 (Pj hN hi hx hG h hs hf).imp fun D σ H ⟨h,q⟩=>⟨h,fun d' v H' e s dv=>by subst e;exact q v H' s dv⟩
def Sj (K:PySem.W.Frag) (xs ys:List PyData):R2:=fun x y H Q=>DV K H x (.list xs)∧DV K H y (.list ys)∧∀p us H',H p=none→Same H H'→H' p=some (.lst us)→DVs K H' us (xs++ys)→Q (.ref p) H'
theorem Pq (hz:xs.length + ys.length≤sizeLine):OpR X (binaryOp .Add) (Sj X.K xs ys):=by
 intro pins s σ H x y v u Q I rx ry ⟨h1,h2,q⟩
 obtain ⟨l,us,rfl,hl,d1⟩:=h1.of_lst
 obtain ⟨m,ws,rfl,hm,d2⟩:=h2.of_lst
 cases rx
 cases ry
 obtain ⟨its,r,pl,_⟩:=I.list hl
 obtain ⟨its2,r2,pl2,_⟩:=I.list hm
 obtain ⟨⟨cls,dd,data,sl⟩,ho,hc,n,hd⟩:=pl.isList
 obtain ⟨⟨cls2,dd2,data2,sl2⟩,ho2,hc2,n2,hd2⟩:=pl2.isList
 simp only at hc hd hc2 hd2
 subst hc hd hc2 hd2
 have hn:its.toArray.size + its2.toArray.size≤sizeLine:=by rw [List.size_toArray,List.size_toArray,←r.length,←r2.length,d1.length,d2.length];exact hz
 refine concat_meets ⟨_,ho,rfl⟩ ⟨_,ho2,rfl⟩ noFill_list_add seq_list_add PySem.F.slot_list_add PySem.F.entry_list_add (PySem.F.args_list_add_2 _ _) (list_addW l m its.toArray its2.toArray n n2 dd dd2 sl sl2 hn) ⟨ho,ho2,?_⟩
 have ea:its.toArray++its2.toArray=(its++its2).toArray:=by simp
 rw [ea]
 have hf:=I.hok.fresh (Nat.le_refl _)
 refine ⟨.ref s.heap.objs.size,_,I.laid (t':=s.toks) (o:=.lst (us++ws)) (fun b o e=>Heap.get?_push_of_some _ e) (Nat.le_refl _) ⟨by rw [List.length_append,d1.length,d2.length];exact hz,its++its2,0,r.append r2,Heap.get?_push_size _ rfl⟩,rfl,q _ (us++ws) _ hf (Same.new hf) Aw ((d1.append d2).mono (Same.new hf))⟩
theorem Lm (ha:EV X G a (.list xs)) (hb:EV X G b (.list ys)) (hz:xs.length + ys.length≤sizeLine):EVF X G (.BinOp a .Add b pos) (xs++ys):=
 (Qb (Pq hz) ha hb).imp fun σ H Q ⟨h,k⟩=>HS h fun x y H' s' d1 d2=>⟨d1,d2,fun p us H2 hp s2 hl dv=>k p us H2 (s'.free hp) (s'.trans s2) hl dv⟩
end
section
def hasK (es:List (PyData×PyData)) (k:Key):Bool:=es.any fun q=>PyData.eqv q.1 (keyD k)
def putD (es:List (PyData×PyData)) (k:Key) (d:PyData):List (PyData×PyData):=if hasK es k=true then es.map (fun q=>if PyData.eqv q.1 (keyD k)=true then (q.1,d) else q) else es++[(keyD k,d)]
section
variable {X:Cx} {G:Gam} {H0:Hp} {p:Addr} {i j:Nat} {a b e c:Expr} {pos pos' pos2:Pos} {x:Str} {d:PyData} {es:List (PyData×PyData)}
end
mutual
theorem DVk.noDict {K:PySem.W.Frag} {H H':Hp} {p:Addr} {kvs:List (Key×V)} (hp:H p=some (.dK kvs)) (hH:∀a,a≠p→H' a=H a):∀{v:List (Key×V)} {d:List (PyData×PyData)},DVk K H v d→(d.all fun q=>noK q.2)=true→DVk K H' v d
 | _,_,.nil,_=>.nil
 | _,_,.cons h t,f=>by
   rw [List.all_cons,Bool.and_eq_true] at f
   exact .cons (DV.noDict hp hH h f.1) (DVk.noDict hp hH t f.2)
end
abbrev SA (G:Gam) (i:Nat) (es:List (PyData×PyData)):Gam:=G.set i (some (.dict es))
def ODt (K:PySem.W.Frag) (H0:Hp) (p:Addr) (i:Nat) (G:Gam) (es:List (PyData×PyData)) (σ:St) (H:Hp):Prop:=
 ∃Hb kvs,H=upd Hb p (.dK kvs)∧Hb p=none∧Same H0 Hb∧SD K Hb σ G∧σ[i]?=some (some (.ref p))∧DVk K Hb kvs es
section
variable {X:Cx} {H0:Hp} {p:Addr} {i j:Nat} {Pre Mid Post PreA PreB:Gam→List (PyData×PyData)→Prop} {e c:Expr} {pos pos' pos2:Pos} {x:Str}
variable {G:Gam} {d:PyData}
end
end
section
variable {X:Cx} {G:Gam} {H0:Hp} {p:Addr} {i j:Nat} {Pre Mid Post:Gam→List PyData→Prop} {a b e c tg:Expr} {es:List Expr} {pos pos' pos2:Pos} {x:Str} {ws xs ys:List PyData} {d:PyData} {R:PyData→Prop}
def He:List Nat→List PyData→Gam→Gam
 | i::is,d::ds,G=>He is ds (G.set i (some d))
 | _,_,G=>G
def EF (is:List Nat) (d:PyData) (G:Gam):Gam:=match d with
 | .tuple ds=>He is ds G
 | _=>G
def DD:List Nat→TGs
 | []=>gNil
 | i::is=>J9 (C2 i) (DD is)
theorem Jt {K:PySem.W.Frag} {H:Hp}:∀(is:List Nat) (ds:List PyData) (vs:List V) (σ:St) (G:Gam) (Q:St→Hp→Prop),is.length=ds.length→SD K H σ G→DVs K H vs ds→(∀σ2,SD K H σ2 (He is ds G)→Q σ2 H)→DD is vs σ H Q
 | [],[],_,σ,G,Q,_,h,.nil,q=>⟨rfl,q σ h⟩
 | i::is,d::ds,_,σ,G,Q,hl,h,.cons (x:=v) (xs:=vs) dv t,q=>⟨v,vs,rfl,Jt is ds vs _ _ Q (Nat.succ.inj hl) (h.set dv) t q⟩
theorem DM {K:PySem.W.Frag} {k:Nat} (is:List Nat) (ds:List PyData) (hl:is.length=ds.length):BindD K k (gTup K is.length (DD is)) (EF is) (.tuple ds):=⟨fun v σ H G Q h dv q=>by
 obtain ⟨l,us,rfl,hs,d1⟩:=dv.of_tup
 exact ⟨l,us,rfl,hs,by rw [d1.length,hl],Jt is ds us σ G Q hl h d1 q⟩⟩
theorem Ei {k:Nat} {g:TG} {B:PyData→Gam→Gam} {G1:Gam} (he:EV X G e d) (hg:PG X tg g) (hb:BindD X.K k g B d) (hG:B d G=G1) (hs:swapsWithSole [tg] e pos.line X.env=pure false:=by rfl) (hw:swappedStores [tg] e X.env=pure none:=by rfl)
  (h1:(assignEach [tg] X.env).map (·.2)=[assign tg X.env]:=by rfl):SV X G (.Assign [tg] e pos) (.next G1):=hG ▸
 (GK he hg hs hw h1).imp fun D σ H ⟨h,q⟩=>⟨h,fun v H1 s1 d1=>hb.to v σ H1 G _ (h.mono s1) d1 fun σ2 h2=>q σ2 H1 s1 h2⟩
theorem Nn {i j:Int} (hc:X.calm=true):CD X (.builtin "min") [.int i,.int j] (.int (if j < i then j else i)):=(Mv hc).imp fun xs H Q ⟨h,q⟩=>by
 obtain ⟨v,w,rfl,dv,dw⟩:=h.two
 exact ⟨i,j,by rw [dv.of_int,dw.of_int],q _ H (Same.refl H) (.int _)⟩
end
def RM {α:Type} (N:Nat) (R:α→Prop):PySem.W.KasT α→Prop
 | .ret a=>R a
 | .ask i j k=>i < N∧j < N∧∀b,RM N R (k b)
def PmN (N:Nat) (p:Array Nat):Prop:=p.Perm (List.toArray (List.range N))
section
variable {N:Nat} (hN:0 < N)
include hN
end
section
variable {prog:Program} {w:World} {A:Around} {E:Value→Shared→Prop} {s:Shared}
end
section
variable {X:Cx} {G:Gam} {o:Expr} {pos p apos cpos:Pos} {es:List (PyData×PyData)}
end
section
variable {X:Cx} {H0:Hp} {p:Addr} {i j:Nat} {Pre Mid Post PreA PreB:Gam→List (PyData×PyData)→Prop} {e c:Expr} {es:List Expr} {pos pos' pos2 p1:Pos} {x:Str} {G:Gam} {d:PyData} {R:PyData→Prop} {Rs:List PyData→Prop} {ds:List PyData}
end
theorem LR {prog:Program} {w:World} {A:Around} {E:Value→Shared→Prop} {s:Shared} {Kk:Type} [DecidableEq Kk] {knd:PySem.KeyKind prog w Kk} {d:Addr} {k:Kk} {key v:Value} {f:Kk→Option Value} {Q:Value→Shared→Prop} (hkey:knd.is k key=true) (hm:s.heap.MapOf knd d f) (hv:f k=some v)
  (h:Q (.bool false) {s with toks:=s.toks + 1}):wpAny (model prog w) A (compareOp .NotIn key (.ref d)) Q E s:=by
 show wpAny _ _ (do return .bool (!(←contains (.ref d) key))) Q E s
 refine wpAny_bind ?_
 unfold contains
 try with_reducible refine wpAny_holding ?_
 refine wpAny_bind (wpAny_specialOf hm.typeIs slot_dict_contains.lookup ?_)
 show wpAny _ _ (if (some (Value.builtin "dict.__contains__")==some Value.none)=true then _ else _) _ E s
 rw [if_neg (by rw [beq_builtin_none];exact Bool.false_ne_true)]
 refine wpAny_bind (wpAny_callSpecialUnlessNone?_slot (name:=Str.ofString "__contains__") hm.typeIs slot_dict_contains
  (wpAny_call_entry slot_dict_contains hm.typeIs entry_dict_contains ?_ (args_dict_contains _ _)))
 show wpAny _ _ (dictGet d key >>=_) _ _ s
 refine wpAny_bind (wpAny_dictGet_of hkey hm ?_)
 rw [hv]
 show wpAny _ _ (ret (.bool true)) _ _ _
 exact wpAny_pure ⟨_,rfl,wpAny_truthy_bool (wpAny_pure h)⟩
section
variable {X:Cx} {G:Gam} {a b e:Expr} {pos p p2:Pos} {d:PyData} {x:Str}
theorem LU {tab:List (Str×PyData)} {s:Str} (T:DZ X.K X.mg X.w.params x tab) (hg:Gl X x) (he:EV X G e (.str s)) (hs:(s,d)∈tab) (hd:(x==("__debug__":Str))=false:=by decide) (hmk:behindInMarks .NotIn (.Name x p)=false:=by with_unfolding_all rfl):TV X G (.Compare e [.NotIn] [.Name x p] pos) false:=by
 obtain ⟨ad,es,n,hm,hk,hl,ht⟩:=T
 obtain ⟨u,v,h1,h2,h3⟩:=ht _ hs
 have ir:OpR X (compareOp .NotIn) (fun y z H Q=>y=.str s∧z=.ref ad∧Q (.bl false) H):=by
  intro pins s1 σ H y z vy vz Q I ry rz ⟨e1,e2,q⟩
  subst e1 e2
  cases rz
  obtain ⟨t,rfl⟩:=ry
  have mo:=PySem.W.mapOf_K (prog:=X.prog) (w:=X.w) I.kIn hk hl
  exact LR (strKind_is X.prog X.w s t) mo (PySem.W.find_K hk h1) ⟨.bl false,H,I.tok _,rfl,q⟩
 exact (Ix ir he (Id (v:=.ref ad) hg hm rfl hd) hmk).imp fun σ H Q ⟨h,q⟩=>⟨h,fun y H1 s1 d1=>⟨d1.of_str,rfl,false,rfl,q H1 s1⟩⟩
end
theorem Me {prog:Program} {w:World} {A:Around} (hh:A.handled=none) (it t:Addr) (hne:t≠it) (its:Array Value):
  PySem.Draws prog w A it [it,t] its.size (fun i v=>its[i]?=some v) (fun i h=>h.IsTupleIter it t i∧h.IsTuple t its) where
 live:=fun _ _ st=>let ⟨o,ho,_⟩:=st.1;⟨o,ho⟩
 frame:=fun _ _ _ st hk=>by
  obtain ⟨⟨o,ho,r⟩,⟨o2,ho2,r2⟩⟩:=st
  exact ⟨⟨o,hk it (by simp) o ho,r⟩,⟨o2,hk t (by simp) o2 ho2,r2⟩⟩
 item:=fun i s Q E hi st hQ=>by
  refine Jj st.1 st.2 (x:=its[i]) (by simp [hi]) fun h' hit' hs'=>?_
  refine hQ _ h' s.toks (by simp [hi]) ⟨hit',?_⟩ hs'
  obtain ⟨o2,ho2,r2⟩:=st.2
  exact ⟨o2,hs'.extBut _ _ hne ho2,r2⟩
 done:=fun s Q E st hE=>EU hh st.1 st.2 (by simp) hE
theorem Ml (t:Addr) (ys:Array Value):Meets (Builtin.«enumerate.__new__» ⟨[.type "enumerate",.ref t],[]⟩) (fun _ R s=>s.heap.IsTuple t ys∧
   R (.ok (.ret (.ref (s.heap.push {cls:=.type "tuple_iterator",data:=.fields #[.ref t,.int 0 0]}).objs.size)))
     {s with heap:=(s.heap.push {cls:=.type "tuple_iterator",data:=.fields #[.ref t,.int 0 0]}).push {cls:=.type "enumerate",data:=.fields #[.none,.bool false,.ref s.heap.objs.size,rawInt 0,.none,.none]}}):=
 .of_wp fun prog w A R s h=>by
  obtain ⟨hp,g,d,tk,os⟩:=s
  obtain ⟨ht,h⟩:=h
  have hsub:=sub_enumerate
  obtain ⟨ol,hl,hc,n,hd⟩:=id ht
  wp_walk using wpAny_loadPart' hl
  refine wpAny_stack_any fun st=>wpAny_pure ?_
  split
  ·rename_i c _ _ _ _ _
   cases (c==Value.type "enumerate")
   ·wp_walk using wpAny_loadPart' hl,wpAny_pyIter_tuple ht
    exact ⟨_,rfl,h⟩
   ·wp_walk using wpAny_loadPart' hl,wpAny_pyIter_tuple ht
    exact ⟨_,rfl,h⟩
  ·wp_walk using wpAny_loadPart' hl,wpAny_pyIter_tuple ht
   exact ⟨_,rfl,h⟩
def Kf (K:PySem.W.Frag) (t:Addr):It:=
 ⟨fun k H=>∃ys,SqT K H t ys∧k < ys.length,fun k H v H'=>∃p y,H p=none∧v=.ref p∧H'=upd H p (.tup [.int (k:Int),y])∧∀ys,SqT K H t ys→ys[k]?=some y,fun k H=>∃ys,SqT K H t ys∧ys.length≤k⟩
def ETn (e it t:Addr) (k:Nat) (h:Heap):Prop:=(∃old,IsEnum h e it (k:Int) old)∧h.IsTupleIter it t k
theorem HV {P:Program} {w:World} {K:PySem.W.Frag} {elts:List Expr} {x1} {tpos:Pos} {e it t:Addr} (D0:e≠it):Turn P w K (.Tuple elts x1 tpos) (Kf K t) [e,it] e (ETn e it t) where
 mem:=by simp
 obj:=fun k h st c hc=>by
  obtain ⟨⟨old,he⟩,⟨o2,e2,_,d2⟩⟩:=st
  simp only [List.mem_cons,List.not_mem_nil,or_false] at hc
  rcases hc with rfl | rfl
  ·exact ⟨_,he,fun v z=>(by cases z)⟩
  ·exact ⟨_,e2,fun v z=>by rw [d2] at z;cases z⟩
 keep:=fun k h h' st kk=>by
  obtain ⟨⟨old,he⟩,⟨o2,e2,r2⟩⟩:=st
  exact ⟨⟨old,kk e (by simp) _ he⟩,⟨o2,kk it (by simp) _ e2,r2⟩⟩
 item:=fun X eP eW eK hcalm k pins s σ H E I hf st go=>by
  subst eP eW eK
  obtain ⟨ys,hq,hk⟩:=go
  obtain ⟨⟨old,he⟩,h2⟩:=st
  obtain ⟨its,rv,ht,hzz⟩:=I.tuple hq
  have te:t≠e:=Fg I hq (hf e (by simp))
  have ti:t≠it:=Fg I hq (hf it (by simp))
  have hy:ys[k]?=some ys[k]:=List.getElem?_eq_getElem hk
  obtain ⟨u,eu,ru⟩:=rv.get hy
  have hki:k < its.toArray.size:=by
   have:=(List.getElem?_eq_some_iff.mp eu).1
   simpa using this
  have hp:H s.heap.objs.size=none:=I.hok.fresh (Nat.le_refl _)
  have elt:e < s.heap.objs.size:=Heap.lt_size he
  refine wpAny_pyNext_enum_itemD (Me (A:=X.A.in1) (I.ok.hd hcalm) it t ti its.toArray) he ⟨h2,ht⟩ hki D0 (by simp [D0,te.symm]) fun x h' tk hx ho hs' hT hsz hk'=>⟨_,rfl,?_⟩
  have ex:x=u:=by
   have:its.toArray[k]?=some u:=by simpa using eu
   rw [this] at hx
   exact (Option.some.inj hx).symm
  subst ex
  refine wpAny_letOwnedTupleGo_enum ho fun g' z' s'=>?_
  have k':∀c o,c∉[e,it]→s.heap.get? c=some o→g'.get? c=some o:=fun c o hc e1=>by
   simp only [List.mem_cons,List.not_mem_nil,or_false,not_or] at hc
   exact s'.extBut _ _ hc.1 (hk' c o hc.1 hc.2 e1)
  have i':g'.IsTupleIter it t (k + 1):=by
   obtain ⟨o,e1,r⟩:=hs'.1
   exact ⟨o,s'.extBut _ _ D0.symm e1,r⟩
  have z2:IsEnum g' e it (((k + 1:Nat):Int)) x:=z'
  have I1:Inv X pins σ (upd H s.heap.objs.size (.tup [.int (k:Int),ys[k]])) {s with heap:=g',toks:=tk + 1}:=I.turnedNew (ch:=[e,it]) hf k' (fun c hc=>by
   simp only [List.mem_cons,List.not_mem_nil,or_false] at hc
   rcases hc with rfl | rfl
   ·exact ⟨_,z2⟩
   ·exact ⟨_,i'.choose_spec.1⟩) (Nat.le_refl _) (us:=[.int (k:Int) tk,x]) (.cons ⟨_,rfl⟩ (.cons ru .nil)) (by rw [sizeLine_eq];show 2≤16777216;decide) ⟨⟨_,s'.extBut _ _ (Nat.ne_of_gt elt) hT,rfl,_,rfl⟩,_,s'.extBut _ _ (Nat.ne_of_gt elt) hT,rfl⟩
  refine ⟨.ref s.heap.objs.size,_,I1,rfl,⟨_,ys[k],hp,rfl,rfl,fun zs hzs=>?_⟩,⟨⟨_,z2⟩,i'⟩,fun c hc=>?_⟩
  ·rw [I.tuple_inj hzs hq];exact hy
  ·have hcn:=(hf c hc).1
   have:c≠s.heap.objs.size:=fun ec=>by
    obtain ⟨o,eo⟩:∃o,s.heap.get? c=some o:=by
     simp only [List.mem_cons,List.not_mem_nil,or_false] at hc
     rcases hc with rfl | rfl
     ·exact ⟨_,he⟩
     ·exact ⟨_,h2.choose_spec.1⟩
    exact absurd (Heap.lt_size eo) (by rw [ec];exact Nat.lt_irrefl _)
   rw [Au this];exact hcn
 done:=fun X eP eW eK hcalm k pins s σ H E I hf st stp=>by
  subst eP eW eK
  obtain ⟨⟨old,he⟩,h2⟩:=st
  obtain ⟨ys,hq,hk⟩:=stp
  obtain ⟨its,rv,ht,hzz⟩:=I.tuple hq
  have hT:s.TypeIs (.ref e) "enumerate":=⟨_,he,rfl⟩
  unfold pyNext
  refine wpAny_bind (wpAny_attempt (wpAny_callSpecial?_slot (name:=Str.ofString "__next__") hT F.slot_enumerate_next
   (wpAny_call_entry F.slot_enumerate_next hT F.entry_enumerate_next ?_ (F.args_enumerate_next_1 _))))
  show wpAny _ _ (field (.ref e) 2 >>=_) _ _ _
  refine wpAny_bind (wpAny_field he rfl (x:=.ref it) rfl ?_)
  refine wpAny_bind (EU (A:=X.A.in1) (I.ok.hd hcalm) h2 ht (by rw [Array.getElem?_eq_none];simp [←rv.length];exact hk) fun g x kk hx=>?_)
  obtain ⟨o,ho,hc⟩:=hx
  refine wpAny_bind (wpAny_isInstance (T:="StopIteration") (b:=true) ⟨o,ho,hc⟩ isSubtype_stop (wpAny_pure ⟨rfl,?_⟩))
  refine I.turnedMany (t':=s.toks) (ch:=[it]) (fun c hc=>hf c ?_) fun c o hc e=>?_
  ·have:=List.mem_singleton.mp hc
   subst this
   simp
  ·exact kk c o (fun z=>hc (by rw [z];simp)) e
 self:=fun A k s Q E st hQ=>by
  obtain ⟨⟨old,he⟩,_⟩:=st
  exact wpAny_pyIter_enum he hQ
theorem Gu {prog:Program} {w:World} {A:Around} {E:Value→Shared→Prop} {s:Shared} {t:Addr} {ys:Array Value} {Q:Value→Shared→Prop} (ht:s.heap.IsTuple t ys)
  (h:∀g,ETn (s.heap.objs.size + 1) s.heap.objs.size t 0 g→(∀c o,s.heap.get? c=some o→g.get? c=some o)→Q (.ref (s.heap.objs.size + 1)) {s with heap:=g}):
  wpAny (model prog w) A (call (.type "enumerate") [.ref t]) Q E s:=by
 refine callType_new PySem.F.called_enumerate (by decide) (PySem.F.typeCall_enumerate_1 _) (PySem.F.newCall_enumerate_1 _) (fun obj=>PySem.F.args_object_init_2 obj _) PySem.F.entry_enumerate_new (Ml t ys) ⟨ht,?_⟩
 have z1:(s.heap.push {cls:=.type "tuple_iterator",data:=.fields #[.ref t,.int 0 0]}).objs.size=s.heap.objs.size + 1:=Heap.size_push ..
 have g2:((s.heap.push {cls:=.type "tuple_iterator",data:=.fields #[.ref t,.int 0 0]}).push {cls:=.type "enumerate",data:=.fields #[.none,.bool false,.ref s.heap.objs.size,rawInt 0,.none,.none]}).get? (s.heap.push {cls:=.type "tuple_iterator",data:=.fields #[.ref t,.int 0 0]}).objs.size=some _:=Heap.get?_push_size _ rfl
 have g1:((s.heap.push {cls:=.type "tuple_iterator",data:=.fields #[.ref t,.int 0 0]}).push {cls:=.type "enumerate",data:=.fields #[.none,.bool false,.ref s.heap.objs.size,rawInt 0,.none,.none]}).get? s.heap.objs.size=some _:=Heap.get?_push_of_some _ (Heap.get?_push_size _ rfl)
 show _∧_
 rw [z1] at g2
 rw [z1]
 exact ⟨⟨_,g2,rfl⟩,h _ ⟨⟨_,g2⟩,⟨_,g1,rfl,rfl⟩⟩ fun c o y=>Heap.get?_push_of_some _ (Heap.get?_push_of_some _ y)⟩
section
variable {X:Cx} {G:Gam} {a:Expr} {pos p:Pos}
def Lf (q:Nat×PyData):PyData:=.tuple [.int (q.1:Int),q.2]
theorem P3 {elts:List Expr} {x1} {tpos:Pos} {ds:List PyData} (ha:EV X G a (.tuple ds)) (hg:Gl X "enumerate") (hm:X.mg "enumerate"=none) (hs:starEach [a] X.env=[(false,eval a X.env)]:=by rfl):
  IV X G (.Tuple elts x1 tpos) (.Call (.Name "enumerate" p) [a] [] pos) (((List.range ds.length).zip ds).map Lf):=by
 intro pins s σ H R I ⟨h,q⟩
 refine Call_ (Dr I hg hm boot_enumerate (PyProof.Rows.callWith_type1 (thn (Aa ha Ad (by rw [hs];rfl) pos pins s σ H _ I ⟨h,fun vs H' s' dv=>(⟨s',dv⟩:Same H H'∧DVs X.K H' vs [.tuple ds])⟩) fun us s1 ⟨vs,H1,I1,r1,s1',dv⟩=>?_) (by rw [hs];rfl) rfl))
 obtain ⟨v1,rfl,d1⟩:=dv.one
 obtain ⟨t,ys,rfl,hq,dys⟩:=d1.of_tup
 obtain ⟨u1,rfl,ru⟩:=vals1 r1
 cases ru
 obtain ⟨its,rv,ht,_⟩:=I1.tuple hq
 refine Gu (show s1.heap.IsTuple t its.toArray from ht) fun g zt kk=>?_
 obtain ⟨⟨old,he⟩,hit⟩:=id zt
 refine wpAny_pyIter_enum he ?_
 have I2:Inv X pins σ H1 {s1 with heap:=g}:=I1.kept (t':=s1.toks) kk
 have sz:∀n,s1.heap.objs.size≤s1.heap.objs.size + n:=fun n=>Nat.le_add_right _ _
 have hlen:(((List.range ds.length).zip ds).map Lf).length=ds.length:=by simp
 refine ⟨_,_,_,_,H1,rfl,I2,HV (K:=X.K) (t:=t) (e:=s1.heap.objs.size + 1) (it:=s1.heap.objs.size) (Nat.ne_of_gt (Nat.lt_succ_self _)),zt,fun c hc=>?_,q _ H1 s1' ⟨fun k H2 s2 hk=>?_,fun k H2 v H3 s2 hk ⟨r,y,hr,ev,eH,ey⟩=>?_,fun k H2 s2 hk=>?_⟩⟩
 ·simp only [List.mem_cons,List.not_mem_nil,or_false] at hc
  rcases hc with rfl | rfl
  ·exact I1.fpOk (sz 1) (I1.hok.fresh (sz 1))
  ·exact I1.fpOk (Nat.le_refl _) (I1.hok.fresh (Nat.le_refl _))
 ·exact ⟨ys,s2.seqT hq,by rw [dys.length,←hlen];exact hk⟩
 ·subst ev eH
  have e1:=ey ys (s2.seqT hq)
  obtain ⟨d,e2,e3⟩:=dys.get' e1
  refine ⟨Same.new hr,Lf (k,d),?_,.tup (SqT.of Aw) (.cons (.int _) (.cons ((e3.mono s2).mono (Same.new hr)) .nil))⟩
  rw [List.getElem?_map,show ((List.range ds.length).zip ds)[k]?=some (k,d) from by
   rw [List.getElem?_zip_eq_some]
   have hkl:k < ds.length:=by rw [←hlen];exact hk
   exact ⟨by simp [hkl],e2⟩]
  rfl
 ·exact ⟨ys,s2.seqT hq,by rw [dys.length,←hlen];exact hk⟩
end
section
variable {P:Program} {w:World} {K:PySem.W.Frag} {mg:Str→Option Value} {base:Heap}
theorem Fun.dataN {x qual:Str} {st:Stmt} {f:Addr} {fd:FuncData} {N ps:List Str} {k:Nat} {F:List PyData→Prop} (F0:Fun K x qual st f fd) (hm:mg x=some (.ref f)) (hb:Binds K fd ps []) (S:FnScope N ps (Ai st)) (len:∀ds,F ds→ds.length=ps.length)
  (hbody:∀(cdv:Value) (A:Around) (outer:List Env) (s:Shared) (H:Hp) (E:XK) (ds:List PyData),Room k (A.deeper (envOfC qual (Ai st) s.heap.objs.size f cdv))→F ds→
   ∃G',SVs (cxOf CX0 P w K mg base N qual (Ai st) f cdv A outer s H E).nox (Bm N ds) (AM st) (.next G')):DFn P w K mg base (k + 1) x (fun ds d=>F ds∧d=.none):=by
 refine ⟨f,fd,ps,F0.ok S (fun vs H Q E ⟨ds,d,h1,h2,_⟩=>h1.length.trans (len ds h2.1)) (fun cdv A outer s H vs Q E hr ⟨ds,d,h1,⟨h2,e⟩,q⟩=>?_),hm,F0.kp,hb⟩
 obtain ⟨G',h⟩:=hbody cdv A outer s H E ds hr h2
 subst e
 exact ⟨_,h,SD.start h1,fun σ' H' s' h'=>q .non H' s' .non⟩
end
section
variable {X:Cx} {G:Gam} {e:Expr} {pos pos' pos2:Pos} {x f:Str} {d:PyData}
theorem LX {a b c:Expr} {da db dc:PyData} {op op':CmpOp} (ho:OD X (compareOp op) da db (.bool true)) (ho':OD X (compareOp op') db dc (.bool true)) (ha:EV X G a da) (hb:EV X G b db) (hc:EV X G c dc)
  (hm:lastMarks [op,op'] [b,c]=false:=by with_unfolding_all rfl):TV X G (.Compare a [op,op'] [b,c] pos) true:=by
 refine (JY ho ho' ha hb hc hm).imp fun σ H Q ⟨h,q⟩=>⟨h,fun x H1 s1 d1=>⟨h.mono s1,fun y H2 s2 d2=>⟨d1.mono s2,d2,fun v H3 s3 d3=>⟨true,d3.of_bl,?_⟩⟩⟩⟩
 simp only [if_true]
 exact ⟨((h.mono s1).mono s2).mono s3,fun z H4 s4 d4=>⟨(d2.mono s3).mono s4,d4,fun v H5 s5 d5=>⟨true,d5.of_bl,q H5 ((((s1.trans s2).trans s3).trans s4).trans s5)⟩⟩⟩
theorem OO (h:EV X G e d) (hs:swapsWith e none pos.line X.env=pure false:=by rfl):SV X G (.Expr e pos) (.next G):=
 (Da h hs).imp fun D σ H ⟨h,q⟩=>⟨h,fun v H' s' _=>q σ H' s' (h.mono s')⟩
def Flds (K:PySem.W.Frag) (H:Hp) (fs:List (Str×V)) (fd:List (Str×PyData)):Prop:=∀q∈fd,∃v,fs.lookup q.1=some v∧DV K H v q.2
structure OI (K:PySem.W.Frag) (a C dx:Addr) (H0:Hp) (n:Nat) (fd:List (Str×PyData)) (σ:St) (G:Gam) (fs:List (Str×V)) (H:Hp):Prop where
 slot:σ[0]?=some (some (.ref a))
 obj:H a=some (.ins C dx fs)
 sd:SD K H σ G
 keep:∀b,b≠a→∀o,H0 b=some o→H b=some o
 flds:Flds K H fs fd
 few:fs.length≤n
end
theorem mulW (l:Addr) (items:Array Value) (n:Nat) (dd:Option Addr) (sl:Array (Option Value)) (x:Int) (u:Tok) (hc0:¬(!Builtin.List.listFitsIndex x)=true) (hc1:¬items.size * x.toNat > (2 ^ 63 - 1) / 8) (hc2:¬Builtin.List.listTooLong (items.size * x.toNat)=true):
  Meets (Builtin.«list.__mul__» ⟨[.ref l,.int x u],[]⟩) (fun _ R s=>s.heap.get? l=some {cls:=.type "list",dict:=dd,data:=.seq items n,slots:=sl}∧R (.ok (.ret (Value.ref s.heap.objs.size))) {s with heap:=s.heap.push {cls:=Value.type "list",data:=Data.seq (List.foldl (fun x1 x2=>x1++x2) #[] (List.replicate (if items.isEmpty=true then 0 else x.toNat) items))},toks:=s.toks}):=
 .of_wp fun prog w A R s h=>by
  obtain ⟨hp,g,d,tk,os⟩:=s;obtain ⟨hl,h⟩:=h
  have hsz:=PySem.AutoListH.joined_fits hc2
  wp_walk using wpAny_loadPart' hl;refine wpAny_ite_false (decide_eq_false (Nat.not_lt.mpr hsz)) ?_;wp_walk;exact ⟨_,rfl,h⟩
theorem Sy (a:Int) (t:Tok) (l:Addr) (items:Array Value) (n:Nat) (dd:Option Addr) (sl:Array (Option Value)):
  Meets (Builtin.«int.__rmul__» ⟨[.int a t,.ref l],[]⟩) (fun _ R s=>s.heap.get? l=some {cls:=.type "list",dict:=dd,data:=.seq items n,slots:=sl}∧R (.ok (.ret Value.notImplemented)) s):=
 .of_wp fun prog w A R s h=>by obtain ⟨hp,g,d,tk,os⟩:=s;obtain ⟨hl,h⟩:=h;wp_walk using wpAny_loadPart' hl;exact ⟨_,rfl,h⟩
theorem DVs.rep {K:PySem.W.Frag} {H:Hp} {vs:List V} {ds:List PyData} (h:DVs K H vs ds):∀k:Nat,DVs K H (List.replicate k vs).flatten (List.replicate k ds).flatten
 | 0=>.nil
 | k + 1=>by
   rw [List.replicate_succ,List.replicate_succ,List.flatten_cons,List.flatten_cons]
   exact h.append (DVs.rep h k)
section
variable {X:Cx}
theorem Lr {xs:List PyData} {k:Int} (h1:-(2 ^ 63)≤k) (h2:k < 2 ^ 63) (hz:xs.length * k.toNat≤sizeLine):OD X (binaryOp .Mult) (.list xs) (.int k) (.list (List.replicate k.toNat xs).flatten):=by
 intro pins s σ H x y v u Q I rx ry ⟨d1,d2,q⟩
 obtain ⟨l,us,rfl,hl,du⟩:=d1.of_lst
 cases d2.of_int
 cases rx
 obtain ⟨t,rfl⟩:=ry
 obtain ⟨its,r,pl,_⟩:=I.list hl
 obtain ⟨⟨cls,dd,data,sl⟩,e,hc,n,hd⟩:=pl.isList
 simp only at hc hd
 subst hc hd
 have hus:us.length=xs.length:=du.length
 have hil:its.length=xs.length:=by rw [←hus];exact r.length.symm
 have hlen:its.toArray.size * k.toNat≤sizeLine:=by rw [List.size_toArray,hil];exact hz
 have hcap:¬its.toArray.size * k.toNat > (2 ^ 63 - 1) / 8:=by
  have:(sizeLine:Nat)≤(2 ^ 63 - 1) / 8:=by decide
  omega
 have hfit:¬(!Builtin.List.listFitsIndex k)=true:=by
  rw [fitsIndex_both h1 h2]
  exact Bool.false_ne_true
 have hlong:¬Builtin.List.listTooLong (its.toArray.size * k.toNat)=true:=by
  rw [MN hlen]
  exact Bool.false_ne_true
 have hnew:List.foldl (fun x1 x2=>x1++x2) #[] (List.replicate (if its.toArray.isEmpty=true then 0 else k.toNat) its.toArray)=(List.replicate k.toNat its).flatten.toArray:=by
  have f0:∀m:Nat,List.foldl (fun x1 x2=>x1++x2) #[] (List.replicate m its.toArray)=(List.replicate m its).flatten.toArray:=fun m=>by
   have:=foldl_rep its m []
   rw [List.nil_append] at this
   exact this
  rw [f0]
  cases its with
  | nil=>simp
  | cons a r'=>rw [if_neg (by simp)]
 refine wpAny_binaryOp_repeat_ref (T:="list") (U:="int") (by decide) ⟨_,e,rfl⟩ (fun s'=>typeIs_int s' k t) noFill_list_mul F.fills_int_mul F.slot_int_rmul repeat_list F.slot_int_index.lookup
  (call_meets F.slot_int_rmul (typeIs_int s k t) F.entry_int_rmul (F.args_int_rmul_2 _ _) (Sy k t l its.toArray n dd sl)
   ⟨e,rfl,⟨_,e,rfl⟩,call_meets F.slot_list_mul ⟨_,e,rfl⟩ F.entry_list_mul (F.args_list_mul_2 _ _) (mulW l its.toArray n dd sl k t hfit hcap hlong) ⟨e,?_⟩⟩)
 rw [hnew]
 have hf:=I.hok.fresh (Nat.le_refl _)
 exact ⟨.ref _,_,I.lnew (t':=s.toks) (r.rep k.toNat) (by rw [len_rep,Nat.mul_comm,hus];exact hz),rfl,q _ _ (Same.new hf) (.lst (SqL.of Aw) ((du.rep k.toNat).mono (Same.new hf)))⟩
end
theorem Ho {c j pos} {es:List Expr} {env:Env}:starEach (.Constant c j pos::es) env=(false,eval (.Constant c j pos) env)::starEach es env:=rfl
section
variable {X:Cx} {G:Gam} {i:Nat} {x:Str} {es:List Expr} {pos pos' pos2:Pos} {sts:List Stmt} {o:Out} {ds:List PyData}
theorem Dd {c:Str} {j:Nat} (h:AV X G es ds):AV X G (.Constant (.str c) j pos::es) (.str c::ds):=Aa Ah h Ho
end
section
variable {X:Cx} {G G2:Gam} {H0:Hp} {p:Addr} {i j:Nat} {Pre Mid Post:Gam→List PyData→Prop} {a b e c iter:Expr} {es:List Expr} {pos pos' pos2 pos3:Pos} {x:Str} {ws xs ys ds:List PyData} {d:PyData} {sts A B:List Stmt}
theorem M7 {a b c:Expr} {da db dc:PyData} {op op':CmpOp} {k k':Bool} (ho:OD X (compareOp op) da db (.bool k)) (ho':OD X (compareOp op') db dc (.bool k')) (ha:EV X G a da) (hb:EV X G b db) (hc:EV X G c dc)
  (hm:lastMarks [op,op'] [b,c]=false:=by with_unfolding_all rfl):TV X G (.Compare a [op,op'] [b,c] pos) (k && k'):=by
 refine (JY ho ho' ha hb hc hm).imp fun σ H Q ⟨h,q⟩=>⟨h,fun x H1 s1 d1=>⟨h.mono s1,fun y H2 s2 d2=>⟨d1.mono s2,d2,fun v H3 s3 d3=>⟨k,d3.of_bl,?_⟩⟩⟩⟩
 cases k with
 | true=>
   simp only [if_true]
   exact ⟨((h.mono s1).mono s2).mono s3,fun z H4 s4 d4=>⟨(d2.mono s3).mono s4,d4,fun v H5 s5 d5=>⟨k',d5.of_bl,q H5 ((((s1.trans s2).trans s3).trans s4).trans s5)⟩⟩⟩
 | false=>
   simp only [Bool.false_eq_true,if_false]
   exact ⟨false,rfl,q H3 ((s1.trans s2).trans s3)⟩
theorem DVs.setAt {K:PySem.W.Frag} {H:Hp} {v:V} {d:PyData} (h:DV K H v d):∀{vs:List V} {ds:List PyData} (n:Nat),DVs K H vs ds→DVs K H (vs.set n v) (ds.set n d)
 | _,_,_,.nil=>.nil
 | _,_,0,.cons _ t=>.cons h t
 | _,_,n + 1,.cons q t=>.cons q (DVs.setAt h n t)
end
section
variable {X:Cx} {G:Gam} {elt target iter:Expr} {ifs:List Expr} {scope:Scope} {pos:Pos} {N:List Str} {ix:List Nat} {ds:List PyData}
theorem Nh {α:Type} {as:List α} {D:α→PyData} {k:Nat} {g:TG} {B:PyData→Gam→Gam} (Pd:α→Bool) (F:α→PyData) (hcalm:X.calm=true) (hc:Cj X.env.scope X.N k ix N scope) (og:OwnG k g) (hi:IV X G target iter (as.map D)) (hz:as.length≤sizeLine)
  (hb:∀a∈as,BindD X.K k g B (D a)) (hg:∀cl C s H fp,PG (AH X scope cl C N s H fp) target g)
  (ht:∀a∈as,∀cl C s H fp,PF (AH X scope cl C N s H fp) ifs (tDT X.K (B (D a) (List.replicate k none++outG ix G)) (Pd a)))
  (he:∀a∈as,Pd a=true→∀cl C s H fp,EV (AH X scope cl C N s H fp) (B (D a) (List.replicate k none++outG ix G)) elt (F a))
  (hs:∀x,foldedSetIterable iter X.env x=pure x:=by intro _;rfl):EVF X G (.ListComp elt [⟨target,iter,ifs,0⟩] scope pos) ((as.filter Pd).map F):=by
 refine (Li hcalm hc og hi (fun cl C s H fp=>⟨hg cl C s H fp,PF.ex (t:=fun a=>tDT X.K (B (D a) (List.replicate k none++outG ix G)) (Pd a)) (p:=fun a=>a∈as) fun d hd=>ht d hd cl C s H fp,PE.ex (t:=fun a=>tD X.K (B (D a) (List.replicate k none++outG ix G)) (F a)) (p:=fun a=>a∈as∧Pd a=true) fun d hd=>he d hd.1 hd.2 cl C s H fp⟩) hs).imp fun σ H Q ⟨h,q⟩=>⟨h,fun J H1 s1 hJ=>?_⟩
 refine FX X.K Pd F hz og hb (h.mono s1) hJ fun ys H2 s2 dy D hD=>?_
 exact q D ys _ ((s1.trans s2).free hD) ((s1.trans s2).trans (Same.new hD)) Aw (dy.mono (Same.new hD))
end
theorem Hr {K:PySem.W.Frag} {Hb H:Hp}:∀(is:List Nat) (ds:List PyData) (vs:List V) (σ:St) (G:Gam) (Q:St→Hp→Prop),is.length=ds.length→SD K Hb σ G→DVs K Hb vs ds→(∀σ2,SD K Hb σ2 (He is ds G)→(∀m,m∉is→σ2[m]?=σ[m]?)→Q σ2 H)→DD is vs σ H Q
 | [],[],_,σ,G,Q,_,h,.nil,q=>⟨rfl,q σ h fun _ _=>rfl⟩
 | i::is,d::ds,_,σ,G,Q,hl,h,.cons (x:=v) (xs:=vs) dv t,q=>⟨v,vs,rfl,Hr is ds vs _ _ Q (Nat.succ.inj hl) (h.set dv) t fun σ2 h2 hm=>q σ2 h2 fun m hm2=>by
    rw [hm m fun z=>hm2 (List.mem_cons_of_mem _ z),List.getElem?_set_ne fun z=>hm2 (by rw [z];exact List.mem_cons_self ..)]⟩
section
variable {X:Cx} {H0:Hp} {p:Addr} {i:Nat} {Pre Post:Gam→List PyData→Prop} {e:Expr} {pos pos' pos2:Pos} {x:Str}
end
section
variable {X:Cx} {G:Gam} {a:Expr} {pos p:Pos}
end
section
variable {K:PySem.W.Frag} {H:Hp} {t:Addr} {ys:List V} {ds:List PyData}
end
abbrev FC (H:Hp) (p q:Addr):Hp:=dele (dele H p) q
section
variable {K:PySem.W.Frag} {H:Hp} {p q:Addr} {ws us:List V}
end
structure OS2 (K:PySem.W.Frag) (H0:Hp) (p:Addr) (i:Nat) (q:Addr) (j:Nat) (G:Gam) (ds es:List PyData) (σ:St) (H:Hp):Prop where
 ne:p≠q
 ex:∃vs us,H p=some (.lst vs)∧H q=some (.lst us)∧DVs K (FC H p q) vs ds∧DVs K (FC H p q) us es
 old:Same H0 (FC H p q)
 sdb:SD K (FC H p q) σ G
 hi:σ[i]?=some (some (.ref p))
 hj:σ[j]?=some (some (.ref q))
abbrev S8 (G:Gam) (i:Nat) (ds:List PyData) (j:Nat) (es:List PyData):Gam:=(G.set i (some (.list ds))).set j (some (.list es))
section
variable {K:PySem.W.Frag} {H0 H H':Hp} {p q:Addr} {i j:Nat} {G:Gam} {ds es:List PyData} {σ:St}
end
abbrev P2:=Gam→List PyData→List PyData→Prop
def sw (Q:P2):P2:=fun G a b=>Q G b a
section
variable {X:Cx} {H0:Hp} {p q:Addr} {i j m:Nat} {Pre Mid Post PreA PreB:P2} {a e b c:Expr} {pos pos' pos2 pos3:Pos} {x y:Str} {G:Gam} {d:PyData} {R:PyData→Prop}
structure BindB (K:PySem.W.Frag) (is:List Nat) (g:TG) (B:PyData→Gam→Gam) (d:PyData):Prop where
 to:∀(v:V) (σ:St) (Hb H:Hp) (G:Gam) (Q:St→Hp→Prop),Same Hb H→SD K Hb σ G→DV K Hb v d→(∀σ2,SD K Hb σ2 (B d G)→(∀m,m∉is→σ2[m]?=σ[m]?)→Q σ2 H)→g v σ H Q
end
section
variable {X:Cx} {G:Gam} {H0:Hp} {p:Addr} {i:Nat} {Pre Mid:Gam→List PyData→Prop} {a b e f k1 k2 v1 v2:Expr} {pos pos' pos2 apos cpos:Pos} {x:Str} {ws ws0 ws1 ws2 xs:List PyData} {sts:List Stmt}
theorem Le (h:EVF X G e ws):FRs X G (.Return (some e) pos::sts) ws:=
 (A7 (Fl h) (Bd (sts:=sts))).imp fun D σ H ⟨h,q⟩=>⟨h,q⟩
end
section
variable {X:Cx} {H0:Hp} {p:Addr} {i j:Nat} {Pre Post:Gam→List PyData→Prop} {pos:Pos}
end
section
open PySem
def Rise (xs:Array Nat):Prop:=xs.toList.Pairwise (· < ·)
def Ss (b:Bool) (t:SetTable):Prop:=t.led=b∧Rise t.place
end
section
open PySem
structure SetG (prog:Program) (w:World) (h:Heap) (a:Addr) (S:Int→Bool) (n:Nat) (o:Obj) (es:Array (Int×Value)) (ep:Nat) (t:SetTable):Prop where
 at_:h.get? a=some o
 ex:o.ExactSet
 dat:o.data=.set es ep t
 els:ElemsOf (intKind prog w) es.toList
 mem:∀k,S k=true↔∃e∈es.toList,(intKind prog w).is k e.2=true
 few:es.size < scanBound
 fit:t.fits es.size=true
 len:es.size=n
 tbl:Ss (!w.params.followText "set-order") t
section
variable {prog:Program} {w:World} {A:Around} {E:Value→Shared→Prop} {s:Shared} {a:Addr} {S:Int→Bool} {n:Nat}
end
end
section
variable {prog:Program} {w:World} {A:Around} {E:Value→Shared→Prop}
abbrev metL (ns:List Int) (i:Nat):List Int:=firstMet (fun i=>ns.getD i 0) i
end
section
variable {prog:Program} {w:World} {A:Around} {E:Value→Shared→Prop} {s:Shared}
end
def S9 (h:Heap) (I a:Addr) (fst:Value) (i n ep:Nat):Prop:=∃o,h.get? I=some o∧o.cls=.type "set_iterator"∧o.data=.fields #[fst,.int i 0,.ref a,.int n 0,.int ep 0]
section
variable {prog:Program} {w:World} {A:Around} {E:Value→Shared→Prop} {s:Shared} {I a:Addr} {i n ep:Nat} {o:Obj} {es:Array (Int×Value)} {t:SetTable} {S:Int→Bool} {fst:Value}
end
section
variable {prog:Program} {w:World} {A:Around} {E:Value→Shared→Prop} {s:Shared} {I a:Addr} {i n ep:Nat} {o:Obj} {es:Array (Int×Value)} {t:SetTable} {S:Int→Bool}
end
section
variable {prog:Program} {w:World} {A:Around} {E:Value→Shared→Prop} {s:Shared} {a:Addr} {i n ep:Nat} {o:Obj} {es:Array (Int×Value)} {t:SetTable} {S:Int→Bool}
end
def insI (x:Int):List Int→List Int
 | []=>[x]
 | a::r=>if x < a then x::a::r else if x=a then a::r else a::insI x r
def srtI (l:List Int):List Int:=l.foldr insI []
theorem GN:∀{l m:List Int},l.Nodup→(∀x∈l,x∈m)→m.length≤l.length→l.Perm m
 | [],m,_,_,h=>by
   have:m=[]:=List.eq_nil_of_length_eq_zero (by simpa using h)
   rw [this]
 | a::l,m,hn,hs,hl=>by
   obtain ⟨h1,h2⟩:=List.nodup_cons.mp hn
   have ha:=hs a (List.mem_cons_self ..)
   have pe:=List.perm_cons_erase ha
   refine (List.Perm.cons a (GN h2 (fun x hx=>?_) ?_)).trans pe.symm
   ·have:=pe.mem_iff.mp (hs x (List.mem_cons_of_mem _ hx))
    rcases List.mem_cons.mp this with e | z
    ·subst e;exact absurd hx h1
    ·exact z
   ·have:=pe.length_eq
    simp only [List.length_cons] at this hl
    omega
theorem Fr (ns:List Int):∀i,(metL ns i).Nodup
 | 0=>List.nodup_nil
 | i + 1=>by
   rw [show metL ns (i + 1)=step_dedup (metL ns i) (ns.getD i 0) from firstMet_succ _ i]
   unfold step_dedup
   split
   ·exact Fr ns i
   ·rename_i h
    refine List.nodup_append.mpr ⟨Fr ns i,by simp,fun a ha b hb=>?_⟩
    rw [List.mem_singleton.mp hb]
    intro e
    subst e
    exact h (List.any_eq_true.mpr ⟨_,ha,by simp⟩)
theorem Cp {prog:Program} {w:World} {h:Heap} {a:Addr} {ns:List Int} {o:Obj} {es:Array (Int×Value)} {ep:Nat} {t:SetTable} (g:SetG prog w h a (fun x=>(metL ns ns.length).any (·==x)) (metL ns ns.length).length o es ep t) {L:List (Int×Value)} (pm:L.Perm es.toList):
  ∃ks,IntsAre (L.map (·.2)) ks∧ks.Perm (metL ns ns.length):=by
 have els:∀e∈L,∃k tk,e.2=Value.int k tk:=fun e he=>by
  obtain ⟨⟨k,hk,_⟩,_⟩:=g.els e (pm.mem_iff.mp he)
  obtain ⟨tk,r⟩:=Value.isInt_shape (k:=k) (v:=e.2) hk
  exact ⟨k,tk,r⟩
 have mk:∀(M:List (Int×Value)),(∀e∈M,∃k tk,e.2=Value.int k tk)→∃ks,IntsAre (M.map (·.2)) ks∧∀k,(∃e∈M,(intKind prog w).is k e.2=true)→k∈ks:=by
  intro M
  induction M with
  | nil=>exact fun _=>⟨[],.nil,fun k ⟨e,he,_⟩=>by cases he⟩
  | cons e M ih=>
    intro hM
    obtain ⟨ks,h1,h2⟩:=ih fun e he=>hM e (List.mem_cons_of_mem _ he)
    obtain ⟨k,tk,r⟩:=hM e (List.mem_cons_self ..)
    refine ⟨k::ks,by rw [List.map_cons,r];exact .cons k tk h1,fun k' ⟨e',he',q⟩=>?_⟩
    rcases List.mem_cons.mp he' with rfl | he'
    ·rw [r] at q
     have:=(intKind prog w).inj (.int k tk) k' k q (intKind_is _ _ _ _)
     rw [this]
     exact List.mem_cons_self ..
    ·exact List.mem_cons_of_mem _ (h2 k' ⟨e',he',q⟩)
 obtain ⟨ks,h1,h2⟩:=mk L els
 refine ⟨ks,h1,(GN (Fr ns _) (fun x hx=>h2 x ?_) ?_).symm⟩
 ·obtain ⟨e,he,q⟩:=(g.mem x).mp (List.any_eq_true.mpr ⟨x,hx,by simp⟩)
  exact ⟨e,pm.mem_iff.mpr he,q⟩
 ·rw [←IntsAre.length h1,List.length_map,pm.length_eq,Array.length_toList,g.len]
  exact Nat.le_refl _
section
variable {X:Cx} {G:Gam} {e:Expr} {pos p pos2 p2:Pos} {l:List Int}
end
theorem C8 {X:Cx} {G:Gam} {e:Expr} {ws:List PyData} (h:EVF X G e ws):EV X G e (.list ws):=h.imp fun σ H Q ⟨h,q⟩=>⟨h,fun p us H' _ s' hl dv=>q _ _ s' (.lst (SqL.of hl) dv)⟩
theorem AT {X:Cx} {G:Gam} {a:Expr} {ds:List PyData} {pos pos2:Pos} (ha:EV X G a (.list ds)) (hg:Gl X "list") (hm:X.mg "list"=none) (he:starEach [a] X.env=(false,eval a X.env)::starEach [] X.env:=by rfl) (hpl:(backTo pos (starEach [] X.env)).any (·.1)=false:=by rfl):EVF X G (.Call (.Name "list" pos2) [a] [] pos) ds:=
 (HY call_list_of hg hm (by decide +kernel) (Aa ha Ad he) (by decide) (by decide) he hpl).imp fun σ H Q ⟨h,q⟩=>⟨h,fun vs H1 s1 d1=>by
  obtain ⟨v,rfl,dv⟩:=d1.one
  obtain ⟨l,us,rfl,hl,d1⟩:=dv.of_lst
  exact ⟨l,us,rfl,.inl hl,fun p hp=>q p us _ (s1.free hp) (s1.trans (Same.new hp)) Aw (d1.mono (Same.new hp))⟩⟩
structure OSh (K:PySem.W.Frag) (H0:Hp) (p t:Addr) (i:Nat) (G:Gam) (ds es:List PyData) (σ:St) (H:Hp):Prop where
 ne:p≠t
 ex:∃vs u,H p=some (.lst vs)∧H t=some (.lst [.ref p,u])∧DVs K (FC H p t) vs ds∧DV K (FC H p t) u (.list es)
 old:Same H0 (FC H p t)
 sdb:SD K (FC H p t) σ G
 hi:σ[i]?=some (some (.ref t))
abbrev SB (G:Gam) (i:Nat) (ds es:List PyData):Gam:=G.set i (some (.list [.list ds,.list es]))
section
variable {K:PySem.W.Frag} {H0 H H':Hp} {p t:Addr} {i:Nat} {G:Gam} {ds es:List PyData} {σ:St}
end
section
variable {X:Cx} {H0:Hp} {p t:Addr} {i j m:Nat} {Pre Mid Post:P2} {a e b c:Expr} {pos pos' pos2 pos3:Pos} {x y:Str} {G:Gam} {d:PyData}
end
section
variable {prog:Program} {w:World} {A:Around} {E:Value→Shared→Prop} {s:Shared} {a:Addr} {its:Array Value} {n:Nat} {sl:Array (Option Value)}
end
section
variable {prog:Program} {w:World} {A:Around} {K:Type} [DecidableEq K] {knd:KeyKind prog w K} {I D:Addr} {fp wr:List Addr} {n:Nat} {P:Nat→Value→Prop} {St:Nat→Shared→Prop} {R:Result→Shared→Prop}
end
section
variable {prog:Program} {w:World} {A:Around} {E:Value→Shared→Prop} {s:Shared} {K:Type} [DecidableEq K] {knd:KeyKind prog w K} {l:Addr} {its:Array Value}
end
section
variable {X:Cx} {G:Gam} {e:Expr} {pos p:Pos} {es:List (PyData×PyData)}
end
def getI (m:List (Int×Int)) (a:Int):Int:=(m.lookup a).getD 0
section
variable {X:Cx} {pins:List (Addr×Obj)} {σ:St} {H:Hp} {s:Shared} {a:Addr} {xs:List V}
end
section
variable {X:Cx} {G:Gam} {e:Expr} {pos p:Pos} {m:List (Int×Int)} {d:PyData}
end
mutual
def kT:PyData→Bool
 | .int _=>true
 | .str x=>PyData.canLay0 (.str x)
 | .tuple xs=>kTs xs
 | _=>false
def kTs:List PyData→Bool
 | []=>true
 | x::r=>kT x && kTs r
end
mutual
def KZ (w:World):PyData→Int
 | .int i=>hashInt i
 | .str x=>hashStr w x
 | .tuple xs=>reduceHash (Builtin.Tuple.tupleHashOf (BP w xs))
 | _=>0
def BP (w:World):List PyData→List Int
 | []=>[]
 | x::r=>KZ w x::BP w r
end
mutual
def Lp:PyData→Nat
 | .tuple xs=>CC xs + 1
 | _=>1
def CC:List PyData→Nat
 | []=>0
 | x::r=>Lp x + CC r
end
theorem Et (w:World):∀(xs ys:List PyData),BP w (xs++ys)=BP w xs++BP w ys
 | [],_=>by simp [BP]
 | x::xs,ys=>by simp [BP,Et w xs ys]
theorem Ef:∀(xs ys:List PyData),CC (xs++ys)=CC xs + CC ys
 | [],_=>by simp [CC]
 | x::xs,ys=>by simp [CC,Ef xs ys,Nat.add_assoc]
mutual
theorem Il:∀{d:PyData},kT d=true→d.canLay0=true
 | .int _,_=>rfl
 | .str _,h=>by unfold kT at h;exact h
 | .tuple xs,h=>by unfold PyData.canLay0;exact L5 (by unfold kT at h;exact h)
 | .none,h=>by simp [kT] at h
 | .bool _,h=>by simp [kT] at h
 | .list _,h=>by simp [kT] at h
 | .dict _,h=>by simp [kT] at h
theorem L5:∀{ds:List PyData},kTs ds=true→PyData.canLayAll0 ds=true
 | [],_=>rfl
 | x::r,h=>by
   unfold kTs at h
   rw [Bool.and_eq_true] at h
   unfold PyData.canLayAll0
   rw [Il h.1,L5 h.2]
   rfl
end
mutual
theorem Nr:∀(a b:PyData),kT a=true→kT b=true→(PyData.eqv a b=true↔a=b)
 | .int i,.int j,_,_=>by simp [PyData.eqv]
 | .str i,.str j,_,_=>by simp [PyData.eqv]
 | .int i,.str j,_,_=>by simp [PyData.eqv]
 | .str i,.int j,_,_=>by simp [PyData.eqv]
 | .int i,.tuple j,_,_=>by simp [PyData.eqv]
 | .str i,.tuple j,_,_=>by simp [PyData.eqv]
 | .tuple i,.int j,_,_=>by simp [PyData.eqv]
 | .tuple i,.str j,_,_=>by simp [PyData.eqv]
 | .tuple xs,.tuple ys,ha,hb=>by
   have:=LG xs ys (by unfold kT at ha;exact ha) (by unfold kT at hb;exact hb)
   simp only [PyData.eqv,PyData.tuple.injEq]
   exact this
 | .none,_,h,_=>by simp [kT] at h
 | .bool _,_,h,_=>by simp [kT] at h
 | .list _,_,h,_=>by simp [kT] at h
 | .dict _,_,h,_=>by simp [kT] at h
 | _,.none,_,h=>by simp [kT] at h
 | _,.bool _,_,h=>by simp [kT] at h
 | _,.list _,_,h=>by simp [kT] at h
 | _,.dict _,_,h=>by simp [kT] at h
theorem LG:∀(a b:List PyData),kTs a=true→kTs b=true→(PyData.eqvAll a b=true↔a=b)
 | [],[],_,_=>by simp [PyData.eqvAll]
 | [],_::_,_,_=>by simp [PyData.eqvAll]
 | _::_,[],_,_=>by simp [PyData.eqvAll]
 | x::xs,y::ys,ha,hb=>by
   unfold kTs at ha hb
   rw [Bool.and_eq_true] at ha hb
   have h1:=Nr x y ha.1 hb.1
   have h2:=LG xs ys ha.2 hb.2
   simp only [PyData.eqvAll,Bool.and_eq_true,List.cons.injEq]
   rw [h1,h2]
end
theorem JM {xs:List PyData}:∀x∈xs,x.depth≤PyData.depthAll xs:=by
 induction xs with
 | nil=>intro x hx;cases hx
 | cons y r ih=>
   intro x hx
   unfold PyData.depthAll
   rcases List.mem_cons.mp hx with rfl | hx
   ·exact Nat.le_max_left _ _
   ·exact Nat.le_trans (ih x hx) (Nat.le_max_right _ _)
section
variable {prog:Program} {w:World}
def IY (prog:Program) (w:World) (d:PyData):Prop:=∀(A:Around) (E:Value→Shared→Prop) (s:Shared) (v:Value) (as:List Addr) (Q:Int→Shared→Prop),A.units + d.depth < cLine→Reads s.heap v d as→Q (KZ w d) {s with toks:=s.toks + Lp d}→wpAny (model prog w) A (pyHash v) Q E s
theorem OG {xs:List PyData} (hP:∀x∈xs,IY prog w x):IY prog w (.tuple xs):=by
 intro A E s v as Q hu hr h
 cases hr with
 | @tuple a o items n _ _ ho hc hd hi=>
 have hT:s.TypeIs (.ref a) "tuple":=⟨o,ho,hc⟩
 have hd1:PyData.depth (.tuple xs)=PyData.depthAll xs + 1:=by first | rfl | simp [PyData.depth,Nat.add_comm]
 have hu0:A.units < cLine:=by omega
 unfold pyHash
 first | unfold pyHashByItsType | skip
 first | refine wpAny_bind (wpAny_cRoomFor_or (.inr hu0) ?_) | skip
 refine wpAny_bind (wpAny_specialOf hT F.slot_tuple_hash.lookup ?_)
 show wpAny _ _ (if (some (Value.builtin "tuple.__hash__")==some Value.none)=true then _ else _) Q E s
 rw [if_neg (by rw [beq_builtin_none];exact Bool.false_ne_true)]
 refine wpAny_bind (wpAny_specialOf hT F.slot_tuple_hash.lookup ?_)
 show wpAny _ _ (callSpecialIfBoundUnlessNone? (.ref a) "__hash__" _ >>=_) Q E s
 refine wpAny_bind (wpAny_callSpecialIfBoundUnlessNone?_slot hT F.slot_tuple_hash (wpAny_call_entry F.slot_tuple_hash hT F.entry_tuple_hash ?_ (F.args_tuple_hash_1 _)))
 show wpAny _ _ (Builtin.Tuple.tupleItemsOf (.ref a) >>=_) _ _ s
 refine wpAny_bind (wpAny_tupleItemsOf ho hd ?_)
 refine wpAny_bind ?_
 rw [←Array.forIn_toList]
 refine wpAny_forIn_list _
  (fun rest (b:Array Int) s'=>∃done left bs,xs=done++left∧ReadsAll s.heap rest left bs∧b.toList=BP w done∧s'={s with toks:=s.toks + CC done})
  _ ?_ ?_ _ _ ⟨[],xs,_,rfl,hi,rfl,rfl⟩
 ·rintro x rest b s' ⟨done,left,bs,rfl,hl,hb,rfl⟩
  cases hl with
  | @cons _ _ k ks' as1 bs1 h1 hl'=>
    have hdk:k.depth≤PyData.depthAll (done++k::ks'):=JM k (by simp)
    refine wpAny_bind (hP k (by simp) _ _ _ _ as1 _ ?_ h1 ?_)
    ·first
      | (show A.units + 1 + k.depth < cLine;omega)
      | (simp only [Around.units_in1];omega)
      | omega
    first
     | exact wpAny_pure ⟨done++[k],ks',bs1,by simp,hl',by simp [hb,Et,BP],by simp [Ef,CC,Nat.add_assoc]⟩
     | exact wpAny_bind (wpAny_pure (wpAny_pure ⟨done++[k],ks',bs1,by simp,hl',by simp [hb,Et,BP],by simp [Ef,CC,Nat.add_assoc]⟩))
 ·rintro b s' ⟨done,left,bs,rfl,hl,hb,rfl⟩
  cases hl
  rw [List.append_nil] at h
  show wpAny _ _ (retInt (Builtin.Tuple.tupleHashOf b.toList)) _ _ _
  rw [hb]
  refine wpAny_ret_mkInt ?_
  show wpAny _ _ (if (decide (-(2:Int) ^ 63≤Builtin.Tuple.tupleHashOf (BP w done)) && decide (Builtin.Tuple.tupleHashOf (BP w done) < 2 ^ 63))=true then _ else _) Q E _
  unfold KZ reduceHash Lp at h
  by_cases hr:(decide (-(2:Int) ^ 63≤Builtin.Tuple.tupleHashOf (BP w done)) && decide (Builtin.Tuple.tupleHashOf (BP w done) < 2 ^ 63))=true
  ·rw [if_pos hr]
   rw [if_pos hr] at h
   exact wpAny_pure (by simpa [Nat.add_assoc] using h)
  ·rw [if_neg hr]
   rw [if_neg hr] at h
   exact wpAny_bind (wpAny_rule (wpAny_pure (by simpa [Nat.add_assoc] using h)))
mutual
theorem Ly:∀(d:PyData),kT d=true→IY prog w d
 | .int i,_=>fun A E s v as Q _ hr h=>by
   cases hr
   exact wpAny_pyHash_int h
 | .str x,_=>fun A E s v as Q _ hr h=>by
   cases hr
   exact wpAny_pyHash_str h
 | .tuple xs,h=>OG (Jq xs (by unfold kT at h;exact h))
 | .none,h=>by simp [kT] at h
 | .bool _,h=>by simp [kT] at h
 | .list _,h=>by simp [kT] at h
 | .dict _,h=>by simp [kT] at h
theorem Jq:∀(xs:List PyData),kTs xs=true→∀x∈xs,IY prog w x
 | [],_,x,hx=>by cases hx
 | y::r,h,x,hx=>by
   have h':kT y=true∧kTs r=true:=by unfold kTs at h;rwa [Bool.and_eq_true] at h
   have h1:=Ly y h'.1
   have h2:=Jq r h'.2
   rcases List.mem_cons.mp hx with e | hx
   ·rw [e];exact h1
   ·exact h2 x hx
end
def Gk (prog:Program) (w:World) (d:PyData):Prop:=∀(n:Nat) (A:Around) (E:Value→Shared→Prop) (s:Shared) (v:Value) (as:List Addr) (Q:Bool→Shared→Prop),d.depth≤n→Reads s.heap v d as→Q true s→wpAny (model prog w) A (eqIsQuiet n v) Q E s
theorem MA {xs:List PyData} (hP:∀x∈xs,Gk prog w x):Gk prog w (.tuple xs):=by
 intro n A E s v as Q hn hr h
 cases hr with
 | @tuple a o items n0 _ _ ho hc hd hi=>
 have hT:s.TypeIs (.ref a) "tuple":=⟨o,ho,hc⟩
 have hd1:PyData.depth (.tuple xs)=PyData.depthAll xs + 1:=by first | rfl | simp [PyData.depth,Nat.add_comm]
 cases n with
 | zero=>omega
 | succ n=>
 unfold eqIsQuiet
 refine wpAny_bind (wpAny_specialOf hT F.slot_tuple_eq.lookup ?_)
 show wpAny _ _ (isInstance (.ref a) (.type "tuple") >>=_) _ _ s
 refine wpAny_bind (wpAny_isInstance hT isSubtype_tuple_tuple ?_)
 simp only [Bool.not_true,Bool.false_eq_true,if_false]
 refine wpAny_bind (wpAny_seqItems ho hd ?_)
 refine wpAny_bind ?_
 show wpAny _ _ (forIn items _ _) _ _ s
 rw [←Array.forIn_toList]
 refine wpAny_forIn_list _ (fun rest r s'=>r.1=none∧s'=s∧∃left bs,ReadsAll s.heap rest left bs∧∀x∈left,x∈xs) _ ?_ ?_ _ _ ⟨rfl,rfl,xs,_,hi,fun x hx=>hx⟩
 ·rintro v rest r s' ⟨hr,rfl,left,bs,hl,hm⟩
  cases hl with
  | @cons _ _ k ks' as1 bs1 h1 hl'=>
    have hk:k∈xs:=hm k List.mem_cons_self
    have hdk:k.depth≤PyData.depthAll xs:=JM k hk
    refine wpAny_bind (hP k hk n _ _ _ _ as1 _ (by omega) h1 ?_)
    simp only [Bool.not_true,Bool.false_eq_true,if_false]
    exact wpAny_pure ⟨rfl,rfl,ks',bs1,hl',fun x hx=>hm x (List.mem_cons_of_mem _ hx)⟩
 ·rintro ⟨r1,r2⟩ s' ⟨hr,rfl,_⟩
  simp only at hr
  subst hr
  exact wpAny_pure h
mutual
theorem Js:∀(d:PyData),kT d=true→Gk prog w d
 | .int i,_=>fun n A E s v as Q _ hr h=>by
   cases hr
   rw [eqIsQuiet_byValue _ rfl]
   exact wpAny_pure h
 | .str x,_=>fun n A E s v as Q _ hr h=>by
   cases hr
   rw [eqIsQuiet_byValue _ rfl]
   exact wpAny_pure h
 | .tuple xs,h=>MA (Hq xs (by unfold kT at h;exact h))
 | .none,h=>by simp [kT] at h
 | .bool _,h=>by simp [kT] at h
 | .list _,h=>by simp [kT] at h
 | .dict _,h=>by simp [kT] at h
theorem Hq:∀(xs:List PyData),kTs xs=true→∀x∈xs,Gk prog w x
 | [],_,x,hx=>by cases hx
 | y::r,h,x,hx=>by
   have h':kT y=true∧kTs r=true:=by unfold kTs at h;rwa [Bool.and_eq_true] at h
   have h1:=Js y h'.1
   have h2:=Hq r h'.2
   rcases List.mem_cons.mp hx with e | hx
   ·rw [e];exact h1
   ·exact h2 x hx
end
mutual
theorem Ia {h h':Heap} {d:Addr} {o:Obj} {es ep} (ho:h.get? d=some o) (hd:o.data=.dict es ep) (hs:Heap.SameBut d h h'):∀(k:PyData) (v:Value) (as:List Addr),kT k=true→Reads h v k as→Reads h' v k as
 | .int i,v,as,_,r=>by cases r;exact .int i _
 | .str i,v,as,_,r=>by cases r;exact .str i _
 | .tuple xs,v,as,hk,r=>by
   cases r with
   | @tuple a ob items n _ _ h1 h2 h3 h4=>
     have hne:a≠d:=fun e=>by
      subst e
      rw [ho] at h1
      cases h1
      rw [hd] at h3
      cases h3
     exact .tuple ((hs.2 a hne).trans h1) h2 h3 (EL ho hd hs xs _ _ (by unfold kT at hk;exact hk) h4)
 | .none,_,_,h,_=>by simp [kT] at h
 | .bool _,_,_,h,_=>by simp [kT] at h
 | .list _,_,_,h,_=>by simp [kT] at h
 | .dict _,_,_,h,_=>by simp [kT] at h
theorem EL {h h':Heap} {d:Addr} {o:Obj} {es ep} (ho:h.get? d=some o) (hd:o.data=.dict es ep) (hs:Heap.SameBut d h h'):∀(k:List PyData) (v:List Value) (as:List Addr),kTs k=true→ReadsAll h v k as→ReadsAll h' v k as
 | [],v,as,_,r=>by cases r;exact .nil
 | x::xs,v,as,hk,r=>by
   have hk':kT x=true∧kTs xs=true:=by unfold kTs at hk;rwa [Bool.and_eq_true] at hk
   cases r with
   | cons h1 h2=>exact .cons (Ia ho hd hs x _ _ hk'.1 h1) (EL ho hd hs xs _ _ hk'.2 h2)
end
noncomputable instance decD:DecidableEq PyData:=fun a b=>Classical.propDecidable (a=b)
def keyT (d:PyData):Prop:=kT d=true∧d.depth≤8
noncomputable def Ow (prog:Program) (w:World):HeapKind prog w PyData where
 is:=fun h d a=>keyT d∧∃as,Reads h (.ref a) d as
 hash:=KZ w
 draws:=Lp
 room:=fun A=>A.units + 16 < cLine
 inj:=fun {h a x y} ⟨hx,as,rx⟩ ⟨_,bs,ry⟩=>PySem.SeqAt.Reads.unique x y (.ref a) as bs (Il hx.1) rx ry
 keeps:=fun {h h' k a d o es ep} ⟨hk,as,r⟩ ho hd hs=>⟨hk,as,Ia ho hd hs k _ as hk.1 r⟩
 pyHash:=fun {A E s k a Q} hu ⟨hk,as,r⟩ h=>Ly k hk.1 A E s _ as Q (by have:=hk.2;have hu:A.units + 16 < cLine:=hu;omega) r h
 eqBool:=fun {A E s x y a b Q} hu ⟨hx,as,rx⟩ ⟨hy,bs,ry⟩ h=>PySem.SeqAt.eqBoolOverData prog w A E s _ _ x y as bs Q rx ry (Il hx.1) (Il hy.1) (by have:=hx.2;have hu:A.units + 16 < cLine:=hu;omega) (by
  have e:PyData.eqv x y=decide (x=y):=by
   rw [Bool.eq_iff_iff,Nr x y hx.1 hy.1,decide_eq_true_iff]
  rw [e]
  exact h)
 quiet:=fun {A E s k a Q} ⟨hk,as,r⟩ h=>Js k hk.1 8 A E s _ as Q hk.2 r h
end
def lef (L:List Addr) (H:Hp):Hp:=fun b=>if b∈L then none else H b
theorem AO {L:List Addr} {H:Hp} {b:Addr} (h:b∈L):lef L H b=none:=by unfold lef;rw [if_pos h]
theorem Ax {L:List Addr} {H:Hp} {b:Addr} (h:b∉L):lef L H b=H b:=by unfold lef;rw [if_neg h]
theorem lef_same {L:List Addr} {H:Hp}:Same (lef L H) H:=fun b o e=>by
 by_cases h:b∈L
 ·rw [AO h] at e;cases e
 ·rw [Ax h] at e;exact e
theorem Same.lef {L:List Addr} {H H':Hp} (s:Same H H'):Same (L2.lef L H) (L2.lef L H'):=fun b o e=>by
 by_cases h:b∈L
 ·rw [AO h] at e;cases e
 ·rw [Ax h] at e ⊢;exact s b o e
theorem Ip {L M:List Addr} {H:Hp} (h:∀b∈L,b∈M):Same (lef M H) (lef L H):=fun b o e=>by
 by_cases hb:b∈M
 ·rw [AO hb] at e;cases e
 ·rw [Ax hb] at e
  rw [Ax fun z=>hb (h b z)]
  exact e
mutual
theorem DV.lef {K:PySem.W.Frag} {H:Hp} {L:List Addr} (hp:∀b∈L,∀xs,¬Rd H b (.tup xs)):∀{v:V} {d:PyData},DV K H v d→noL d=true→DV K (L2.lef L H) v d
 | _,_,.non,_=>.non
 | _,_,.bl b,_=>.bl b
 | _,_,.int i,_=>.int i
 | _,_,.str x,_=>.str x
 | _,_,.tup (a:=a) h t,f=>by
   refine .tup ?_ (DVs.lef hp t (by unfold noL at f;exact f))
   rcases h with h | h
   ·have hn:a∉L:=fun z=>hp a z _ h
    refine .inl ?_
    rcases h with h | ⟨o,h⟩
    ·exact .inl (by rw [Ax hn];exact h)
    ·exact .inr ⟨o,by rw [Ax hn];exact h⟩
   ·exact .inr h
 | _,_,.lst h t,f=>by unfold noL at f;cases f
 | _,_,.dct h t,f=>by unfold noL at f;cases f
 | _,_,.exc h,f=>by unfold noL at f;cases f
 | _,_,.exr h h',f=>by unfold noL at f;cases f
 | _,_,.obj h n t,f=>by unfold noL at f;cases f
 | _,_,.dtt h,f=>by unfold noL at f;cases f
theorem DVs.lef {K:PySem.W.Frag} {H:Hp} {L:List Addr} (hp:∀b∈L,∀xs,¬Rd H b (.tup xs)):∀{vs:List V} {ds:List PyData},DVs K H vs ds→noLs ds=true→DVs K (L2.lef L H) vs ds
 | _,_,.nil,_=>.nil
 | _,_,.cons h t,f=>by
   unfold noLs at f
   rw [Bool.and_eq_true] at f
   exact .cons (DV.lef hp h f.1) (DVs.lef hp t f.2)
end
mutual
theorem Q4:∀{d:PyData},kT d=true→noL d=true
 | .int _,_=>rfl
 | .str _,_=>rfl
 | .tuple xs,h=>by unfold noL;exact LD (by unfold kT at h;exact h)
 | .none,h=>by simp [kT] at h
 | .bool _,h=>by simp [kT] at h
 | .list _,h=>by simp [kT] at h
 | .dict _,h=>by simp [kT] at h
theorem LD:∀{ds:List PyData},kTs ds=true→noLs ds=true
 | [],_=>rfl
 | x::r,h=>by
   unfold kTs at h
   rw [Bool.and_eq_true] at h
   unfold noLs
   rw [Q4 h.1,LD h.2]
   rfl
end
def Qi (P:Program) (w:World) (da:Addr) (xs:List (PyData×Addr×Value)) (h:Heap):Prop:=
 (da==sysModules)=false∧xs.length≤sizeLine∧∃o es ep,h.get? da=some o∧o.ExactDict∧o.data=.dict es ep∧es.toList=xs.map (entryOfKey (Ow P w))∧(xs.map (·.1)).Nodup
section
variable {X:Cx} {pins:List (Addr×Obj)} {σ:St} {H:Hp} {s:Shared} {da b:Addr} {d:PyData} {xs:List (PyData×Addr×Value)} {A:Around} {E:Value→Shared→Prop}
end
structure Reg where
 C:Addr
 a:Addr
 dx:Addr
 la:Addr
 da:Addr
abbrev Reg.L (R:Reg):List Addr:=[R.a,R.la,R.da]
def QZ (K:PySem.W.Frag) (H:Hp) (T:List PyData) (xs:List (PyData×Addr×Value)):Prop:=
 xs.map (·.1)=T∧(∀x∈xs,DV K H (.ref x.2.1) x.1)∧∀(j:Nat) x,xs[j]?=some x→∃t,x.2.2=.int (j:Int) t
structure TabS (P:Program) (w:World) (K:PySem.W.Frag) (R:Reg) (T:List PyData) (Hb H:Hp) (fs:List (Str×V)) (vs:List V) (xs:List (PyData×Addr×Value)):Prop where
 obj:H R.a=some (.ins R.C R.dx fs)
 f1:fs.lookup ("atoms":Str)=some (.ref R.la)
 f2:fs.lookup ("numbers":Str)=some (.ref R.da)
 fn:∀m:Str,m≠"atoms"→m≠"numbers"→fs.lookup m=none
 lst:H R.la=some (.lst vs)
 num:H R.da=some (.ext (Qi P w R.da xs))
 atoms:DVs K Hb vs T
 ents:QZ K Hb T xs
 keys:∀d∈T,keyT d
 few:T.length < 1000
def Tb (P:Program) (w:World) (K:PySem.W.Frag) (R:Reg) (T:List PyData) (H:Hp):Prop:=∃fs vs xs,TabS P w K R T (lef R.L H) H fs vs xs
def RS (P:Program) (w:World) (K:PySem.W.Frag) (R:Reg) (G:Gam) (T:List PyData) (σ:St) (H:Hp):Prop:=σ[0]?=some (some (.ref R.a))∧Tb P w K R T H∧SD K (lef R.L H) σ G
section
variable {P:Program} {w:World} {K:PySem.W.Frag} {R:Reg} {G:Gam} {T:List PyData} {σ:St} {H H':Hp}
end
def tTR (P:Program) (w:World) (K:PySem.W.Frag) (R:Reg) (G:Gam) (T:List PyData) (d:PyData) (T':List PyData):TS:=fun D σ H=>RS P w K R G T σ H∧∀v H',Tb P w K R T' H'→Same (lef R.L H) (lef R.L H')→DV K (lef R.L H') v d→D.rt v H'
section
variable {X:Cx} {R:Reg} {G G1 G2:Gam} {T T1 T2:List PyData} {e c:Expr} {d:PyData} {k:Bool} {pos pos' pos2:Pos} {x f:Str}
end
structure ClsT (K:PySem.W.Frag) (C:Addr):Prop where
 cl:Cls K C
 n1:NoAttr K C "atoms"
 n2:NoAttr K C "numbers"
section
variable {X:Cx} {R:Reg} {G G1 G2:Gam} {T T1 T2:List PyData} {e c a:Expr} {es:List Expr} {d:PyData} {ds:List PyData} {k:Bool} {pos pos' pos2 pos3:Pos} {x f m:Str}
end
theorem BN {L:List Addr} {H:Hp} {p:Addr} {o:HO} (h:p∈L):lef L (upd H p o)=lef L H:=by
 funext b
 by_cases hb:b∈L
 ·rw [AO hb,AO hb]
 ·rw [Ax hb,Ax hb,Au fun z=>hb (by rw [z];exact h)]
section
variable {X:Cx} {R:Reg} {G G1 G2:Gam} {T T1 T2:List PyData} {e c a:Expr} {es:List Expr} {d:PyData} {ds:List PyData} {pos pos' pos2 pos3 pos4 pos5 p1 p2 p3 p4 p5 p6 p7:Pos} {x y f m:Str} {j:Nat}
def Mid (P:Program) (w:World) (K:PySem.W.Frag) (R:Reg) (G:Gam) (T:List PyData) (d:PyData) (σ:St) (H0 H:Hp):Prop:=
 σ[0]?=some (some (.ref R.a))∧SD K (lef R.L H0) σ G∧∃fs vs xs b t,TabS P w K R T (lef R.L H0) H0 fs vs xs∧DV K (lef R.L H0) (.ref b) d∧H=upd H0 R.da (.ext (Qi P w R.da (xs++[(d,b,.int T.length t)])))
end
def spT (P:Program) (w:World) (K:PySem.W.Frag) (C:Addr) (F:List PyData→List PyData→PyData→List PyData→Prop):Sp:=fun vs H Q _=>∃(R:Reg) (T ds:List PyData) (d:PyData) (T':List PyData) (vr:List V),R.C=C∧vs=.ref R.a::vr∧Tb P w K R T H∧DVs K (lef R.L H) vr ds∧F T ds d T'∧
 ∀v H',Tb P w K R T' H'→Same (lef R.L H) (lef R.L H')→DV K (lef R.L H') v d→Q v H'
theorem SD.cons0 {K:PySem.W.Frag} {H:Hp} {σ:St} {G:Gam} (h:SD K H σ G) (o:Option V):SD K H (o::σ) (none::G):=⟨by simp [h.1],fun i d e=>by
 cases i with
 | zero=>simp at e
 | succ i=>
   simp at e
   obtain ⟨v,h1,h2⟩:=h.2 i d e
   exact ⟨v,by simpa using h1,h2⟩⟩
theorem Bx (n:Str) (N:List Str) (v:V) (vs:List V):start (n::N) (v::vs)=some v::start N vs:=by
 unfold start
 simp
section
variable {P:Program} {w:World} {K:PySem.W.Frag} {mg:Str→Option Value} {base:Heap}
end
section
variable {X:Cx} {R:Reg} {G G1 G2:Gam} {T T1 T2:List PyData} {e c a:Expr} {es:List Expr} {d:PyData} {ds:List PyData} {k:Nat} {pos pos' pos2 apos:Pos} {x y m:Str}
end
section
variable {P:Program} {w:World} {K:PySem.W.Frag} {mg:Str→Option Value} {base:Heap}
end
abbrev Tm:=Int×List (Int×Int)
open PySem PySem.Spec PyProof.Rows in
abbrev kys (m:List (Int×Int)):List Int:=m.map (·.1)
def made (w:Int) (m:List (Int×Int)):Tm:=(w % 4096,((srtI (kys m)).filter fun a=>!decide (getI m a % 4096=0)).map fun a=>(a,getI m a % 4096))
def okA (a:Int):Prop:=0≤a∧a < 63
structure Wf (t:Tm):Prop where
 n:0≤t.1∧t.1 < 4096
 rise:(kys t.2).Pairwise (· < ·)
 at_:∀a∈kys t.2,okA a
 many:∀q∈t.2,0 < q.2∧q.2 < 4096
section
variable {t u v:Tm} {k n:Int}
end
section
variable {X:Cx}
end
section
variable {X:Cx} {G:Gam} {H0:Hp} {p:Addr} {i j:Nat} {e f o a:Expr} {pos pos' pos2 apos:Pos} {m:List (Int×Int)} {d:PyData} {x:Str}
end
section
variable {X:Cx} {H0:Hp} {p:Addr} {i j:Nat} {Pre Post:Gam→List (PyData×PyData)→Prop} {pos:Pos}
end
section
variable {X:Cx} {H0:Hp} {p:Addr} {i j:Nat} {Pre Post:Gam→List PyData→Prop} {pos:Pos}
end
section
variable {X:Cx} {R:Reg} {G G1 G2:Gam} {T T1 T2:List PyData} {e c a b:Expr} {es:List Expr} {d:PyData} {ds xs ys:List PyData} {k i:Nat} {pos pos' pos2 pos3 apos:Pos} {x f m:Str}
structure OT (P:Program) (w:World) (K:PySem.W.Frag) (R:Reg) (H0:Hp) (p:Addr) (T ws:List PyData) (σ:St) (H:Hp):Prop where
 len:σ.length=2
 s0:σ[0]?=some (some (.ref R.a))
 s1:σ[1]?=some (some (.ref p))
 off:p∉R.L
 lst:∃us,H p=some (.lst us)∧DVs K (lef (p::R.L) H) us ws
 tab:∃fs vs xs,TabS P w K R T (lef (p::R.L) H) H fs vs xs
 same:Same (lef R.L H0) (lef (p::R.L) H)
end
section
variable {P:Program} {w:World} {K:PySem.W.Frag} {mg:Str→Option Value} {base:Heap}
def MFn (P:Program) (w:World) (K:PySem.W.Frag) (mg:Str→Option Value) (base:Heap) (k:Nat) (C:Addr) (m:Str) (F:List PyData→PyData→Prop):Prop:=
 ∃f fd ps,FnOk P w K mg base CX0 k f fd ps (spD K F)∧Meth K C m f∧Binds K fd ps []
theorem Fun.dataM {x qual m:Str} {st:Stmt} {f:Addr} {fd:FuncData} {N ps:List Str} {k:Nat} {C:Addr} {F:List PyData→PyData→Prop} (F0:Fun K x qual st f fd) (hm:Meth K C m f) (hb:Binds K fd ps []) (S:FnScope N ps (Ai st)) (len:∀ds d,F ds d→ds.length=ps.length)
  (hbody:∀(cdv:Value) (A:Around) (outer:List Env) (s:Shared) (H:Hp) (E:XK) (ds:List PyData) (d:PyData),Room k (A.deeper (envOfC qual (Ai st) s.heap.objs.size f cdv))→F ds d→
   SVs (cxOf CX0 P w K mg base N qual (Ai st) f cdv A outer s H E).nox (Bm N ds) (AM st) (.ret d)):MFn P w K mg base (k + 1) C m F:=
 ⟨f,fd,ps,F0.ok S (fun vs H Q E ⟨ds,d,h1,h2,_⟩=>h1.length.trans (len ds d h2)) (fun cdv A outer s H vs Q E hr ⟨ds,d,h1,h2,q⟩=>⟨_,hbody cdv A outer s H E ds d hr h2,SD.start h1,q⟩),hm,hb⟩
end
section
variable {X:Cx} {G:Gam} {C:Addr} {k k2 i j:Nat} {e:Expr} {es:List Expr} {ds T:List PyData} {d:PyData} {fls:List (PyData×PyData)} {pos pos2 apos p1 p2 p3 p4 p5 p6 p7 p8 p9:Pos} {x m xt xa xf:Str}
theorem Op {F:List PyData→PyData→Prop} {pl:Sem Bool} (cl:Cls X.K C) (D:MFn X.prog X.w X.K X.mg X.base k C m F) (hr:Room k X.A) (hv:EV X G (.Name x pos2) (objD C fls)) (ha:AV X G (e::es) ds) (hF:F (objD C fls::ds) d) (h1:m∉Bt:=by decide)
  (hst:starEach (e::es) X.env=(false,eval e X.env)::starEach es X.env:=by rfl) (hpl:(backTo pos (starEach es X.env)).any (·.1)=false:=by rfl)
  (ht:eval (.Call (.Attribute (.Name x pos2) m apos) (e::es) [] pos) X.env=(do
   let ov ←eval (.Name x pos2) X.env
   standAt apos.atName
   let (f,first) ←holding [ov] (getMethod ov m pl)
   callWith pos f first (backTo pos (starEach (e::es) X.env)) (backToKw pos (keywordEach [] X.env))):=by rfl):
  EV X G (.Call (.Attribute (.Name x pos2) m apos) (e::es) [] pos) d:=by
 obtain ⟨f,fd,ps,ok,hm,hb⟩:=D
 refine (IK (E:=E0) (dvs:=[]) (ds:=[]) hv cl hm ok hr hb .nil CK ha hst hpl ht).imp fun σ H Q ⟨h,q⟩=>⟨h,fun v H1 s1 d1=>?_⟩
 obtain ⟨a,dx,fs,rfl,ho,hf,hn⟩:=d1.of_objN
 refine ⟨a,dx,fs,rfl,ho,hn m h1,h.mono s1,fun vs H2 s2 dvs=>?_⟩
 show spD X.K F (V.ref a::(vs++[])) H2 Q E0
 rw [List.append_nil]
 exact ⟨_,d,.cons (d1.mono s2) dvs,hF,fun v H3 s3 d3=>q v H3 ((s1.trans s2).trans s3) d3⟩
theorem AJ {F:List PyData→PyData→Prop} {pl:Sem Bool} (cl:Cls X.K C) (D:MFn X.prog X.w X.K X.mg X.base k C m F) (hr:Room k X.A) (hv:EV X G (.Name x pos2) (objD C fls)) (hF:F [objD C fls] d) (h1:m∉Bt:=by decide)
  (ht:eval (.Call (.Attribute (.Name x pos2) m apos) [] [] pos) X.env=(do
   let ov ←eval (.Name x pos2) X.env
   standAt apos.atName
   let (f,first) ←holding [ov] (getMethod ov m pl)
   callWith pos f first (backTo pos (starEach [] X.env)) (backToKw pos (keywordEach [] X.env))):=by rfl):
  EV X G (.Call (.Attribute (.Name x pos2) m apos) [] [] pos) d:=by
 obtain ⟨f,fd,ps,ok,hm,hb⟩:=D
 refine (JC (E:=E0) (dvs:=[]) (ds:=[]) hv cl hm ok hr hb .nil CK ht).imp fun σ H Q ⟨h,q⟩=>⟨h,fun v H1 s1 d1=>?_⟩
 obtain ⟨a,dx,fs,rfl,ho,hf,hn⟩:=d1.of_objN
 refine ⟨a,dx,fs,rfl,ho,hn m h1,?_⟩
 show spD X.K F (V.ref a::([]++[])) H1 Q E0
 exact ⟨_,d,.cons d1 .nil,hF,fun v H3 s3 d3=>q v H3 (s1.trans s3) d3⟩
theorem Bh {f:Str} (cl:Cls X.K C) (hn:NoAttr X.K C f) (hv:EV X G (.Name x pos2) (objD C fls)) (hf:(.str f,d)∈fls) (hb:attributeBase (.Name x pos2) f X.env (eval (.Name x pos2) X.env)=eval (.Name x pos2) X.env:=by rfl):EV X G (.Attribute (.Name x pos2) f pos) d:=
 (K9 hv hb).imp fun σ H Q ⟨h,q⟩=>⟨h,fun v H1 s1 d1=>by
  obtain ⟨a,dx,fs,rfl,ho,hfl,_⟩:=d1.of_objN
  obtain ⟨u,e,du⟩:=hfl.get hf
  exact ⟨a,C,dx,fs,u,rfl,ho,cl,hn,e,q u H1 s1 du⟩⟩
end
section
variable {X:Cx} {G:Gam} {x:Str} {pos:Pos} {d:PyData}
end
section
variable {prog:Program} {w:World} {A:Around} {E:Value→Shared→Prop} {s:Shared}
end
section
variable {X:Cx} {G:Gam} {pos:Pos} {e c a b tg:Expr} {d:PyData}
def bindL (is:List Nat) (d:PyData) (G:Gam):Gam:=match d with
 | .list ds=>He is ds G
 | _=>G
theorem Gx {k:Bool} (hc:TV X G c k) (h1:k=true→EV X G a d) (h2:k=false→EV X G b d):EV X G (.IfExp c a b pos) d:=by
 have hA:PE X a (fun σ H Q=>k=true∧tD X.K G d σ H Q):=fun pins s σ H Q I ⟨e,q⟩=>h1 e pins s σ H Q I q
 have hB:PE X b (fun σ H Q=>k=false∧tD X.K G d σ H Q):=fun pins s σ H Q I ⟨e,q⟩=>h2 e pins s σ H Q I q
 refine (Ny hc hA hB).imp fun σ H Q ⟨h,q⟩=>⟨h,fun H1 s1=>?_⟩
 cases k with
 | true=>exact iteT ⟨rfl,h.mono s1,fun v H2 s2 dv=>q v H2 (s1.trans s2) dv⟩
 | false=>exact iteF ⟨rfl,h.mono s1,fun v H2 s2 dv=>q v H2 (s1.trans s2) dv⟩
end
structure ZOk (L:List Addr) (I:Hp→Prop):Prop where
 step:∀{H H':Hp},I H→Same H H'→I H'
 notup:∀{H:Hp},I H→∀b∈L,∀xs,¬Rd H b (.tup xs)
 free:∀{H:Hp} {p:Addr},I H→H p=none→p∉L
def RZ (K:PySem.W.Frag) (L:List Addr) (I:Hp→Prop) (rs:List (Nat×Addr)) (G:Gam) (σ:St) (H:Hp):Prop:=(∀q∈rs,σ[q.1]?=some (some (.ref q.2)))∧I H∧SD K (lef L H) σ G
def zE (K:PySem.W.Frag) (L:List Addr) (I:Hp→Prop) (rs:List (Nat×Addr)) (G:Gam) (d:PyData) (I':Hp→Prop):TE:=fun σ H Q=>RZ K L I rs G σ H∧∀v H',I' H'→Same (lef L H) (lef L H')→DV K (lef L H') v d→Q v H'
abbrev ZE (X:Cx) (L:List Addr) (I:Hp→Prop) (rs:List (Nat×Addr)) (G:Gam) (e:Expr) (d:PyData) (I':Hp→Prop):Prop:=PE X e (zE X.K L I rs G d I')
def zT (K:PySem.W.Frag) (L:List Addr) (I:Hp→Prop) (rs:List (Nat×Addr)) (G:Gam) (k:Bool):TT:=fun σ H Q=>RZ K L I rs G σ H∧∀H',RZ K L I rs G σ H'→Same (lef L H) (lef L H')→Q k H'
abbrev ZT (X:Cx) (L:List Addr) (I:Hp→Prop) (rs:List (Nat×Addr)) (G:Gam) (e:Expr) (k:Bool):Prop:=PT X e (zT X.K L I rs G k)
def zA (K:PySem.W.Frag) (L:List Addr) (I:Hp→Prop) (rs:List (Nat×Addr)) (G:Gam) (ds:List PyData) (I':Hp→Prop):TA:=fun σ H Q=>RZ K L I rs G σ H∧∀vs H',I' H'→Same (lef L H) (lef L H')→DVs K (lef L H') vs ds→Q vs H'
abbrev ZA (X:Cx) (L:List Addr) (I:Hp→Prop) (rs:List (Nat×Addr)) (G:Gam) (es:List Expr) (ds:List PyData) (I':Hp→Prop):Prop:=PA X es (zA X.K L I rs G ds I')
def zN (K:PySem.W.Frag) (L:List Addr) (I:Hp→Prop) (rs:List (Nat×Addr)) (G G':Gam) (I':Hp→Prop):TS:=fun D σ H=>RZ K L I rs G σ H∧∀σ' H',RZ K L I' rs G' σ' H'→Same (lef L H) (lef L H')→D.nx σ' H'
def zR (K:PySem.W.Frag) (L:List Addr) (I:Hp→Prop) (rs:List (Nat×Addr)) (G:Gam) (d:PyData) (I':Hp→Prop):TS:=fun D σ H=>RZ K L I rs G σ H∧∀v H',I' H'→Same (lef L H) (lef L H')→DV K (lef L H') v d→D.rt v H'
section
variable {X:Cx} {L:List Addr} {I I1 I2:Hp→Prop} {rs:List (Nat×Addr)} {G G1 G2:Gam} {e c a b:Expr} {es:List Expr} {d:PyData} {ds:List PyData} {k:Bool} {pos pos' pos2 apos:Pos} {x f m:Str} {i:Nat}
theorem RZ.sd {K:PySem.W.Frag} {σ:St} {H:Hp} (r:RZ K L I rs G σ H):SD K H σ G:=r.2.2.mono lef_same
theorem RZ.step {K:PySem.W.Frag} {σ:St} {H H':Hp} (ok:ZOk L I) (r:RZ K L I rs G σ H) (s:Same H H'):RZ K L I rs G σ H':=⟨r.1,ok.step r.2.1 s,r.2.2.mono s.lef⟩
theorem RZ.next {K:PySem.W.Frag} {σ:St} {H H':Hp} (r:RZ K L I rs G σ H) (i:I1 H') (s:Same (lef L H) (lef L H')):RZ K L I1 rs G σ H':=⟨r.1,i,r.2.2.mono s⟩
theorem Dh (ok:ZOk L I) (h:EV X G e d) (hn:noL d=true):ZE X L I rs G e d I:=h.imp fun σ H Q ⟨r,q⟩=>⟨r.sd,fun v H' s' dv=>q v H' (ok.step r.2.1 s') s'.lef (DV.lef (ok.notup (ok.step r.2.1 s')) dv hn)⟩
theorem Sn (ok:ZOk L I) (h:TV X G c k):ZT X L I rs G c k:=h.imp fun σ H Q ⟨r,q⟩=>⟨r.sd,fun H' s'=>q H' (r.step ok s') s'.lef⟩
theorem Eu:ZA X L I rs G [] [] I:=pa_nil.imp fun σ H Q ⟨r,q⟩=>q [] H r.2.1 (Same.refl _) .nil
theorem Bc (h:ZE X L I rs G e d I1) (hr:ZA X L I1 rs G es ds I2) (hs:starEach (e::es) X.env=(false,eval e X.env)::starEach es X.env:=by rfl):ZA X L I rs G (e::es) (d::ds) I2:=
 (BD h hr hs).imp fun σ H Q ⟨r,q⟩=>⟨r,fun v H1 t1 s1 d1=>⟨r.next t1 s1,fun vs H2 t2 s2 d2=>q (v::vs) H2 t2 (s1.trans s2) (.cons (d1.mono s2) d2)⟩⟩
theorem A9 {st:Stmt} {sts:List Stmt} (h1:PS X st (zN X.K L I rs G G1 I1)) (h2:PSs X sts (zN X.K L I1 rs G1 G2 I2)):PSs X (st::sts) (zN X.K L I rs G G2 I2):=
 (A7 h1 h2).imp fun D σ H ⟨r,q⟩=>⟨r,fun σ' H' r' s'=>⟨r',fun σ2 H2 r2 s2=>q σ2 H2 r2 (s'.trans s2)⟩⟩
theorem AL:PSs X [] (zN X.K L I rs G G I):=pss_nil.imp fun D σ H ⟨r,q⟩=>q σ H r (Same.refl _)
theorem Bs (hN:X.N.Nodup) (hi:X.N[i]?=some x) (hi0:i∉rs.map (·.1)) (hx:Loc X.env.scope x) (h:ZE X L I rs G e d I1) (hs:swapsWith e (some (.Name x pos')) pos.line X.env=pure false:=by rfl)
  (hf:X.fn x=true∨X.env.scope.names.lookup x=some .local:=by first | exact .inl rfl | exact .inr rfl | assumption):PS X (.Assign [.Name x pos'] e pos) (zN X.K L I rs G (G.set i (some d)) I1):=
 (Cw hN hi hx h hs hf).imp fun D σ H ⟨r,q⟩=>⟨r,fun v H1 t1 s1 d1=>q _ H1 ⟨fun z hz=>by rw [List.getElem?_set_ne fun y=>hi0 (List.mem_map.mpr ⟨z,hz,y.symm⟩)];exact r.1 z hz,t1,(r.2.2.mono s1).set d1⟩ s1⟩
end
def Kz (K:PySem.W.Frag) (p:Addr) (S:List PyData) (H:Hp):Prop:=∃us,H p=some (.lst us)∧DVs K (lef [p] H) us S∧noLs S=true
theorem kz_ok {K:PySem.W.Frag} {p:Addr} {S:List PyData}:ZOk [p] (Kz K p S) where
 step:=fun ⟨us,h1,h2,h3⟩ s=>⟨us,s _ _ h1,h2.mono s.lef,h3⟩
 notup:=fun ⟨us,h1,_⟩ b hb xs r=>by
  have:=List.mem_singleton.mp hb
  subst this
  rcases r with r | ⟨q,r⟩ <;> (rw [h1] at r;cases r)
 free:=fun ⟨us,h1,_⟩ hp hm=>by
  have:=List.mem_singleton.mp hm
  subst this
  rw [h1] at hp
  cases hp
def spK (K:PySem.W.Frag) (F:List PyData→List PyData→PyData→List PyData→Prop):Sp:=fun vs H Q _=>∃(p:Addr) (S ds:List PyData) (d:PyData) (S':List PyData) (vr:List V),vs=.ref p::vr∧Kz K p S H∧DVs K (lef [p] H) vr ds∧F S ds d S'∧
 ∀v H',Kz K p S' H'→Same (lef [p] H) (lef [p] H')→DV K (lef [p] H') v d→Q v H'
def KFn (P:Program) (w:World) (K:PySem.W.Frag) (mg:Str→Option Value) (base:Heap) (k:Nat) (x:Str) (F:List PyData→List PyData→PyData→List PyData→Prop):Prop:=
 ∃f fd ps,FnOk P w K mg base CX0 k f fd ps (spK K F)∧mg x=some (.ref f)∧PySem.W.keepIn K (.ref f)=true∧Binds K fd ps []
section
variable {X:Cx} {G G1 G2:Gam} {e c a b:Expr} {es:List Expr} {d:PyData} {ds S:List PyData} {k i:Nat} {pos pos' pos2 apos p1:Pos} {x y f m:Str} {p:Addr} {rs:List (Nat×Addr)}
end
section
variable {X:Cx} {G:Gam} {o e:Expr} {pos:Pos} {d:PyData} {xs:List PyData}
end
section
variable {X:Cx} {L:List Addr} {I I1 I2:Hp→Prop} {rs:List (Nat×Addr)} {G G1 G2:Gam} {e c a b:Expr} {es:List Expr} {d:PyData} {ds:List PyData} {k:Bool} {pos pos' pos2 apos:Pos} {x f m:Str} {i:Nat}
end
def TKz (P:Program) (w:World) (K:PySem.W.Frag) (R:Reg) (ka:Addr) (T S:List PyData) (H:Hp):Prop:=Tb P w K R T H∧ka∉R.L∧∃us,H ka=some (.lst us)∧DVs K (lef (ka::R.L) H) us S∧noLs S=true
abbrev tkL (R:Reg) (ka:Addr):List Addr:=ka::R.L
section
variable {X:Cx} {R:Reg} {ka:Addr} {rs:List (Nat×Addr)} {G G1 G2:Gam} {T T1 T2 S S':List PyData} {e c a b:Expr} {es:List Expr} {d:PyData} {ds:List PyData} {k i:Nat} {pos pos' pos2 apos p1:Pos} {x f m:Str}
end
section
variable {X:Cx} {R:Reg} {ka:Addr} {rs:List (Nat×Addr)} {G G1 G2:Gam} {T T1 T2 S S':List PyData} {e c a b:Expr} {es:List Expr} {d:PyData} {ds:List PyData} {k i j:Nat} {pos pos' pos2 pos3 apos p1:Pos} {x y f m:Str}
theorem BG (hv:PE X (.Name x pos) (tVar i)) {L:List Addr} {I:Hp→Prop} (hG:G[i]?=some (some d)):ZE X L I rs G (.Name x pos) d I:=hv.imp fun σ H Q ⟨r,q⟩=>by
 obtain ⟨v,e,dv⟩:=r.2.2.2 i d hG
 exact ⟨v,e,q v H r.2.1 (Same.refl _) dv⟩
end
structure LS (P:Program) (w:World) (K:PySem.W.Frag) (R:Reg) (ka q:Addr) (H0:Hp) (T told:List PyData) (G:Gam) (σ:St) (H:Hp):Prop where
 r1:σ[1]?=some (some (.ref R.a))
 r2:σ[2]?=some (some (.ref ka))
 r3:σ[3]?=some (some (.ref q))
 tk:TKz P w K R ka T T H
 off:q∉tkL R ka
 lst:∃us,H q=some (.lst us)∧DVs K (lef (q::tkL R ka) H) us told
 nl:noLs told=true
 sd:SD K (lef (q::tkL R ka) H) σ G
 sm:Same H0 (lef (q::tkL R ka) H)
section
variable {P:Program} {w:World} {K:PySem.W.Frag} {R:Reg} {ka q:Addr} {H0:Hp} {T told:List PyData} {G:Gam} {σ:St} {H H':Hp}
theorem Cm {i:Nat} {v:V} (h:σ[i]?=some (some v)):σ.set i (some v)=σ:=by
 refine List.ext_getElem? fun j=>?_
 by_cases hj:i=j
 ·subst hj
  rw [List.getElem?_set_self (List.getElem?_eq_some_iff.mp h).1,h]
 ·rw [List.getElem?_set_ne hj]
end
section
variable {X:Cx} {C:Addr} {H0:Hp} {T told T1 told1 T2 told2:List PyData} {G G1 G2:Gam} {e c:Expr} {es:List Expr} {d:PyData} {k i j:Nat} {pos pos' pos2 pos3 pos4 apos p1 p2 p3 p4 p5:Pos} {x y z f:Str}
end
section
variable {X:Cx} {G:Gam} {a:Expr} {pos:Pos}
end
section
variable {X:Cx} {C:Addr} {G:Gam} {k k2 i j:Nat} {sts body:List Stmt} {tg c:Expr} {pos p1 p2 p3 p4 p5 p6 p7 p8 p9 q1 q2 q3 q4 q5 q6:Pos} {x xt xk xo:Str}
end
def Mo (a b:Int):Prop:=∃c:Int,a=b + 4096 * c
def sumR (f:Int→Int):Nat→Int
 | 0=>0
 | n + 1=>sumR f n + f n
inductive Atm where
 | box (k:Int)
 | tru (k:Int)
 | cel (t:Tm) (n:Int)
 | two (o:Nat) (t u:Tm)
structure Sta where
 bx:List Int
 tr:List Bool
 rd:List ((Int×Int)×Int)
def atW (ws:List Int) (a:Int):Int:=ws.getD a.toNat 0
section
section
variable {X:Cx} {G:Gam} {o f a b:Expr} {pos apos tp:Pos} {kt} {m:List ((Int×Int)×Int)}
end
theorem ES {H:Hp} {p a:Addr} {kvs:List (List Key×V)} {o:HO} (hp:H p=some (.dT kvs)) (e:H a=some o) (n:∀k,o≠.dT k):a≠p:=fun c=>by subst c;rw [hp] at e;cases e;exact n _ rfl
mutual
theorem DV.noDT {K:PySem.W.Frag} {H H':Hp} {p:Addr} {kvs:List (List Key×V)} (hp:H p=some (.dT kvs)) (hH:∀a,a≠p→H' a=H a):∀{v:V} {d:PyData},DV K H v d→noK d=true→DV K H' v d
 | _,_,.non,_=>.non
 | _,_,.bl b,_=>.bl b
 | _,_,.int i,_=>.int i
 | _,_,.str x,_=>.str x
 | _,_,.tup (a:=a) h t,f=>by
   refine .tup ?_ (DVs.noDT hp hH t (by unfold noK at f;exact f))
   rcases h with (h | ⟨o,h⟩) | h
   ·exact .inl (.inl (by rw [hH a (ES hp h fun _ c=>by cases c)];exact h))
   ·exact .inl (.inr ⟨o,by rw [hH a (ES hp h fun _ c=>by cases c)];exact h⟩)
   ·exact .inr h
 | _,_,.lst (a:=a) h t,f=>by
   refine .lst ?_ (DVs.noDT hp hH t (by unfold noK at f;exact f))
   rcases h with (h | ⟨o,h⟩) | h
   ·exact .inl (.inl (by rw [hH a (ES hp h fun _ c=>by cases c)];exact h))
   ·exact .inl (.inr ⟨o,by rw [hH a (ES hp h fun _ c=>by cases c)];exact h⟩)
   ·exact .inr h
 | _,_,.dct h t,f=>by unfold noK at f;cases f
 | _,_,.exc h,f=>by unfold noK at f;cases f
 | _,_,.exr h h',f=>by unfold noK at f;cases f
 | _,_,.obj h n t,f=>by unfold noK at f;cases f
 | _,_,.dtt h,f=>by unfold noK at f;cases f
theorem DVs.noDT {K:PySem.W.Frag} {H H':Hp} {p:Addr} {kvs:List (List Key×V)} (hp:H p=some (.dT kvs)) (hH:∀a,a≠p→H' a=H a):∀{v:List V} {d:List PyData},DVs K H v d→noKs d=true→DVs K H' v d
 | _,_,.nil,_=>.nil
 | _,_,.cons h t,f=>by
   unfold noKs at f
   rw [Bool.and_eq_true] at f
   exact .cons (DV.noDT hp hH h f.1) (DVs.noDT hp hH t f.2)
end
abbrev PM:=List ((Int×Int)×Int)
abbrev SC (G:Gam) (i:Nat) (m:PM):Gam:=G.set i (some (.dict (ppE m)))
def OP (K:PySem.W.Frag) (H0:Hp) (p:Addr) (i:Nat) (G:Gam) (m:PM) (σ:St) (H:Hp):Prop:=
 ∃Hb,H=upd Hb p (.dT (ppK m))∧Hb p=none∧Same H0 Hb∧SD K Hb σ G∧σ[i]?=some (some (.ref p))
section
variable {X:Cx} {H0:Hp} {p:Addr} {i j:Nat} {Pre Mid Post:Gam→PM→Prop} {e c a b f:Expr} {pos pos' pos2 tp:Pos} {kt} {x:Str} {G:Gam} {d:PyData}
end
end
section
variable {prog:Program} {w:World} {A:Around}
variable {E:Value→Shared→Prop} {s:Shared}
end
section
variable {X:Cx} {G:Gam} {a b:Expr} {pos p kp:Pos} {ns:List Int} {d:Int}
end
section
variable {X:Cx} {G:Gam} {a b:Expr} {pos p:Pos}
end
section
variable {X:Cx} {G:Gam} {a e:Expr} {pos p2:Pos}
end
section
variable {X:Cx} {L:List Addr} {I I1 I2:Hp→Prop} {rs:List (Nat×Addr)} {G G1 G2:Gam} {e c a b:Expr} {es:List Expr} {d:PyData} {ds ws:List PyData} {k:Bool} {pos pos' pos2 apos:Pos} {x f m:Str} {i j:Nat}
theorem J2 (ok:ZOk L I) (h:EVF X G e ws) (hn:noLs ws=true):ZE X L I rs G e (.list ws) I:=h.imp fun σ H Q ⟨r,q⟩=>⟨r.sd,fun p us H' hp s' hl dv=>by
 have i':=ok.step r.2.1 s'
 have hpL:p∉L:=ok.free r.2.1 hp
 exact q _ H' i' s'.lef (.lst (SqL.of (by rw [Ax hpL];exact hl)) (DVs.lef (ok.notup i') dv hn))⟩
end
section
variable {X:Cx} {R:Reg} {rs:List (Nat×Addr)} {G G1 G2:Gam} {T T1 T2:List PyData} {e c a b:Expr} {es:List Expr} {d:PyData} {ds:List PyData} {k i j:Nat} {pos pos' pos2 apos p1:Pos} {x f m:Str}
end
section
variable {X:Cx} {C:Addr} {G:Gam} {k i:Nat} {sts:List Stmt} {d:PyData} {p1 p2 p3 p4:Pos} {x xt:Str}
end
section
variable {X:Cx} {R:Reg} {rs:List (Nat×Addr)} {G:Gam} {T T1:List PyData} {es:List Expr} {d:PyData} {ds:List PyData} {k i:Nat} {pos pos2 p1:Pos} {x f:Str}
end
def hM:Nat:=2 ^ 64
def hP1:Nat:=11400714785074694791
def hP2:Nat:=14029467366897019727
def hQ2:Nat:=839798700976720815
def hC:Nat:=2 ^^^ (2870177450012600261 ^^^ 3527539)
def hRot (x:Nat):Nat:=(x * 2 ^ 31) % hM + x / 2 ^ 33
def hF (acc h:Nat):Nat:=(hRot ((acc + h * hP2) % hM) * hP1) % hM
def hG (a b:Nat):Nat:=(hF (hF 2870177450012600261 a) b + hC) % hM
def hB (a:Nat):Nat:=hF 2870177450012600261 a * hQ2 % hM
section
variable {prog:Program} {w:World} {A:Around} {E:Value→Shared→Prop} {s:Shared} {K:Type} [DecidableEq K] {knd:KeyKind prog w K}
end
structure PPAt (h:Heap) (a:Addr) (m:List ((Int×Int)×Int)) (xs:List (List Key×Addr×Value)):Prop where
 len:xs.length=m.length
 at_:∀(i:Nat) q,m[i]?=some q→∃b t,xs[i]?=some ([.inl q.1.1,.inl q.1.2],b,.int q.2 t)
 dct:∀(P:Program) (w:World),h.DictOfH (tupleKind (BS P w)) a xs
section
variable {prog:Program} {w:World} {A:Around} {E:Value→Shared→Prop} {s:Shared}
end
structure OR where
 C:Addr
 a:Addr
 dx:Addr
 ls:List (Str×Addr)
abbrev OR.L (R:OR):List Addr:=R.a::R.dx::R.ls.map (·.2)
abbrev LF:=List (Str×List PyData)
abbrev DF:=List (Str×PyData)
def upL (f:Str) (ds:List PyData) (lf:LF):LF:=lf.map fun q=>if q.1=f then (q.1,ds) else q
def upD (f:Str) (d:PyData) (df:DF):DF:=df.map fun q=>if q.1=f then (q.1,d) else q
theorem J1 (f:Str) (ds:List PyData) (lf:LF):(upL f ds lf).map (·.1)=lf.map (·.1):=by
 unfold upL
 rw [List.map_map]
 exact List.map_congr_left fun q _=>by show (if q.1=f then (q.1,ds) else q).1=q.1;split <;> rfl
theorem Jh (f:Str) (d:PyData) (df:DF):(upD f d df).map (·.1)=df.map (·.1):=by
 unfold upD
 rw [List.map_map]
 exact List.map_congr_left fun q _=>by show (if q.1=f then (q.1,d) else q).1=q.1;split <;> rfl
theorem Lw {f:Str} {ds:List PyData} {lf:LF} {q:Str×List PyData} (h:q∈upL f ds lf):(q.1=f∧q.2=ds∧f∈lf.map (·.1))∨(q.1≠f∧q∈lf):=by
 unfold upL at h
 obtain ⟨r,hr,e⟩:=List.mem_map.mp h
 split at e
 ·rename_i z
  refine .inl ⟨by rw [←e];exact z,by rw [←e],?_⟩
  rw [←z]
  exact List.mem_map_of_mem hr
 ·rename_i z
  subst e
  exact .inr ⟨z,hr⟩
theorem Lv {f:Str} {d:PyData} {df:DF} {q:Str×PyData} (h:q∈upD f d df):(q.1=f∧q.2=d∧f∈df.map (·.1))∨(q.1≠f∧q∈df):=by
 unfold upD at h
 obtain ⟨r,hr,e⟩:=List.mem_map.mp h
 split at e
 ·rename_i z
  refine .inl ⟨by rw [←e];exact z,by rw [←e],?_⟩
  rw [←z]
  exact List.mem_map_of_mem hr
 ·rename_i z
  subst e
  exact .inr ⟨z,hr⟩
theorem EH {f:Str} {v x:V}:∀{fs:List (Str×V)},fs.lookup f=some x→(putF f v fs).length=fs.length
 | [],h=>by cases h
 | (g,y)::r,h=>by
   show (if g=f then (g,v)::r else (g,y)::putF f v r).length=_
   by_cases e:g=f
   ·rw [if_pos e];rfl
   ·rw [if_neg e,List.length_cons,List.length_cons]
    rw [List.lookup_cons,show (f==g)=false from beq_eq_false_iff_ne.mpr (Ne.symm e)] at h
    rw [EH h]
structure OzS (K:PySem.W.Frag) (R:OR) (lf:LF) (df:DF) (Hb H:Hp) (fs:List (Str×V)):Prop where
 obj:H R.a=some (.ins R.C R.dx fs)
 own1:H R.dx=some (.own R.a)
 few:fs.length≤40
 nam:∀m:Str,m∉Bt→fs.lookup m=none
 nda:R.L.Nodup
 apart:∀q∈df,q.1∉lf.map (·.1)
 own:∀q∈R.ls,∃us,H q.2=some (.lst us)
 lst:∀q∈lf,∃p us,(q.1,p)∈R.ls∧fs.lookup q.1=some (.ref p)∧H p=some (.lst us)∧DVs K Hb us q.2∧noLs q.2=true
 dat:∀q∈df,∃v,fs.lookup q.1=some v∧DV K Hb v q.2
def Oz (K:PySem.W.Frag) (R:OR) (lf:LF) (df:DF) (H:Hp):Prop:=∃fs,OzS K R lf df (lef R.L H) H fs
theorem OzS.mono {K:PySem.W.Frag} {R:OR} {lf:LF} {df:DF} {Hb Hb' H H':Hp} {fs:List (Str×V)} (t:OzS K R lf df Hb H fs) (s:Same Hb Hb') (s2:Same H H'):OzS K R lf df Hb' H' fs:=
 ⟨s2 _ _ t.obj,s2 _ _ t.own1,t.few,t.nam,t.nda,t.apart,fun q hq=>let ⟨us,h⟩:=t.own q hq;⟨us,s2 _ _ h⟩,fun q hq=>let ⟨p,us,h1,h2,h3,h4,h5⟩:=t.lst q hq;⟨p,us,h1,h2,s2 _ _ h3,h4.mono s,h5⟩,fun q hq=>let ⟨v,h1,h2⟩:=t.dat q hq;⟨v,h1,h2.mono s⟩⟩
theorem oz_ok {K:PySem.W.Frag} {R:OR} {lf:LF} {df:DF}:ZOk R.L (Oz K R lf df) where
 step:=fun ⟨fs,t⟩ s=>⟨fs,t.mono s.lef s⟩
 notup:=@fun H ⟨fs,t⟩ b hb xs r=>by
  have key:∀o:HO,H b=some o→(∀ys,o≠.tup ys)→(∀q u,o≠.frz q u)→False:=fun o e h1 h2=>by
   rcases r with r | ⟨q,r⟩
   ·rw [e] at r;exact h1 _ (Option.some.inj r)
   ·rw [e] at r;exact h2 _ _ (Option.some.inj r)
  rcases List.mem_cons.mp hb with e | e
  ·exact key _ (by rw [e];exact t.obj) (fun _ z=>by cases z) (fun _ _ z=>by cases z)
  rcases List.mem_cons.mp e with e | e
  ·exact key _ (by rw [e];exact t.own1) (fun _ z=>by cases z) (fun _ _ z=>by cases z)
  ·obtain ⟨q,hq,e⟩:=List.mem_map.mp e
   obtain ⟨us,h⟩:=t.own q hq
   exact key _ (by rw [←e];exact h) (fun _ z=>by cases z) (fun _ _ z=>by cases z)
 free:=fun ⟨fs,t⟩ hp hm=>by
  rcases List.mem_cons.mp hm with e | e
  ·have:=t.obj;rw [←e,hp] at this;cases this
  rcases List.mem_cons.mp e with e | e
  ·have:=t.own1;rw [←e,hp] at this;cases this
  ·obtain ⟨q,hq,rfl⟩:=List.mem_map.mp e
   obtain ⟨us,h⟩:=t.own q hq
   rw [hp] at h;cases h
def fldD (lf:LF) (df:DF):List (PyData×PyData):=(lf.map fun q=>((.str q.1,.list q.2):PyData×PyData))++df.map fun q=>(.str q.1,q.2)
theorem Ls {K:PySem.W.Frag} {H:Hp} {fs:List (Str×V)}:∀{l:List (Str×PyData)},(∀q∈l,∃v,fs.lookup q.1=some v∧DV K H v q.2)→DVf K H fs (l.map fun q=>((.str q.1,q.2):PyData×PyData))
 | [],_=>.nil
 | q::r,h=>by
   obtain ⟨v,h1,h2⟩:=h q List.mem_cons_self
   exact .cons h1 h2 (Ls fun z hz=>h z (List.mem_cons_of_mem _ hz))
theorem PJ (lf:LF) (df:DF):fldD lf df=((lf.map fun q=>((q.1,.list q.2):Str×PyData))++df).map fun q=>((.str q.1,q.2):PyData×PyData):=by
 unfold fldD
 rw [List.map_append,List.map_map]
 rfl
theorem OzS.dv {K:PySem.W.Frag} {R:OR} {lf:LF} {df:DF} {L:List Addr} {H:Hp} {fs:List (Str×V)} (t:OzS K R lf df (lef L H) H fs):DV K H (.ref R.a) (objD R.C (fldD lf df)):=by
 refine .obj t.obj t.nam ?_
 rw [PJ]
 refine Ls fun q hq=>?_
 rcases List.mem_append.mp hq with hq | hq
 ·obtain ⟨z,hz,rfl⟩:=List.mem_map.mp hq
  obtain ⟨p,us,_,h2,h3,h4,_⟩:=t.lst z hz
  exact ⟨.ref p,h2,.lst (SqL.of h3) (h4.mono lef_same)⟩
 ·obtain ⟨v,h1,h2⟩:=t.dat q hq
  exact ⟨v,h1,h2.mono lef_same⟩
abbrev viewO (C:Addr) (lf:LF) (df:DF) (i:Nat) (G:Gam):Gam:=G.set i (some (objD C (fldD lf df)))
section
variable {X:Cx} {R:OR} {lf:LF} {df:DF} {rs:List (Nat×Addr)} {G G1 G2:Gam} {e c a b:Expr} {es:List Expr} {d:PyData} {ds ws:List PyData} {k i j:Nat} {pos pos' pos2 pos3 pos4 apos p1:Pos} {x f m:Str}
theorem RZ.viewO {K:PySem.W.Frag} {σ:St} {H:Hp} (r:RZ K R.L (Oz K R lf df) rs G σ H) (hi:(i,R.a)∈rs):SD K H σ (viewO R.C lf df i G):=by
 obtain ⟨fs,t⟩:=id r.2.1
 have h1:=r.sd.set (i:=i) t.dv
 rw [Cm (r.1 _ hi)] at h1
 exact h1
theorem NM (hi:(i,R.a)∈rs) (h:EVF X (viewO R.C lf df i G) e ws) (hn:noLs ws=true):ZE X R.L (Oz X.K R lf df) rs G e (.list ws) (Oz X.K R lf df):=h.imp fun σ H Q ⟨r,q⟩=>⟨r.viewO hi,fun p us H' hp s' hl dv=>by
 have i':=oz_ok.step r.2.1 s'
 have hpL:p∉R.L:=oz_ok.free r.2.1 hp
 exact q _ H' i' s'.lef (.lst (SqL.of (by rw [Ax hpL];exact hl)) (DVs.lef (oz_ok.notup i') dv hn))⟩
theorem L7 (cl:Cls X.K R.C) (na:NoAttr X.K R.C f) (hi:(i,R.a)∈rs) (hv:PE X (.Name x pos2) (tVar i)) (h:EV X (viewO R.C lf df i G) e d) (hn:noL d=true) (hf:f∈df.map (·.1)) (hA:f∈Bt)
  (hs:swapsWith e (some (.Attribute (.Name x pos2) f pos')) pos.line X.env=pure false:=by rfl):PS X (.Assign [.Attribute (.Name x pos2) f pos'] e pos) (zN X.K R.L (Oz X.K R lf df) rs G G (Oz X.K R lf (upD f d df))):=by
 refine (Ig hv h hs).imp fun D σ H ⟨r,q⟩=>⟨r.viewO hi,fun y H1 s1 d1=>?_⟩
 have i1:=oz_ok.step r.2.1 s1
 obtain ⟨fs,t⟩:=id i1
 refine ⟨.ref R.a,r.1 _ hi,R.a,R.C,R.dx,fs,rfl,t.obj,cl,na,by have:=t.few;omega,?_⟩
 have eL:lef R.L (upd H1 R.a (.ins R.C R.dx (putF f y fs)))=lef R.L H1:=BN List.mem_cons_self
 obtain ⟨q0,hq0,e0⟩:=List.mem_map.mp hf
 obtain ⟨v0,l0,_⟩:=t.dat q0 hq0
 rw [e0] at l0
 have hlf:f∉lf.map (·.1):=by rw [←e0];exact t.apart q0 hq0
 have nal:∀p∈R.ls.map (·.2),p≠R.a:=fun p hp z=>(List.nodup_cons.mp t.nda).1 (z ▸ List.mem_cons_of_mem _ hp)
 have nad:R.dx≠R.a:=fun z=>(List.nodup_cons.mp t.nda).1 (z ▸ List.mem_cons_self)
 refine q σ _ ⟨r.1,⟨putF f y fs,?_⟩,?_⟩ ?_
 ·rw [eL]
  refine ⟨Aw,by rw [Au nad];first | exact t1.own1 | exact t.own1,by rw [EH l0];exact t.few,fun m hm=>?_,t.nda,fun z hz=>?_,fun z hz=>?_,fun z hz=>?_,fun z hz=>?_⟩
  ·rw [A5,if_neg (fun w:m=f=>hm (w ▸ hA))]
   exact t.nam m hm
  ·have:z.1∈(upD f d df).map (·.1):=List.mem_map_of_mem hz
   rw [Jh] at this
   obtain ⟨z',hz',ez⟩:=List.mem_map.mp this
   rw [←ez]
   exact t.apart z' hz'
  ·obtain ⟨us,hu⟩:=t.own z hz
   exact ⟨us,by rw [Au (nal _ (List.mem_map_of_mem hz))];exact hu⟩
  ·obtain ⟨p,us,h1,h2,h3,h4,h5⟩:=t.lst z hz
   refine ⟨p,us,h1,?_,?_,h4,h5⟩
   ·rw [A5,if_neg (fun w:z.1=f=>hlf (w ▸ List.mem_map_of_mem hz))]
    exact h2
   ·rw [Au (nal _ (List.mem_map_of_mem (f:=(·.2)) h1))]
    exact h3
  ·rcases Lv hz with ⟨e1,e2,_⟩ | ⟨e1,e2⟩
   ·rw [e1,e2]
    exact ⟨y,by rw [A5,if_pos rfl],DV.lef (oz_ok.notup i1) d1 hn⟩
   ·obtain ⟨v,h1,h2⟩:=t.dat z e2
    exact ⟨v,by rw [A5,if_neg e1];exact h1,h2⟩
 ·rw [eL];exact r.2.2.mono s1.lef
 ·rw [eL];exact s1.lef
theorem Rj {z n:Int} (cl:Cls X.K R.C) (na:NoAttr X.K R.C f) (hi:(i,R.a)∈rs) (hv:PE X (.Name x pos2) (tVar i)) (h:EV X (viewO R.C lf df i G) e (.int n)) (hf:(f,.int z)∈df) (hA:f∈Bt):PS X (.AugAssign (.Attribute (.Name x pos2) f pos') .Add e pos) (zN X.K R.L (Oz X.K R lf df) rs G G (Oz X.K R lf (upD f (.int (z + n)) df))):=by
 refine (M6 hv h QI).imp fun D σ H ⟨r,q⟩=>?_
 obtain ⟨fs,t⟩:=id r.2.1
 obtain ⟨v0,l0,dv0⟩:=t.dat _ hf
 have dv0:=dv0.of_int
 subst dv0
 refine ⟨.ref R.a,r.1 _ hi,R.a,R.C,R.dx,fs,.int z,rfl,t.obj,cl,na,l0,r.viewO hi,fun y H1 s1 d1=>?_⟩
 have d1:=d1.of_int
 subst d1
 have i1:=oz_ok.step r.2.1 s1
 refine ⟨z,n,rfl,rfl,R.dx,fs,s1 _ _ t.obj,by have:=t.few;omega,?_⟩
 have t1:=t.mono s1.lef s1
 have eL:lef R.L (upd H1 R.a (.ins R.C R.dx (putF f (.int (z + n)) fs)))=lef R.L H1:=BN List.mem_cons_self
 have hlf:f∉lf.map (·.1):=t.apart _ hf
 have nal:∀p∈R.ls.map (·.2),p≠R.a:=fun p hp z=>(List.nodup_cons.mp t.nda).1 (z ▸ List.mem_cons_of_mem _ hp)
 have nad:R.dx≠R.a:=fun z=>(List.nodup_cons.mp t.nda).1 (z ▸ List.mem_cons_self)
 refine q σ _ ⟨r.1,⟨putF f (.int (z + n)) fs,?_⟩,?_⟩ ?_
 ·rw [eL]
  refine ⟨Aw,by rw [Au nad];first | exact t1.own1 | exact t.own1,by rw [EH l0];exact t.few,fun m hm=>?_,t.nda,fun z hz=>?_,fun z hz=>?_,fun z hz=>?_,fun z hz=>?_⟩
  ·rw [A5,if_neg (fun w:m=f=>hm (w ▸ hA))]
   exact t.nam m hm
  ·have:z.1∈(upD f _ df).map (·.1):=List.mem_map_of_mem hz
   rw [Jh] at this
   obtain ⟨z',hz',ez⟩:=List.mem_map.mp this
   rw [←ez]
   exact t.apart z' hz'
  ·obtain ⟨us,hu⟩:=t1.own z hz
   exact ⟨us,by rw [Au (nal _ (List.mem_map_of_mem hz))];exact hu⟩
  ·obtain ⟨p,us,h1,h2,h3,h4,h5⟩:=t1.lst z hz
   refine ⟨p,us,h1,?_,?_,h4,h5⟩
   ·rw [A5,if_neg (fun w:z.1=f=>hlf (w ▸ List.mem_map_of_mem hz))]
    exact h2
   ·rw [Au (nal _ (List.mem_map_of_mem (f:=(·.2)) h1))]
    exact h3
  ·rcases Lv hz with ⟨e1,e2,_⟩ | ⟨e1,e2⟩
   ·rw [e1,e2]
    exact ⟨_,by rw [A5,if_pos rfl],.int _⟩
   ·obtain ⟨v,h1,h2⟩:=t1.dat z e2
    exact ⟨v,by rw [A5,if_neg e1];exact h1,h2⟩
 ·rw [eL];exact r.2.2.mono s1.lef
 ·rw [eL];exact s1.lef
theorem OzS.put {K:PySem.W.Frag} {H:Hp} {fs:List (Str×V)} {p:Addr} {us:List V} (t:OzS K R lf df (lef R.L H) H fs) (hp:(f,p)∈R.ls) (hf:fs.lookup f=some (.ref p)) (dv:DVs K (lef R.L H) us ds) (hn:noLs ds=true):Oz K R (upL f ds lf) df (upd H p (.lst us)):=by
 have hpL:p∈R.L:=List.mem_cons_of_mem _ (List.mem_cons_of_mem _ (List.mem_map_of_mem (f:=(·.2)) hp))
 have eL:lef R.L (upd H p (.lst us))=lef R.L H:=BN hpL
 have npa:R.a≠p:=fun z=>(List.nodup_cons.mp t.nda).1 (by rw [z];exact List.mem_cons_of_mem _ (List.mem_map_of_mem (f:=(·.2)) hp))
 have npd:R.dx≠p:=fun z=>(List.nodup_cons.mp (List.nodup_cons.mp t.nda).2).1 (by rw [z];exact List.mem_map_of_mem (f:=(·.2)) hp)
 refine ⟨fs,?_⟩
 rw [eL]
 refine ⟨by rw [Au npa];exact t.obj,by rw [Au npd];exact t.own1,t.few,t.nam,t.nda,fun z hz=>by rw [J1];exact t.apart z hz,fun z hz=>?_,fun z hz=>?_,t.dat⟩
 ·by_cases e:z.2=p
  ·rw [e];exact ⟨us,Aw⟩
  ·rw [Au e];exact t.own z hz
 ·rcases Lw hz with ⟨e1,e2,_⟩ | ⟨e1,e2⟩
  ·rw [e1,e2]
   exact ⟨p,us,hp,hf,Aw,dv,hn⟩
  ·obtain ⟨p',us',h1,h2,h3,h4,h5⟩:=t.lst z e2
   have hne:p'≠p:=fun w=>by
    subst w
    have:∀{l:List (Str×Addr)},(l.map (·.2)).Nodup→(f,p')∈l→(z.1,p')∈l→z.1=f:=by
     intro l
     induction l with
     | nil=>intro _ h;cases h
     | cons y r ih=>
       intro hn h1 h2
       rw [List.map_cons,List.nodup_cons] at hn
       rcases List.mem_cons.mp h1 with e | h1 <;> rcases List.mem_cons.mp h2 with e' | h2
       ·rw [←e'] at e;cases e;rfl
       ·exact absurd (by rw [←e];exact List.mem_map_of_mem (f:=(·.2)) h2) hn.1
       ·exact absurd (by rw [←e'];exact List.mem_map_of_mem (f:=(·.2)) h1) hn.1
       ·exact ih hn.2 h1 h2
    exact e1 (this (List.nodup_cons.mp (List.nodup_cons.mp t.nda).2).2 hp h1)
   exact ⟨p',us',h1,h2,by rw [Au hne];exact h3,h4,h5⟩
theorem Nd {z:Int} (cl:Cls X.K R.C) (na:NoAttr X.K R.C f) (hi:(i,R.a)∈rs) (hv:PE X (.Name x pos2) (tVar i)) (h:EV X (viewO R.C lf df i G) e d) (hn:noL d=true) (hb:EV X (viewO R.C lf df i G) b (.int z)) (hf:(f,ds)∈lf) (z0:0≤z) (z1:z < ds.length)
  (hba:attributeBase (.Name x pos2) f X.env (eval (.Name x pos2) X.env)=eval (.Name x pos2) X.env:=by rfl)
  (ha:∀v,assign (.Subscript (.Attribute (.Name x pos2) f pos4) b pos3) X.env v=(do
   let ov ←holding [v] (eval (.Attribute (.Name x pos2) f pos4) X.env)
   let iv ←holding [v,ov] (eval b X.env)
   standAt pos3
   holding [v,ov,iv] (setItem ov iv v)
   release [v,ov,iv] []):=by intro _;rfl)
  (hs:swapsWithSole [.Subscript (.Attribute (.Name x pos2) f pos4) b pos3] e pos.line X.env=pure false:=by rfl) (hw:swappedStores [.Subscript (.Attribute (.Name x pos2) f pos4) b pos3] e X.env=pure none:=by rfl)
  (h1:(assignEach [.Subscript (.Attribute (.Name x pos2) f pos4) b pos3] X.env).map (·.2)=[assign (.Subscript (.Attribute (.Name x pos2) f pos4) b pos3) X.env]:=by rfl):PS X (.Assign [.Subscript (.Attribute (.Name x pos2) f pos4) b pos3] e pos) (zN X.K R.L (Oz X.K R lf df) rs G G (Oz X.K R (upL f (ds.set z.toNat d) lf) df)):=by
 refine (GK h (KG (K9 hv hba) hb set_list ha) hs hw h1).imp fun D σ H ⟨r,q⟩=>⟨r.viewO hi,fun v H1 s1 d1=>?_⟩
 have r1:=r.step oz_ok s1
 obtain ⟨fs,t⟩:=id r1.2.1
 obtain ⟨p,us,hp,hl,hu,du,nd⟩:=t.lst _ hf
 refine ⟨.ref R.a,r.1 _ hi,R.a,R.C,R.dx,fs,.ref p,rfl,t.obj,cl,na,hl,r1.viewO hi,fun w H2 s2 d2=>?_⟩
 have d2:=d2.of_int
 subst d2
 have r2:=r1.step oz_ok s2
 have t2:=t.mono s2.lef s2
 have dv2:=DV.lef (oz_ok.notup r2.2.1) (d1.mono s2) hn
 have eL:lef R.L (upd H2 p (.lst (us.set z.toNat v)))=lef R.L H2:=BN (List.mem_cons_of_mem _ (List.mem_cons_of_mem _ (List.mem_map_of_mem (f:=(·.2)) hp)))
 have hlen:us.length=ds.length:=du.length
 refine ⟨p,us,z,z.toNat,rfl,rfl,s2 _ _ hu,?_,?_⟩
 ·unfold ixN
  rw [if_pos z0,if_pos (by rw [hlen];exact z1)]
 ·refine q σ _ ⟨r.1,t2.put hp hl ((du.mono s2.lef).setAt dv2 _) ?_,?_⟩ ?_
  ·have:∀(l:List PyData) (n:Nat),noLs l=true→noLs (l.set n d)=true:=by
    intro l
    induction l with
    | nil=>intro n h;exact h
    | cons y r ih=>
      intro n h
      unfold noLs at h
      rw [Bool.and_eq_true] at h
      cases n with
      | zero=>rw [List.set_cons_zero];unfold noLs;rw [hn,h.2];rfl
      | succ n=>rw [List.set_cons_succ];unfold noLs;rw [h.1,ih n h.2];rfl
   exact this ds _ nd
  ·rw [eL];exact r2.2.2
  ·rw [eL];exact s1.lef.trans s2.lef
theorem HZ (cl:Cls X.K R.C) (na:NoAttr X.K R.C f) (hi:(i,R.a)∈rs) (hv:PE X (.Name x pos2) (tVar i)) (h:EV X (viewO R.C lf df i G) e d) (hn:noL d=true) (hf:(f,ds)∈lf) (hz:ds.length < sizeLine)
  (hba:attributeBase (.Name x pos2) f X.env (eval (.Name x pos2) X.env)=eval (.Name x pos2) X.env:=by rfl)
  (hb2:attributeBase (.Attribute (.Name x pos2) f pos3) "append" X.env (eval (.Attribute (.Name x pos2) f pos3) X.env)=eval (.Attribute (.Name x pos2) f pos3) X.env:=by rfl)
  (hs0:starEach [e] X.env=(false,eval e X.env)::starEach [] X.env:=by rfl)
  (hfew:((backTo pos' (starEach [e] X.env)).all (fun x=>!x.1) && (backToKw pos' (keywordEach [] X.env)).all (fun x=>x.1.isSome)
   && decide ([e].length + ([]:List Keyword).length + (if ([]:List Keyword).isEmpty then 0 else 1) < 30))=true:=by rfl)
  (hline:(pos4.endLine==pos'.line)=true:=by rfl) (hpl:(backTo pos' (starEach [] X.env)).any (·.1)=false:=by rfl)
  (hsw:swapsWith (.Call (.Attribute (.Attribute (.Name x pos2) f pos3) "append" pos4) [e] [] pos') none pos.line X.env=pure false:=by rfl):
  PS X (.Expr (.Call (.Attribute (.Attribute (.Name x pos2) f pos3) "append" pos4) [e] [] pos') pos) (zN X.K R.L (Oz X.K R lf df) rs G G (Oz X.K R (upL f (ds++[d]) lf) df)):=by
 refine (Da (La PySem.F.plainAttrs_list PySem.F.slot_list_append PySem.F.type_list_append E_ (K9 hv hba) (Aa h Ad hs0) hb2 hfew hline hs0 hpl) hsw).imp fun D σ H ⟨r,q⟩=>?_
 obtain ⟨fs,t⟩:=id r.2.1
 obtain ⟨p,us,hp,hl,hu,du,nd⟩:=t.lst _ hf
 refine ⟨.ref R.a,r.1 _ hi,R.a,R.C,R.dx,fs,.ref p,rfl,t.obj,cl,na,hl,.inl ⟨rfl,us,SqL.of hu⟩,r.viewO hi,fun vs H1 s1 dvs=>?_⟩
 obtain ⟨v,rfl,dv⟩:=dvs.one
 have r1:=r.step oz_ok s1
 have t1:=t.mono s1.lef s1
 have dv1:=DV.lef (oz_ok.notup r1.2.1) dv hn
 have eL:lef R.L (upd H1 p (.lst (us++[v])))=lef R.L H1:=BN (List.mem_cons_of_mem _ (List.mem_cons_of_mem _ (List.mem_map_of_mem (f:=(·.2)) hp)))
 refine ⟨p,us,v,rfl,rfl,s1 _ _ hu,by rw [du.length];exact hz,q σ _ ⟨r.1,t1.put hp hl ((du.mono s1.lef).append (.cons dv1 .nil)) ?_,?_⟩ ?_⟩
 ·have:∀xs:List PyData,noLs xs=true→noLs (xs++[d])=true:=by
   intro xs
   induction xs with
   | nil=>intro _;show (noL d && true)=true;rw [hn];rfl
   | cons y r ih=>
     intro h
     rw [List.cons_append]
     unfold noLs at h ⊢
     rw [Bool.and_eq_true] at h
     rw [h.1,ih h.2]
     rfl
  exact this ds nd
 ·rw [eL];exact r1.2.2
 ·rw [eL];exact s1.lef
end
def spO (K:PySem.W.Frag) (C:Addr) (F:LF→DF→List PyData→PyData→LF→DF→Prop):Sp:=fun vs H Q _=>∃(R:OR) (lf:LF) (df:DF) (ds:List PyData) (d:PyData) (lf':LF) (df':DF) (vr:List V),R.C=C∧vs=.ref R.a::vr∧Oz K R lf df H∧DVs K (lef R.L H) vr ds∧F lf df ds d lf' df'∧
 ∀v H',Oz K R lf' df' H'→Same (lef R.L H) (lef R.L H')→DV K (lef R.L H') v d→Q v H'
def OFn (P:Program) (w:World) (K:PySem.W.Frag) (mg:Str→Option Value) (base:Heap) (k:Nat) (C:Addr) (m:Str) (F:LF→DF→List PyData→PyData→LF→DF→Prop):Prop:=
 ∃f fd ps,FnOk P w K mg base CX0 k f fd ps (spO K C F)∧Meth K C m f∧Binds K fd ps []
section
variable {P:Program} {w:World} {K:PySem.W.Frag} {mg:Str→Option Value} {base:Heap}
theorem Fun.objN {x qual n0 m:Str} {st:Stmt} {f:Addr} {fd:FuncData} {N ps:List Str} {k:Nat} {C:Addr} {F:LF→DF→List PyData→LF→DF→Prop} (F0:Fun K x qual st f fd) (hm:Meth K C m f) (hb:Binds K fd ps []) (S:FnScope (n0::N) ps (Ai st)) (len:∀lf df ds lf' df',F lf df ds lf' df'→ds.length + 1=ps.length)
  (hbody:∀(cdv:Value) (A:Around) (outer:List Env) (s:Shared) (H:Hp) (E:XK) (R:OR) (lf:LF) (df:DF) (ds:List PyData) (lf':LF) (df':DF),Room k (A.deeper (envOfC qual (Ai st) s.heap.objs.size f cdv))→R.C=C→F lf df ds lf' df'→
   ∃G',PSs (cxOf CX0 P w K mg base (n0::N) qual (Ai st) f cdv A outer s H E).nox (AM st) (zN K R.L (Oz K R lf df) [(0,R.a)] (none::Bm N ds) G' (Oz K R lf' df'))):OFn P w K mg base (k + 1) C m (fun lf df ds d lf' df'=>F lf df ds lf' df'∧d=.none):=by
 refine ⟨f,fd,ps,F0.ok S (fun vs H Q E ⟨R,lf,df,ds,d,lf',df',vr,_,e,_,dv,hF,_⟩=>by rw [e,List.length_cons,dv.length];exact len lf df ds lf' df' hF.1) (fun cdv A outer s H vs Q E hr ⟨R,lf,df,ds,d,lf',df',vr,hC,e,tb,dv,⟨hF,ed⟩,q⟩=>?_),hm,hb⟩
 subst e ed
 obtain ⟨G',hps⟩:=hbody cdv A outer s H E R lf df ds lf' df' hr hC hF
 refine ⟨_,hps,⟨fun z hz=>?_,tb,?_⟩,fun σ' H' r' s'=>q .non H' r'.2.1 s' .non⟩
 ·have:=List.mem_singleton.mp hz
  subst this
  rw [Bx]
  rfl
 ·rw [Bx];exact (SD.start dv).cons0 _
end
section
variable {X:Cx} {L:List Addr} {I I1 I2:Hp→Prop} {R:OR} {lf lf' lf1:LF} {df df' df1:DF} {rs:List (Nat×Addr)} {G G1 G2:Gam} {e c a b:Expr} {es:List Expr} {d:PyData} {ds ws:List PyData} {k i j:Nat} {pos pos' pos2 pos3 pos4 apos p1:Pos} {x f m:Str}
theorem Lq (h:ZE X L I rs G e d I1) (hs:swapsWith e none pos.line X.env=pure false:=by rfl):PS X (.Expr e pos) (zN X.K L I rs G G I1):=
 (Da h hs).imp fun D σ H ⟨r,q⟩=>⟨r,fun v H' t' s' _=>q σ H' (r.next t' s') s'⟩
end
structure OB (K:PySem.W.Frag) (C a dx:Addr) (H0:Hp) (ls:List (Str×Addr)) (lf:LF) (df:DF) (G:Gam) (σ:St) (H:Hp) (fs:List (Str×V)):Prop where
 slot:σ[0]?=some (some (.ref a))
 oz:OzS K ⟨C,a,dx,ls⟩ lf df (lef (OR.L ⟨C,a,dx,ls⟩) H) H fs
 sd:SD K (lef (OR.L ⟨C,a,dx,ls⟩) H) σ G
 cnt:fs.length≤lf.length + df.length
 keep:∀b o,b≠a→H0 b=some o→H b=some o
 fre:∀q∈ls,H0 q.2=none
def tOB (K:PySem.W.Frag) (C a dx:Addr) (H0:Hp) (lf:LF) (df:DF) (G:Gam) (lf':LF) (df':DF):TS:=fun D σ H=>(∃ls fs,OB K C a dx H0 ls lf df G σ H fs)∧∀ls' fs' H',OB K C a dx H0 ls' lf' df' G σ H' fs'→D.nx σ H'
section
variable {X:Cx} {C a dx:Addr} {H0:Hp} {lf lf' lf2:LF} {df df' df2:DF} {G:Gam} {e:Expr} {d:PyData} {ws:List PyData} {pos pos' pos2:Pos} {x f:Str}
theorem Bg {st:Stmt} {sts:List Stmt} (h1:PS X st (tOB X.K C a dx H0 lf df G lf' df')) (h2:PSs X sts (tOB X.K C a dx H0 lf' df' G lf2 df2)):PSs X (st::sts) (tOB X.K C a dx H0 lf df G lf2 df2):=
 (A7 h1 h2).imp fun D σ H ⟨r,q⟩=>⟨r,fun ls fs H' o=>⟨⟨ls,fs,o⟩,q⟩⟩
theorem L3:PSs X [] (tOB X.K C a dx H0 lf df G lf df):=pss_nil.imp fun D σ H ⟨⟨ls,fs,o⟩,q⟩=>q ls fs H o
theorem OB.step {K:PySem.W.Frag} {ls:List (Str×Addr)} {σ:St} {H H':Hp} {fs:List (Str×V)} (o:OB K C a dx H0 ls lf df G σ H fs) (s:Same H H'):OB K C a dx H0 ls lf df G σ H' fs:=
 ⟨o.slot,o.oz.mono s.lef s,o.sd.mono s.lef,o.cnt,fun b u hb e=>s _ _ (o.keep b u hb e),o.fre⟩
theorem Lu (h:EV X G e d) (hs:swapsWith e none pos.line X.env=pure false:=by rfl):PS X (.Expr e pos) (tOB X.K C a dx H0 lf df G lf df):=
 (Da h hs).imp fun D σ H ⟨⟨ls,fs,o⟩,q⟩=>⟨o.sd.mono lef_same,fun v H' s' _=>q ls fs H' (o.step s')⟩
theorem OB.data {K:PySem.W.Frag} {ls:List (Str×Addr)} {σ:St} {H:Hp} {fs:List (Str×V)} {y:V} (o:OB K C a dx H0 ls lf df G σ H fs) (dv:DV K (lef (OR.L ⟨C,a,dx,ls⟩) H) y d) (hf:f∉lf.map (·.1)) (hf2:f∉df.map (·.1)) (hA:f∈Bt) (hz:lf.length + df.length < 30):OB K C a dx H0 ls lf (df++[(f,d)]) G σ (upd H a (.ins C dx (putF f y fs))) (putF f y fs):=by
 have eL:lef (OR.L ⟨C,a,dx,ls⟩) (upd H a (.ins C dx (putF f y fs)))=lef (OR.L ⟨C,a,dx,ls⟩) H:=BN List.mem_cons_self
 have nal:∀p∈ls.map (·.2),p≠a:=fun p hp z=>(List.nodup_cons.mp o.oz.nda).1 (z ▸ List.mem_cons_of_mem _ hp)
 have nad:dx≠a:=fun z=>(List.nodup_cons.mp o.oz.nda).1 (z ▸ List.mem_cons_self)
 have hlen:=C0 f y fs
 have hc:=o.cnt
 refine ⟨o.slot,?_,by rw [eL];exact o.sd,by rw [List.length_append];show _≤lf.length + (df.length + 1);omega,fun b u hb e=>by rw [Au hb];exact o.keep b u hb e,o.fre⟩
 rw [eL]
 refine ⟨Aw,by rw [Au nad];exact o.oz.own1,by omega,fun m hm=>?_,o.oz.nda,fun z hz=>?_,fun z hz=>?_,fun z hz=>?_,fun z hz=>?_⟩
 ·rw [A5,if_neg (fun w:m=f=>hm (w ▸ hA))]
  exact o.oz.nam m hm
 ·rcases List.mem_append.mp hz with hz | hz
  ·exact o.oz.apart z hz
  ·rw [List.mem_singleton.mp hz];exact hf
 ·obtain ⟨us,hu⟩:=o.oz.own z hz
  exact ⟨us,by rw [Au (nal _ (List.mem_map_of_mem hz))];exact hu⟩
 ·obtain ⟨p,us,h1,h2,h3,h4,h5⟩:=o.oz.lst z hz
  refine ⟨p,us,h1,?_,?_,h4,h5⟩
  ·rw [A5,if_neg (fun w:z.1=f=>hf (w ▸ List.mem_map_of_mem hz))]
   exact h2
  ·rw [Au (nal _ (List.mem_map_of_mem (f:=(·.2)) h1))]
   exact h3
 ·rcases List.mem_append.mp hz with hz | hz
  ·obtain ⟨v,h1,h2⟩:=o.oz.dat z hz
   exact ⟨v,by rw [A5,if_neg (fun w:z.1=f=>hf2 (w ▸ List.mem_map_of_mem hz))];exact h1,h2⟩
  ·rw [List.mem_singleton.mp hz]
   exact ⟨y,by rw [A5,if_pos rfl],dv⟩
theorem OB.ok {K:PySem.W.Frag} {ls:List (Str×Addr)} {σ:St} {H:Hp} {fs:List (Str×V)} (o:OB K C a dx H0 ls lf df G σ H fs):Oz K ⟨C,a,dx,ls⟩ lf df H:=⟨fs,o.oz⟩
theorem Ej (cl:Cls X.K C) (na:NoAttr X.K C f) (hv:PE X (.Name x pos2) (tVar 0)) (h:EV X G e d) (hn:noL d=true) (hf:f∉lf.map (·.1)) (hf2:f∉df.map (·.1)) (hA:f∈Bt) (hz:lf.length + df.length < 30)
  (hs:swapsWith e (some (.Attribute (.Name x pos2) f pos')) pos.line X.env=pure false:=by rfl):PS X (.Assign [.Attribute (.Name x pos2) f pos'] e pos) (tOB X.K C a dx H0 lf df G lf (df++[(f,d)])):=by
 refine (Ig hv h hs).imp fun D σ H ⟨⟨ls,fs,o⟩,q⟩=>⟨o.sd.mono lef_same,fun y H1 s1 d1=>?_⟩
 have o1:=o.step s1
 exact ⟨.ref a,o.slot,a,C,dx,fs,rfl,o1.oz.obj,cl,na,by have:=o.cnt;omega,q _ _ _ (o1.data (DV.lef (oz_ok.notup o1.ok) d1 hn) hf hf2 hA hz)⟩
theorem Hc (cl:Cls X.K C) (na:NoAttr X.K C f) (hv:PE X (.Name x pos2) (tVar 0)) (h:EVF X G e ws) (hn:noLs ws=true) (hf:f∉lf.map (·.1)) (hf2:f∉df.map (·.1)) (hA:f∈Bt) (hz:lf.length + df.length < 30)
  (hs:swapsWith e (some (.Attribute (.Name x pos2) f pos')) pos.line X.env=pure false:=by rfl):PS X (.Assign [.Attribute (.Name x pos2) f pos'] e pos) (tOB X.K C a dx H0 lf df G (lf++[(f,ws)]) df):=by
 refine (Ig hv h hs).imp fun D σ H ⟨⟨ls,fs,o⟩,q⟩=>⟨o.sd.mono lef_same,fun p us H1 hp s1 hl d1=>?_⟩
 have o1:=o.step s1
 have hpL:p∉OR.L ⟨C,a,dx,ls⟩:=oz_ok.free o.ok hp
 refine ⟨.ref a,o.slot,a,C,dx,fs,rfl,o1.oz.obj,cl,na,by have:=o.cnt;omega,q (ls++[(f,p)]) (putF f (.ref p) fs) _ ?_⟩
 have hpa:p≠a:=fun z=>hpL (by rw [z];exact List.mem_cons_self)
 have nal:∀p∈ls.map (·.2),p≠a:=fun p hp z=>(List.nodup_cons.mp o.oz.nda).1 (z ▸ List.mem_cons_of_mem _ hp)
 have nad:dx≠a:=fun z=>(List.nodup_cons.mp o.oz.nda).1 (z ▸ List.mem_cons_self)
 have hlen:=C0 f (.ref p) fs
 have hc:=o.cnt
 have e2:OR.L ⟨C,a,dx,ls++[(f,p)]⟩=OR.L ⟨C,a,dx,ls⟩++[p]:=by show a::dx::(ls++[(f,p)]).map (·.2)=_;rw [List.map_append];rfl
 have sub:∀{H':Hp},Same (lef (OR.L ⟨C,a,dx,ls⟩) H) H'→∀b o,lef (OR.L ⟨C,a,dx,ls⟩) H b=some o→b≠p:=fun _ b o e z=>by
  subst z
  have:=lef_same _ _ e
  rw [hp] at this
  cases this
 have sL:Same (lef (OR.L ⟨C,a,dx,ls⟩) H) (lef (OR.L ⟨C,a,dx,ls++[(f,p)]⟩) (upd H1 a (.ins C dx (putF f (.ref p) fs)))):=fun b o e=>by
  have n1:b≠p:=sub (Same.refl _) b o e
  have n2:b∉OR.L ⟨C,a,dx,ls⟩:=fun z=>by rw [AO z] at e;cases e
  have n3:b∉OR.L ⟨C,a,dx,ls++[(f,p)]⟩:=by
   rw [e2]
   intro z
   rcases List.mem_append.mp z with z | z
   ·exact n2 z
   ·exact n1 (List.mem_singleton.mp z)
  rw [Ax n3,Au fun z=>n2 (by rw [z];exact List.mem_cons_self)]
  rw [Ax n2] at e
  exact s1 _ _ e
 have dws:DVs X.K (lef (OR.L ⟨C,a,dx,ls++[(f,p)]⟩) (upd H1 a (.ins C dx (putF f (.ref p) fs)))) us ws:=by
  have h1:DVs X.K (lef [p] (lef (OR.L ⟨C,a,dx,ls⟩) H1)) us ws:=by
   have nt:∀b∈[p],∀xs,¬Rd (lef (OR.L ⟨C,a,dx,ls⟩) H1) b (.tup xs):=fun b hb xs r=>by
    have:=List.mem_singleton.mp hb
    subst this
    rcases r with r | ⟨q,r⟩ <;> (rw [Ax hpL,hl] at r;cases r)
   exact DVs.lef nt (DVs.lef (oz_ok.notup o1.ok) d1 hn) hn
  refine h1.mono fun b o e=>?_
  have m1:b∉[p]:=fun z=>by rw [AO z] at e;cases e
  rw [Ax m1] at e
  have m2:b∉OR.L ⟨C,a,dx,ls⟩:=fun z=>by rw [AO z] at e;cases e
  rw [Ax m2] at e
  have m3:b∉OR.L ⟨C,a,dx,ls++[(f,p)]⟩:=by
   rw [e2]
   intro z
   rcases List.mem_append.mp z with z | z
   ·exact m2 z
   ·exact m1 z
  rw [Ax m3,Au fun z=>m2 (by rw [z];exact List.mem_cons_self)]
  exact e
 refine ⟨o.slot,?_,o.sd.mono sL,by rw [List.length_append];show _≤lf.length + 1 + df.length;omega,fun b u hb e=>by rw [Au hb];exact o1.keep b u hb e,fun z hz=>?_⟩
 ·refine ⟨Aw,by show upd H1 a _ dx=_;rw [Au nad];exact s1 _ _ o.oz.own1,by omega,fun m hm=>?_,?_,fun z hz=>?_,fun z hz=>?_,fun z hz=>?_,fun z hz=>?_⟩
  ·rw [A5,if_neg (fun w:m=f=>hm (w ▸ hA))]
   exact o.oz.nam m hm
  ·rw [e2,List.nodup_append]
   refine ⟨o.oz.nda,List.nodup_cons.mpr ⟨by simp,List.nodup_nil⟩,fun y hy z hz w=>?_⟩
   rw [List.mem_singleton.mp hz] at w
   exact hpL (w ▸ hy)
  ·rw [List.map_append]
   intro w
   rcases List.mem_append.mp w with w | w
   ·exact o.oz.apart z hz w
   ·exact hf2 ((show z.1=f from List.mem_singleton.mp w) ▸ List.mem_map_of_mem hz)
  ·rcases List.mem_append.mp hz with hz | hz
   ·obtain ⟨us',hu⟩:=o1.oz.own z hz
    exact ⟨us',by rw [Au (nal _ (List.mem_map_of_mem hz))];exact hu⟩
   ·rw [List.mem_singleton.mp hz]
    exact ⟨us,by rw [Au hpa];exact hl⟩
  ·rcases List.mem_append.mp hz with hz | hz
   ·obtain ⟨p',us',h1,h2,h3,h4,h5⟩:=o.oz.lst z hz
    refine ⟨p',us',List.mem_append_left _ h1,?_,?_,h4.mono sL,h5⟩
    ·rw [A5,if_neg (fun w:z.1=f=>hf (w ▸ List.mem_map_of_mem hz))]
     exact h2
    ·show upd H1 a _ p'=_
     rw [Au (nal _ (List.mem_map_of_mem (f:=(·.2)) h1))]
     exact s1 _ _ h3
   ·rw [List.mem_singleton.mp hz]
    exact ⟨p,us,List.mem_append_right _ List.mem_cons_self,by rw [A5,if_pos rfl],by show upd H1 a _ p=_;rw [Au hpa];exact hl,dws,hn⟩
  ·obtain ⟨v,h1,h2⟩:=o.oz.dat z hz
   exact ⟨v,by rw [A5,if_neg (fun w:z.1=f=>hf2 (w ▸ List.mem_map_of_mem hz))];exact h1,h2.mono sL⟩
 ·rcases List.mem_append.mp hz with hz | hz
  ·exact o.fre z hz
  ·rw [List.mem_singleton.mp hz]
   show H0 p=none
   cases e:H0 p with
   | none=>rfl
   | some u=>have:=o.keep p u hpa e;rw [hp] at this;cases this
end
def spOI (K:PySem.W.Frag) (C:Addr) (F:List PyData→LF→DF→Prop):Sp:=fun vs H Q _=>∃(a dx:Addr) (ds:List PyData) (lf:LF) (df:DF) (vr:List V),vs=.ref a::vr∧H a=some (.ins C dx [])∧H dx=some (.own a)∧dx≠a∧DVs K (lef [a,dx] H) vr ds∧F ds lf df∧
 ∀H' R,R.C=C→R.a=a→R.dx=dx→Oz K R lf df H'→(∀b o,b≠a→H b=some o→H' b=some o)→(∀q∈R.ls,H q.2=none)→Q .non H'
def OIFn (P:Program) (w:World) (K:PySem.W.Frag) (mg:Str→Option Value) (base:Heap) (k:Nat) (C:Addr) (F:List PyData→LF→DF→Prop):Prop:=
 ∃f fd ps,FnOk P w K mg base CX0 k f fd ps (spOI K C F)∧Mk K C f∧Binds K fd ps []
theorem Fun.objI {P:Program} {w:World} {K:PySem.W.Frag} {mg:Str→Option Value} {base:Heap} {x qual n0:Str} {st:Stmt} {f:Addr} {fd:FuncData} {N ps:List Str} {k:Nat} {C:Addr} {F:List PyData→LF→DF→Prop} (F0:Fun K x qual st f fd) (hm:Mk K C f) (hb:Binds K fd ps []) (S:FnScope (n0::N) ps (Ai st)) (len:∀ds lf df,F ds lf df→ds.length + 1=ps.length)
  (hbody:∀(cdv:Value) (A:Around) (outer:List Env) (s:Shared) (H:Hp) (E:XK) (a dx:Addr) (H0:Hp) (ds:List PyData) (lf:LF) (df:DF),Room k (A.deeper (envOfC qual (Ai st) s.heap.objs.size f cdv))→F ds lf df→
   PSs (cxOf CX0 P w K mg base (n0::N) qual (Ai st) f cdv A outer s H E).nox (AM st) (tOB K C a dx H0 [] [] (none::Bm N ds) lf df)):OIFn P w K mg base (k + 1) C F:=by
 refine ⟨f,fd,ps,F0.ok S (fun vs H Q E ⟨a,dx,ds,lf,df,vr,e,_,_,_,dv,hF,_⟩=>by rw [e,List.length_cons,dv.length];exact len ds lf df hF) (fun cdv A outer s H vs Q E hr ⟨a,dx,ds,lf,df,vr,e,ha,hdx,hne,dv,hF,q⟩=>?_),hm,hb⟩
 subst e
 refine ⟨_,hbody cdv A outer s H E a dx H ds lf df hr hF,⟨[],[],?_,?_,?_,Nat.zero_le _,fun b o _ e=>e,(fun z hz=>by cases hz)⟩,fun ls' fs' H' o=>q H' ⟨C,a,dx,ls'⟩ rfl rfl rfl o.ok (fun b u hb e=>o.keep b u hb e) o.fre⟩
 ·rw [Bx];rfl
 ·exact ⟨ha,hdx,Nat.zero_le _,fun _ _=>rfl,List.nodup_cons.mpr ⟨by simpa using Ne.symm hne,List.nodup_cons.mpr ⟨by simp,List.nodup_nil⟩⟩,(fun z hz=>by cases hz),(fun z hz=>by cases hz),(fun z hz=>by cases hz),(fun z hz=>by cases hz)⟩
 ·rw [Bx];exact (SD.start dv).cons0 _
section
variable {X:Cx} {C:Addr} {G:Gam} {k i:Nat} {e:Expr} {es:List Expr} {ds:List PyData} {lf:LF} {df:DF} {sts:List Stmt} {d:PyData} {p1 p2 p3 p4:Pos} {x xt:Str}
end
section
variable {X:Cx} {L:List Addr} {I I1:Hp→Prop} {rs:List (Nat×Addr)} {G:Gam} {e:Expr} {pos:Pos} {i j l:Nat}
end
def Fo (H:Hp) (L:List Addr) (b:Addr):Prop:=(∃xs,H b=some (.lst xs))∨(∃C dx fs,H b=some (.ins C dx fs)∧dx∈L)∨∃a C fs,H b=some (.own a)∧a∈L∧H a=some (.ins C b fs)
def Cc (L:List Addr) (H H':Hp):Hp:=fun b=>if b∈L then H b else H' b
theorem BC {L:List Addr} {H H':Hp} {b:Addr} (h:b∈L):Cc L H H' b=H b:=by unfold Cc;rw [if_pos h]
theorem CO {L:List Addr} {H H':Hp} {b:Addr} (h:b∉L):Cc L H H' b=H' b:=by unfold Cc;rw [if_neg h]
theorem BJ {L:List Addr} {H H':Hp} (h:∀b∈L,H' b=none):lef L (Cc L H H')=H':=by
 funext b
 by_cases hb:b∈L
 ·rw [AO hb,h b hb]
 ·rw [Ax hb,CO hb]
section
variable {X:Cx} {pins:List (Addr×Obj)} {σ:St} {H H':Hp} {s s':Shared} {L:List Addr}
theorem Inv.fsFree (I:Inv X pins σ H s):∀b∈X.fs,H b=none:=fun b hb=>by
 obtain ⟨_,o,ho,_⟩:=I.ok.funs.mem hb
 exact I.base.free b o ho (I.ok.frf b hb) fun z=>I.ok.exfs b z hb
theorem Fo.obj (I:Inv X pins σ H s) {b:Addr} (f:Fo H L b):∃o,s.heap.get? b=some o∧∀v,o.data≠.cell v:=by
 rcases f with ⟨xs,e⟩ | ⟨C,dx,fs,e,_⟩ | ⟨a,C,fs,e,_,ea⟩
 ·obtain ⟨_,its,n,_,g⟩:=(show ObjOk X.prog X.w H s.heap b (.lst xs) from I.hok b _ e)
  exact ⟨_,g,fun v z=>by cases z⟩
 ·obtain ⟨_,_,_,g,_⟩:=(show ObjOk X.prog X.w H s.heap b (.ins C dx fs) from I.hok b _ e)
  exact ⟨_,g,fun v z=>by cases z⟩
 ·obtain ⟨_,_,_,_,mA,⟨od,es,ep,g,d,_⟩,_⟩:=(show ObjOk X.prog X.w H s.heap a (.ins C b fs) from I.hok a _ ea)
  exact ⟨od,g,fun v z=>by rw [d] at z;cases z⟩
theorem Fo.some {b:Addr} (f:Fo H L b):∃o,H b=some o∧(∀xs,o≠.tup xs)∧(∀q u,o≠.frz q u)∧∀ps,o≠.tbl ps:=by
 rcases f with ⟨xs,e⟩ | ⟨C,dx,fs,e,_⟩ | ⟨a,C,fs,e,_,_⟩
 ·exact ⟨_,e,(fun _ z=>by cases z),(fun _ _ z=>by cases z),(fun _ z=>by cases z)⟩
 ·exact ⟨_,e,(fun _ z=>by cases z),(fun _ _ z=>by cases z),(fun _ z=>by cases z)⟩
 ·exact ⟨_,e,(fun _ z=>by cases z),(fun _ _ z=>by cases z),(fun _ z=>by cases z)⟩
end
def Fq (H:Hp) (L:List Addr) (b:Addr):Prop:=Fo H L b∨∃kvs,H b=some (.dK kvs)
section
variable {X:Cx} {pins:List (Addr×Obj)} {σ σ':St} {H H':Hp} {s s':Shared} {L:List Addr}
theorem Fq.obj (I:Inv X pins σ H s) {b:Addr} (f:Fq H L b):∃o,s.heap.get? b=some o∧∀v,o.data≠.cell v:=by
 rcases f with f | ⟨kvs,e⟩
 ·exact f.obj I
 ·obtain ⟨_,_,vs,_,ob,es,ep,g,_,d,_⟩:=Qk I.hok (.inl e)
  exact ⟨ob,g,fun v z=>by rw [d] at z;cases z⟩
theorem Fq.some {b:Addr} (f:Fq H L b):∃o,H b=some o∧(∀xs,o≠.tup xs)∧(∀q u,o≠.frz q u)∧∀ps,o≠.tbl ps:=by
 rcases f with f | ⟨kvs,e⟩
 ·exact f.some
 ·exact ⟨_,e,(fun _ z=>by cases z),(fun _ _ z=>by cases z),(fun _ z=>by cases z)⟩
theorem I_ (I:Inv X pins σ H s):∀(l:List Addr),(∀b∈l,Fq H L b)→∃ps:List (Addr×Obj),ps.map (·.1)=l∧∀p∈ps,s.heap.get? p.1=some p.2∧∀v,p.2.data≠.cell v
 | [],_=>⟨[],rfl,(fun p hp=>by cases hp)⟩
 | b::l,h=>by
   obtain ⟨ps,e,g⟩:=I_ I l fun z hz=>h z (List.mem_cons_of_mem _ hz)
   obtain ⟨o,ho,hc⟩:=Fq.obj I (h b List.mem_cons_self)
   refine ⟨(b,o)::ps,by rw [List.map_cons,e],fun p hp=>?_⟩
   rcases List.mem_cons.mp hp with rfl | hp
   ·exact ⟨ho,hc⟩
   ·exact g p hp
theorem Inv.forgetQ (I:Inv X pins σ H s) (hL:∀b∈L,Fq H L b):∃ps:List (Addr×Obj),ps.map (·.1)=L∧Inv X (ps++pins) σ (lef L H) s:=by
 obtain ⟨ps,e,g⟩:=I_ I L hL
 have non:∀{b:Addr},H b=none→lef L H b=none:=fun {b} h=>by
  by_cases hb:b∈L
  ·exact AO hb
  ·rw [Ax hb];exact h
 have not:∀{b:Addr} {o:HO},H b=some o→((∃xs,o=.tup xs)∨(∃q u,o=.frz q u)∨∃ps,o=.tbl ps)→b∉L:=fun {b o} h k hb=>by
  obtain ⟨o',e',k1,k2,k3⟩:=Fq.some (hL b hb)
  rw [h] at e'
  cases e'
  rcases k with ⟨xs,rfl⟩ | ⟨q,u,rfl⟩ | ⟨ps,rfl⟩
  ·exact k1 _ rfl
  ·exact k2 _ _ rfl
  ·exact k3 _ rfl
 refine ⟨ps,e,I.ok,I.os,I.bare,⟨I.base.keep,I.base.slot,fun b o h1 h2 h3=>non (I.base.free b o h1 h2 h3),I.base.there,fun b xs h=>?_,fun b o u h=>?_,fun b q h=>?_⟩,I.loc,I.cell,non I.free,fun x c h=>non (I.freeC x c h),fun p hp=>?_,fun a o h=>?_,I.len⟩
 ·have:=I.base.tups b xs h
  rw [Ax (not this (.inl ⟨_,rfl⟩))];exact this
 ·have:=I.base.frzs b o u h
  rw [Ax (not this (.inr (.inl ⟨_,_,rfl⟩)))];exact this
 ·obtain ⟨more,this⟩:=I.base.tbls b q h
  exact ⟨more,by rw [Ax (not this (.inr (.inr ⟨_,rfl⟩)))];exact this⟩
 ·have old:p∈X.pn++pins→s.heap.get? p.1=some p.2∧lef L H p.1=none∧p.1≠X.env.locals∧p.1∉X.fs∧∀v,p.2.data≠.cell v:=fun h=>by
   obtain ⟨a,b,c⟩:=I.pin p h
   exact ⟨a,non b,c⟩
  rcases List.mem_append.mp hp with h | h
  ·exact old (List.mem_append_left _ h)
  ·rcases List.mem_append.mp h with h | h
   ·have hb:p.1∈L:=by rw [←e];exact List.mem_map_of_mem h
    obtain ⟨o',e',_⟩:=Fq.some (hL p.1 hb)
    exact ⟨(g p h).1,AO hb,(fun z=>by rw [z,I.free] at e';cases e'),(fun z=>by rw [I.fsFree _ z] at e';cases e'),(g p h).2⟩
   ·exact old (List.mem_append_right _ h)
 ·have ha:a∉L:=fun z=>by rw [AO z] at h;cases h
  rw [Ax ha] at h
  refine (I.hok a o h).stay (fun b u _ q=>q) (fun b hb=>?_) fun b xs hb=>?_
  ·have:b∉L:=fun z=>by
    rcases hL b z with (⟨xs,e'⟩ | ⟨C,dx,fs,e',_⟩ | ⟨a',C,fs,e',ha',_⟩) | ⟨kvs,e'⟩
    ·rw [hb] at e';cases e'
    ·rw [hb] at e';cases e'
    ·rw [hb] at e';cases e';exact ha ha'
    ·rw [hb] at e';cases e'
   rw [Ax this];exact hb
  ·rw [Ax (not hb (.inl ⟨_,rfl⟩))];exact hb
theorem Inv.regainQ (I:Inv X pins σ H s) (hL:∀b∈L,Fq H L b) {ps:List (Addr×Obj)} (e:ps.map (·.1)=L) (J0:Inv X (ps++pins) σ (lef L H) s) (J:Inv X (ps++pins) σ' H' s'):(∀b∈L,H' b=none)∧Inv X pins σ' (Cc L H H') s':=by
 have fr:∀b∈L,H' b=none∧∀o,s.heap.get? b=some o→s'.heap.get? b=some o:=fun b hb=>by
  rw [←e] at hb
  obtain ⟨p,hp,rfl⟩:=List.mem_map.mp hb
  have j:=J.pin p (List.mem_append_right _ (List.mem_append_left _ hp))
  have j0:=J0.pin p (List.mem_append_right _ (List.mem_append_left _ hp))
  exact ⟨j.2.1,fun o ho=>by rw [j0.1] at ho;cases ho;exact j.1⟩
 have non:∀{b:Addr},(b∈L→H b=none)→H' b=none→Cc L H H' b=none:=fun {b} h h'=>by
  by_cases hb:b∈L
  ·rw [BC hb];exact h hb
  ·rw [CO hb];exact h'
 have up:∀{b:Addr} {o:HO},H' b=some o→Cc L H H' b=some o:=fun {b o} h=>by
  have hb:b∉L:=fun z=>by rw [(fr b z).1] at h;cases h
  rw [CO hb];exact h
 refine ⟨fun b hb=>(fr b hb).1,J.ok,J.os,J.bare,⟨J.base.keep,J.base.slot,fun b o h1 h2 h3=>non (fun _=>I.base.free b o h1 h2 h3) (J.base.free b o h1 h2 h3),J.base.there,fun b xs h=>up (J.base.tups b xs h),fun b o u h=>up (J.base.frzs b o u h),fun b q h=>let ⟨more,z⟩:=J.base.tbls b q h;⟨more,up z⟩⟩,J.loc,J.cell,non (fun _=>I.free) J.free,fun x c h=>non (fun _=>I.freeC x c h) (J.freeC x c h),fun p hp=>?_,fun a o h=>?_,J.len⟩
 ·have hp':p∈X.pn++(ps++pins):=by
   rcases List.mem_append.mp hp with h | h
   ·exact List.mem_append_left _ h
   ·exact List.mem_append_right _ (List.mem_append_right _ h)
  obtain ⟨a,b,c⟩:=J.pin p hp'
  exact ⟨a,non (fun _=>(I.pin p hp).2.1) b,c⟩
 ·by_cases ha:a∈L
  ·rw [BC ha] at h
   rcases hL a ha with (⟨xs,e'⟩ | ⟨C,dx,fs,e',hdx⟩ | ⟨a',C,fs,e',ha',ea'⟩) | ⟨kvs,e'⟩
   ·rw [h] at e'
    cases e'
    obtain ⟨z,its,n,r,g⟩:=(show ObjOk X.prog X.w H s.heap a (.lst xs) from I.hok a _ h)
    exact ⟨z,its,n,r,(fr a ha).2 _ g⟩
   ·rw [h] at e'
    cases e'
    obtain ⟨d,z,ne,g,mA,⟨od,es,ep,g2,c⟩,r⟩:=(show ObjOk X.prog X.w H s.heap a (.ins C dx fs) from I.hok a _ h)
    exact ⟨by rw [BC hdx];exact d,z,ne,(fr a ha).2 _ g,mA,⟨od,es,ep,(fr dx hdx).2 _ g2,c⟩,r⟩
   ·rw [h] at e'
    cases e'
    obtain ⟨ob,g⟩:=(show ObjOk X.prog X.w H s.heap a (.own a') from I.hok a _ h)
    exact ⟨ob,(fr a ha).2 _ g⟩
   ·rw [h] at e'
    cases e'
    obtain ⟨z,hd,vs,rel,ob,es,ep,g,c⟩:=(show ObjOk X.prog X.w H s.heap a (.dK kvs) from I.hok a _ h)
    exact ⟨z,hd,vs,rel,ob,es,ep,(fr a ha).2 _ g,c⟩
  ·rw [CO ha] at h
   exact (J.hok a o h).stay (fun b u _ q=>q) (fun b hb=>up hb) fun b xs hb=>up hb
end
theorem LW {X:Cx} {e:Expr} {t:TE} (L:List Addr) (h:PE X e t):PE X e (fun σ H Q=>(∀b∈L,Fq H L b)∧t σ (lef L H) fun v H'=>(∀b∈L,H' b=none)→Q v (Cc L H H')):=by
 intro pins s σ H Q I ⟨hL,q⟩
 obtain ⟨ps,e,J0⟩:=I.forgetQ hL
 refine thn (h (ps++pins) s σ (lef L H) _ J0 q) fun u s1 ⟨v,H1,J,r,k⟩=>?_
 obtain ⟨n,I1⟩:=I.regainQ hL e J0 J
 exact ⟨v,_,I1,r,k n⟩
theorem Nu {X:Cx} {e:Expr} {t:TE} (L:List Addr) (h:PE X e t):PE X e (fun σ H Q=>(∀b∈L,Fo H L b)∧t σ (lef L H) fun v H'=>Same (lef L H) H'∧((∀b∈L,H' b=none)→Q v (Cc L H H'))):=by
 intro pins s σ H Q I ⟨hL,q⟩
 have hQ:∀b∈L,Fq H L b:=fun b hb=>.inl (hL b hb)
 obtain ⟨ps,e,J0⟩:=I.forgetQ hQ
 refine thn (h (ps++pins) s σ (lef L H) _ J0 q) fun u s1 ⟨v,H1,J,r,sm,k⟩=>?_
 obtain ⟨n,I1⟩:=I.regainQ hQ e J0 J
 exact ⟨v,_,I1,r,k n⟩
theorem Oh {X:Cx} {L:List Addr} {I:Hp→Prop} {rs:List (Nat×Addr)} {G:Gam} {e:Expr} {d:PyData} (hI:∀H,I H→∀b∈L,Fo H L b) (st:∀H H',I H→(∀b∈L,H' b=none)→Same (lef L H) H'→I (Cc L H H')) (h:EV X G e d):ZE X L I rs G e d I:=
 (Nu L h).imp fun σ H Q ⟨r,q⟩=>⟨hI H r.2.1,r.2.2,fun v H' s' dv=>⟨s',fun n=>q v _ (st H H' r.2.1 n s') (by rw [BJ n];exact s') (by rw [BJ n];exact dv)⟩⟩
theorem Oz.fo {K:PySem.W.Frag} {R:OR} {lf:LF} {df:DF} {H:Hp} (i:Oz K R lf df H):∀b∈R.L,Fo H R.L b:=fun b hb=>by
 obtain ⟨fs,t⟩:=i
 rcases List.mem_cons.mp hb with e | e
 ·exact .inr (.inl ⟨_,_,_,by rw [e];exact t.obj,List.mem_cons_of_mem _ List.mem_cons_self⟩)
 rcases List.mem_cons.mp e with e | e
 ·exact .inr (.inr ⟨R.a,R.C,fs,by rw [e];exact t.own1,List.mem_cons_self,by rw [e];exact t.obj⟩)
 ·obtain ⟨q,hq,rfl⟩:=List.mem_map.mp e
  exact .inl (t.own q hq)
theorem Oz.join {K:PySem.W.Frag} {R:OR} {lf:LF} {df:DF} {H H':Hp} (i:Oz K R lf df H) (n:∀b∈R.L,H' b=none) (s:Same (lef R.L H) H'):Oz K R lf df (Cc R.L H H'):=by
 obtain ⟨fs,t⟩:=i
 refine ⟨fs,?_⟩
 rw [BJ n]
 refine ⟨by rw [BC List.mem_cons_self];exact t.obj,by rw [BC (List.mem_cons_of_mem _ List.mem_cons_self)];exact t.own1,t.few,t.nam,t.nda,t.apart,fun q hq=>?_,fun q hq=>?_,fun q hq=>?_⟩
 ·rw [BC (List.mem_cons_of_mem _ (List.mem_cons_of_mem _ (List.mem_map_of_mem hq)))]
  exact t.own q hq
 ·obtain ⟨p,us,h1,h2,h3,h4,h5⟩:=t.lst q hq
  exact ⟨p,us,h1,h2,by rw [BC (List.mem_cons_of_mem _ (List.mem_cons_of_mem _ (List.mem_map_of_mem (f:=(·.2)) h1)))];exact h3,h4.mono s,h5⟩
 ·obtain ⟨v,h1,h2⟩:=t.dat q hq
  exact ⟨v,h1,h2.mono s⟩
theorem Dq {X:Cx} {R:OR} {lf:LF} {df:DF} {rs:List (Nat×Addr)} {G:Gam} {e:Expr} {d:PyData} (h:EV X G e d):ZE X R.L (Oz X.K R lf df) rs G e d (Oz X.K R lf df):=Oh (fun _ i=>i.fo) (fun _ _ i n s=>i.join n s) h
section
variable {X:Cx} {H0:Hp} {p:Addr} {i j l:Nat} {Pre Post:Gam→List PyData→Prop} {e:Expr} {pos pos':Pos} {x:Str}
end
section
variable {X:Cx} {L:List Addr} {rs:List (Nat×Addr)} {G:Gam} {c:Expr} {d:PyData} {j m:Nat} {pos:Pos} {α:Type} {Iv:α→Hp→Prop} {T:α}
end
section
variable {X:Cx} {G:Gam} {e:Expr} {pos:Pos}
end
def IsR (C:Addr) (oa:Option Addr) (R:OR):Prop:=R.C=C∧∀a,oa=some a→R.a=a
def YZ (K:PySem.W.Frag) (C:Addr) (oa:Option Addr) (i:Nat) (G:Gam) (lf:LF) (df:DF) (R:OR) (σ:St) (H:Hp):Prop:=IsR C oa R∧RZ K R.L (Oz K R lf df) [(i,R.a)] G σ H
def yN (K:PySem.W.Frag) (C:Addr) (oa:Option Addr) (i:Nat) (G:Gam) (lf:LF) (df:DF) (G':Gam) (lf':LF) (df':DF):TS:=fun D σ H=>∃R,YZ K C oa i G lf df R σ H∧∀R' σ' H',YZ K C oa i G' lf' df' R' σ' H'→Same (lef R.L H) (lef R'.L H')→D.nx σ' H'
def yM (K:PySem.W.Frag) (C:Addr) (oa:Option Addr) (i:Nat) (G:Gam) (lf:LF) (df:DF) (lf':LF) (df':DF):TS:=fun D σ H=>∃R,YZ K C oa i G lf df R σ H∧∀R' H',IsR C oa R'→Oz K R' lf' df' H'→Same (lef R.L H) (lef R'.L H')→D.rt (.ref R'.a) H'
section
variable {X:Cx} {C:Addr} {oa:Option Addr} {i j k:Nat} {lf lf' lf1 lf2:LF} {df df' df1 df2:DF} {G G1 G2 G':Gam} {e c:Expr} {es:List Expr} {d:PyData} {ds ws:List PyData} {pos pos' pos2 pos3 apos:Pos} {x f m:Str} {st:Stmt} {sts:List Stmt}
theorem QN (h:∀R:OR,R.C=C→PSs X sts (zN X.K R.L (Oz X.K R lf df) [(i,R.a)] G G' (Oz X.K R lf' df'))):PSs X sts (yN X.K C oa i G lf df G' lf' df'):=fun pins s σ H D I ⟨R,⟨hC,r⟩,q⟩=>h R hC.1 pins s σ H D I ⟨r,fun σ' H' r' s'=>q R σ' H' ⟨hC,r'⟩ s'⟩
theorem OZ (h1:PS X st (yN X.K C oa i G lf df G1 lf1 df1)) (h2:PSs X sts (yN X.K C oa i G1 lf1 df1 G2 lf2 df2)):PSs X (st::sts) (yN X.K C oa i G lf df G2 lf2 df2):=
 (A7 h1 h2).imp fun D σ H ⟨R,y,q⟩=>⟨R,y,fun R1 σ1 H1 y1 s1=>⟨R1,y1,fun R2 σ2 H2 y2 s2=>q R2 σ2 H2 y2 (s1.trans s2)⟩⟩
theorem Pn (h1:PS X st (yN X.K C oa i G lf df G1 lf1 df1)) (h2:PSs X sts (yM X.K C oa i G1 lf1 df1 lf2 df2)):PSs X (st::sts) (yM X.K C oa i G lf df lf2 df2):=
 (A7 h1 h2).imp fun D σ H ⟨R,y,q⟩=>⟨R,y,fun R1 σ1 H1 y1 s1=>⟨R1,y1,fun R2 H2 hC t2 s2=>q R2 H2 hC t2 (s1.trans s2)⟩⟩
theorem Pl {te:TE} (h:PE X e te):PSs X (.Return (some e) pos::sts) (tRet te):=by
 intro pins s σ H D I q
 exact A7 (Fl h) (Bd (sts:=sts)) pins s σ H D I q
theorem Q6 (hv:PE X (.Name x pos2) (tVar i)):PSs X (.Return (some (.Name x pos2)) pos::sts) (yM X.K C oa i G lf df lf df):=
 (Pl hv).imp fun D σ H ⟨R,⟨hC,r⟩,q⟩=>⟨.ref R.a,r.1 _ List.mem_cons_self,q R H hC r.2.1 (Same.refl _)⟩
theorem OU (cl:Cls X.K C) (na:NoAttr X.K C f) (hv:PE X (.Name x pos2) (tVar i)) (h:EVF X (viewO C lf df i G) e ws) (hn:noLs ws=true) (hf:f∈lf.map (·.1)) (hA:f∈Bt)
  (hs:swapsWith e (some (.Attribute (.Name x pos2) f pos')) pos.line X.env=pure false:=by rfl):PS X (.Assign [.Attribute (.Name x pos2) f pos'] e pos) (yN X.K C oa i G lf df G (upL f ws lf) df):=by
 refine (Ig hv h hs).imp fun D σ H ⟨R,⟨⟨hC,hoa⟩,r⟩,q⟩=>?_
 subst hC
 refine ⟨r.viewO List.mem_cons_self,fun p us H1 hp s1 hl d1=>?_⟩
 have r1:=r.step oz_ok s1
 obtain ⟨fs,t⟩:=id r1.2.1
 have hpL:p∉R.L:=oz_ok.free r.2.1 hp
 refine ⟨.ref R.a,r.1 _ List.mem_cons_self,R.a,R.C,R.dx,fs,rfl,t.obj,cl,na,by have:=t.few;omega,q {R with ls:=R.ls++[(f,p)]} σ _ ⟨⟨rfl,hoa⟩,?_⟩ ?_⟩
 all_goals
  have hpa:p≠R.a:=fun z=>hpL (by rw [z];exact List.mem_cons_self)
  have nal:∀p∈R.ls.map (·.2),p≠R.a:=fun p hp z=>(List.nodup_cons.mp t.nda).1 (z ▸ List.mem_cons_of_mem _ hp)
  have nad:R.dx≠R.a:=fun z=>(List.nodup_cons.mp t.nda).1 (z ▸ List.mem_cons_self)
  have e2:OR.L {R with ls:=R.ls++[(f,p)]}=R.L++[p]:=by show R.a::R.dx::(R.ls++[(f,p)]).map (·.2)=_;rw [List.map_append];rfl
  have sL0:∀H0:Hp,(∀b o,H0 b=some o→b≠p)→Same H0 H1→Same (lef R.L H0) (lef (OR.L {R with ls:=R.ls++[(f,p)]}) (upd H1 R.a (.ins R.C R.dx (putF f (.ref p) fs)))):=fun H0 hH0 sm b o e=>by
   have n2:b∉R.L:=fun z=>by rw [AO z] at e;cases e
   rw [Ax n2] at e
   have n1:b≠p:=hH0 b o e
   have n3:b∉OR.L {R with ls:=R.ls++[(f,p)]}:=by
    rw [e2]
    intro z
    rcases List.mem_append.mp z with z | z
    ·exact n2 z
    ·exact n1 (List.mem_singleton.mp z)
   rw [Ax n3,Au fun z=>n2 (by rw [z];exact List.mem_cons_self)]
   exact sm _ _ e
  have sL:Same (lef R.L H) (lef (OR.L {R with ls:=R.ls++[(f,p)]}) (upd H1 R.a (.ins R.C R.dx (putF f (.ref p) fs)))):=sL0 H (fun b o e z=>by rw [z,hp] at e;cases e) s1
 ·have tO:Oz X.K {R with ls:=R.ls++[(f,p)]} (upL f ws lf) df (upd H1 R.a (.ins R.C R.dx (putF f (.ref p) fs))):=by
   obtain ⟨fs0,t0⟩:=id r.2.1
   have hfs0:fs0=fs:=by
    have h1:=t.obj
    rw [s1 _ _ t0.obj] at h1
    cases h1
    rfl
   subst hfs0
   obtain ⟨q0,hq0,e0⟩:=List.mem_map.mp hf
   obtain ⟨p0,us0,_,l0,_,_,_⟩:=t0.lst q0 hq0
   rw [e0] at l0
   have dws:DVs X.K (lef (OR.L {R with ls:=R.ls++[(f,p)]}) (upd H1 R.a (.ins R.C R.dx (putF f (.ref p) fs0)))) us ws:=by
    have nt:∀b∈[p],∀xs,¬Rd (lef R.L H1) b (.tup xs):=fun b hb xs r=>by
     have:=List.mem_singleton.mp hb
     subst this
     rcases r with r | ⟨q,r⟩ <;> (rw [Ax hpL,hl] at r;cases r)
    refine (DVs.lef nt (DVs.lef (oz_ok.notup r1.2.1) d1 hn) hn).mono fun b o e=>?_
    have m1:b∉[p]:=fun z=>by rw [AO z] at e;cases e
    rw [Ax m1] at e
    have m2:b∉R.L:=fun z=>by rw [AO z] at e;cases e
    rw [Ax m2] at e
    have m3:b∉OR.L {R with ls:=R.ls++[(f,p)]}:=by
     rw [e2]
     intro z
     rcases List.mem_append.mp z with z | z
     ·exact m2 z
     ·exact m1 z
    rw [Ax m3,Au fun z=>m2 (by rw [z];exact List.mem_cons_self)]
    exact e
   refine ⟨putF f (.ref p) fs0,Aw,by rw [Au nad];exact t.own1,by rw [EH l0];exact t.few,fun m hm=>?_,?_,fun z hz=>?_,fun z hz=>?_,fun z hz=>?_,fun z hz=>?_⟩
   ·rw [A5,if_neg (fun w:m=f=>hm (w ▸ hA))]
    exact t.nam m hm
   ·rw [e2]
    exact List.nodup_append.mpr ⟨t.nda,List.nodup_cons.mpr ⟨by simp,List.nodup_nil⟩,fun a ha b hb z=>hpL (by rw [←List.mem_singleton.mp hb,←z];exact ha)⟩
   ·rw [J1]
    exact t.apart z hz
   ·rcases List.mem_append.mp hz with hz | hz
    ·obtain ⟨us',hu⟩:=t.own z hz
     exact ⟨us',by rw [Au (nal _ (List.mem_map_of_mem hz))];exact hu⟩
    ·rw [List.mem_singleton.mp hz]
     exact ⟨us,by rw [Au hpa];exact hl⟩
   ·rcases Lw hz with ⟨e1,e3,_⟩ | ⟨e1,e3⟩
    ·refine ⟨p,us,by rw [e1];exact List.mem_append_right _ (List.mem_singleton_self _),by rw [e1,A5,if_pos rfl],by rw [Au hpa];exact hl,by rw [e3];exact dws,by rw [e3];exact hn⟩
    ·obtain ⟨p',us',h1,h2,h3,h4,h5⟩:=t0.lst z e3
     exact ⟨p',us',List.mem_append_left _ h1,by rw [A5,if_neg e1];exact h2,by rw [Au (nal _ (List.mem_map_of_mem (f:=(·.2)) h1))];exact s1 _ _ h3,h4.mono sL,h5⟩
   ·obtain ⟨v,h1,h2⟩:=t0.dat z hz
    exact ⟨v,by rw [A5,if_neg (fun w:z.1=f=>t.apart z hz (by rw [w];exact hf))];exact h1,h2.mono sL⟩
  exact ⟨r.1,tO,r.2.2.mono sL⟩
 ·exact sL
end
def tM (K:PySem.W.Frag) (C:Addr) (G:Gam) (lf:LF) (df:DF):TS:=fun D σ H=>SD K H σ G∧∀R' H',R'.C=C→Oz K R' lf df H'→Same H (lef R'.L H')→D.rt (.ref R'.a) H'
def spM (K:PySem.W.Frag) (C:Addr) (F:List PyData→LF→DF→Prop):Sp:=fun vs H Q _=>∃(ds:List PyData) (lf:LF) (df:DF),DVs K H vs ds∧F ds lf df∧∀R' H',R'.C=C→Oz K R' lf df H'→Same H (lef R'.L H')→Q (.ref R'.a) H'
def NFn (P:Program) (w:World) (K:PySem.W.Frag) (mg:Str→Option Value) (base:Heap) (k:Nat) (C:Addr) (x:Str) (F:List PyData→LF→DF→Prop):Prop:=
 ∃f fd ps,FnOk P w K mg base CX0 k f fd ps (spM K C F)∧mg x=some (.ref f)∧PySem.W.keepIn K (.ref f)=true∧Binds K fd ps []
section
variable {P:Program} {w:World} {K:PySem.W.Frag} {mg:Str→Option Value} {base:Heap}
theorem Fun.newD {x qual:Str} {st:Stmt} {f:Addr} {fd:FuncData} {N ps:List Str} {k:Nat} {C:Addr} {F:List PyData→LF→DF→Prop} (F0:Fun K x qual st f fd) (hm:mg x=some (.ref f)) (hb:Binds K fd ps []) (S:FnScope N ps (Ai st)) (len:∀ds lf df,F ds lf df→ds.length=ps.length)
  (hbody:∀(cdv:Value) (A:Around) (outer:List Env) (s:Shared) (H:Hp) (E:XK) (ds:List PyData) (lf:LF) (df:DF),Room k (A.deeper (envOfC qual (Ai st) s.heap.objs.size f cdv))→F ds lf df→
   PSs (cxOf CX0 P w K mg base N qual (Ai st) f cdv A outer s H E).nox (AM st) (tM K C (Bm N ds) lf df)):NFn P w K mg base (k + 1) C x F:=
 ⟨f,fd,ps,F0.ok S (fun vs H Q E ⟨ds,lf,df,h1,h2,_⟩=>h1.length.trans (len ds lf df h2)) (fun cdv A outer s H vs Q E hr ⟨ds,lf,df,h1,h2,q⟩=>⟨_,hbody cdv A outer s H E ds lf df hr h2,SD.start h1,q⟩),hm,F0.kp,hb⟩
end
section
variable {X:Cx} {C:Addr} {oa:Option Addr} {i j k:Nat} {lf lf' lf1 lf2:LF} {df df' df1 df2:DF} {G G1 G2 G':Gam} {e c:Expr} {es:List Expr} {d:PyData} {ds ws:List PyData} {pos pos' pos2 pos3 apos p1 p2 p3 p4:Pos} {x xt f m:Str} {st:Stmt} {sts:List Stmt}
theorem YZ.mk {K:PySem.W.Frag} {R:OR} {σ:St} {H H':Hp} (hσ:SD K H σ G) (hl:i < G.length) (hG:G[i]?=some none) (hC:R.C=C) (t:Oz K R lf df H') (s:Same H (lef R.L H')):YZ K C none i G lf df R (σ.set i (some (.ref R.a))) H':=by
 refine ⟨⟨hC,fun _ z=>by cases z⟩,fun z hz=>?_,t,⟨by rw [List.length_set];exact hσ.1,fun j d ej=>?_⟩⟩
 ·have:=List.mem_singleton.mp hz
  subst this
  exact List.getElem?_set_self (by rw [hσ.1];exact hl)
 ·by_cases hj:i=j
  ·subst hj;rw [hG] at ej;cases ej
  ·rw [List.getElem?_set_ne hj]
   exact (hσ.mono s).2 j d ej
theorem NU {F:List PyData→LF→DF→Prop} (hN:X.N.Nodup) (h1:X.N[i]?=some xt) (x1:Loc X.env.scope xt) (hl:i < G.length) (hG:G[i]?=some none) (D0:OIFn X.prog X.w X.K X.mg X.base k C F) (hr:Room (k + 1) X.A) (hg:Gl X x) (hm:X.mg x=some (.ref C)) (ha:AV X G (e::es) ds) (hF:F ds lf df)
  (hdb:(x==("__debug__":Str))=false:=by decide) (he:starEach (e::es) X.env=(false,eval e X.env)::starEach es X.env:=by rfl) (hpl:(backTo p3 (starEach es X.env)).any (·.1)=false:=by rfl)
  (s1:swapsWith (.Call (.Name x p2) (e::es) [] p3) (some (.Name xt p1)) p4.line X.env=pure false:=by rfl) (f1:X.fn xt=true∨X.env.scope.names.lookup xt=some .local:=by first | exact .inl rfl | exact .inr rfl | assumption):
  PS X (.Assign [.Name xt p1] (.Call (.Name x p2) (e::es) [] p3) p4) (fun D σ H=>SD X.K H σ G∧∀R σ' H',YZ X.K C none i G lf df R σ' H'→Same H (lef R.L H')→D.nx σ' H'):=by
 obtain ⟨f0,fd0,ps0,ok0,M,hb0⟩:=D0
 refine (Cw hN h1 x1 (KY (E:=E0) (dvs:=[]) (ds:=[]) M ok0 hr hg hm hb0 .nil CK ha hdb he hpl) s1 f1).imp fun D σ H ⟨hσ,q⟩=>⟨hσ,fun vs H1 s1 dv=>?_⟩
 intro a dx ha hdx hne
 have sA:Same H1 (lef [a,dx] (upd (upd H1 dx (.own a)) a (.ins C dx []))):=fun b o e=>by
  have n1:b≠a:=A4 e ha
  have n2:b≠dx:=A4 e hdx
  rw [Ax (by simp only [List.mem_cons,List.not_mem_nil,or_false,not_or];exact ⟨n1,n2⟩),Au n1,Au n2]
  exact e
 show spOI X.K C F (V.ref a::(vs++[])) _ _ E0
 rw [List.append_nil]
 refine ⟨a,dx,ds,lf,df,vs,rfl,Aw,by rw [Au hne];exact Aw,hne,dv.mono sA,hF,fun H2 R hC hRa hRd tb old fre=>⟨rfl,?_⟩⟩
 subst hC hRa hRd
 have keep:∀b o,H1 b=some o→b∉R.L∧H2 b=some o:=fun b o e=>by
  have n1:b≠R.a:=A4 e ha
  have n2:b≠R.dx:=A4 e hdx
  have e1:upd (upd H1 R.dx (.own R.a)) R.a (.ins R.C R.dx []) b=some o:=by rw [Au n1,Au n2];exact e
  refine ⟨fun z=>?_,old b o n1 e1⟩
  rcases List.mem_cons.mp z with z | z
  ·exact n1 z
  rcases List.mem_cons.mp z with z | z
  ·exact n2 z
  ·obtain ⟨y,hy,ey⟩:=List.mem_map.mp z
   have:=fre y hy
   rw [ey,e1] at this
   cases this
 have sL:Same H1 (lef R.L H2):=fun b o e=>by
  obtain ⟨k1,k2⟩:=keep b o e
  rw [Ax k1]
  exact k2
 exact q R _ H2 (YZ.mk hσ hl hG rfl tb (s1.trans sL)) (s1.trans sL)
theorem P5 (h1:PS X st (fun D σ H=>SD X.K H σ G∧∀R σ' H',YZ X.K C none i G lf df R σ' H'→Same H (lef R.L H')→D.nx σ' H')) (h2:PSs X sts (yM X.K C none i G lf df lf' df')):PSs X (st::sts) (tM X.K C G lf' df'):=
 (A7 h1 h2).imp fun D σ H ⟨h,q⟩=>⟨h,fun R σ' H' y s'=>⟨R,y,fun R2 H2 hC t s2=>q R2 H2 hC.1 t (s'.trans s2)⟩⟩
end
section
variable {X:Cx} {L:List Addr} {rs:List (Nat×Addr)} {G:Gam} {c:Expr} {d:PyData} {j m:Nat} {pos:Pos} {α:Type} {Iv:α→Hp→Prop} {T:α}
end
section
variable {X:Cx} {L:List Addr} {I I1 I2:Hp→Prop} {rs:List (Nat×Addr)} {G:Gam} {a b e:Expr} {es:List Expr} {d da db:PyData} {ds:List PyData} {C:Addr} {k k2:Nat} {lf lf':LF} {df df':DF} {fls:List (PyData×PyData)} {pos pos2 pos3 apos apos2:Pos} {x m m2:Str}
end
def spY (K:PySem.W.Frag) (C:Addr) (F:LF→DF→List PyData→LF→DF→Prop):Sp:=fun vs H Q _=>∃(R:OR) (lf:LF) (df:DF) (ds:List PyData) (lf':LF) (df':DF) (vr:List V),R.C=C∧vs=.ref R.a::vr∧Oz K R lf df H∧DVs K (lef R.L H) vr ds∧F lf df ds lf' df'∧
 ∀R' H',IsR C (some R.a) R'→Oz K R' lf' df' H'→Same (lef R.L H) (lef R'.L H')→Q .non H'
def YFn (P:Program) (w:World) (K:PySem.W.Frag) (mg:Str→Option Value) (base:Heap) (k:Nat) (C:Addr) (m:Str) (F:LF→DF→List PyData→LF→DF→Prop):Prop:=
 ∃f fd ps,FnOk P w K mg base CX0 k f fd ps (spY K C F)∧Meth K C m f∧Binds K fd ps []
section
variable {P:Program} {w:World} {K:PySem.W.Frag} {mg:Str→Option Value} {base:Heap}
theorem Fun.objY {x qual n0 m:Str} {st:Stmt} {f:Addr} {fd:FuncData} {N ps:List Str} {k:Nat} {C:Addr} {F:LF→DF→List PyData→LF→DF→Prop} (F0:Fun K x qual st f fd) (hm:Meth K C m f) (hb:Binds K fd ps []) (S:FnScope (n0::N) ps (Ai st)) (len:∀lf df ds lf' df',F lf df ds lf' df'→ds.length + 1=ps.length)
  (hbody:∀(cdv:Value) (A:Around) (outer:List Env) (s:Shared) (H:Hp) (E:XK) (a:Addr) (lf:LF) (df:DF) (ds:List PyData) (lf':LF) (df':DF),Room k (A.deeper (envOfC qual (Ai st) s.heap.objs.size f cdv))→F lf df ds lf' df'→
   ∃G',PSs (cxOf CX0 P w K mg base (n0::N) qual (Ai st) f cdv A outer s H E).nox (AM st) (yN K C (some a) 0 (none::Bm N ds) lf df G' lf' df')):YFn P w K mg base (k + 1) C m F:=by
 refine ⟨f,fd,ps,F0.ok S (fun vs H Q E ⟨R,lf,df,ds,lf',df',vr,_,e,_,dv,hF,_⟩=>by rw [e,List.length_cons,dv.length];exact len lf df ds lf' df' hF) (fun cdv A outer s H vs Q E hr ⟨R,lf,df,ds,lf',df',vr,hC,e,tb,dv,hF,q⟩=>?_),hm,hb⟩
 subst e
 obtain ⟨G',hps⟩:=hbody cdv A outer s H E R.a lf df ds lf' df' hr hF
 refine ⟨_,hps,R,⟨⟨hC,fun _ z=>by cases z;rfl⟩,fun z hz=>?_,tb,?_⟩,fun R' σ' H' y s'=>q R' H' y.1 y.2.2.1 s'⟩
 ·have:=List.mem_singleton.mp hz
  subst this
  rw [Bx]
  rfl
 ·rw [Bx];exact (SD.start dv).cons0 _
end
section
variable {X:Cx} {C:Addr} {oa:Option Addr} {i k:Nat} {lf lf':LF} {df df':DF} {G:Gam} {e:Expr} {es:List Expr} {ds:List PyData} {pos pos2 pos3 apos:Pos} {x m:Str}
theorem LB {F:LF→DF→List PyData→LF→DF→Prop} {pl:Sem Bool} (cl:Cls X.K C) (D0:YFn X.prog X.w X.K X.mg X.base k C m F) (hr:Room k X.A) (hv:PE X (.Name x pos2) (tVar i)) (ha:∀R:OR,R.C=C→ZA X R.L (Oz X.K R lf df) [(i,R.a)] G (e::es) ds (Oz X.K R lf df)) (hF:F lf df ds lf' df') (h1:m∉Bt:=by decide)
  (hst:starEach (e::es) X.env=(false,eval e X.env)::starEach es X.env:=by rfl) (hpl:(backTo pos (starEach es X.env)).any (·.1)=false:=by rfl)
  (ht:eval (.Call (.Attribute (.Name x pos2) m apos) (e::es) [] pos) X.env=(do
   let ov ←eval (.Name x pos2) X.env
   standAt apos.atName
   let (f,first) ←holding [ov] (getMethod ov m pl)
   callWith pos f first (backTo pos (starEach (e::es) X.env)) (backToKw pos (keywordEach [] X.env))):=by rfl)
  (hs:swapsWith (.Call (.Attribute (.Name x pos2) m apos) (e::es) [] pos) none pos3.line X.env=pure false:=by rfl):
  PS X (.Expr (.Call (.Attribute (.Name x pos2) m apos) (e::es) [] pos) pos3) (yN X.K C oa i G lf df G lf' df'):=by
 obtain ⟨f,fd,ps,ok,hm,hb⟩:=D0
 have hA:PA X (e::es) (fun σ H Q=>∃R:OR,R.C=C∧zA X.K R.L (Oz X.K R lf df) [(i,R.a)] G ds (Oz X.K R lf df) σ H Q):=fun pos pins s σ H Q I ⟨R,hC,q⟩=>ha R hC pos pins s σ H Q I q
 refine (Da (IK (E:=E0) (dvs:=[]) (ds:=[]) hv cl hm ok hr hb .nil CK hA hst hpl ht) hs).imp fun D σ H ⟨R,⟨⟨hC,hoa⟩,r⟩,q⟩=>?_
 obtain ⟨fs,t⟩:=id r.2.1
 refine ⟨.ref R.a,r.1 _ List.mem_cons_self,R.a,R.dx,fs,rfl,by rw [←hC];exact t.obj,t.nam m h1,R,hC,r,fun vs H1 t1 s1 dvs=>?_⟩
 show spY X.K C F (V.ref R.a::(vs++[])) H1 _ E0
 rw [List.append_nil]
 refine ⟨R,lf,df,ds,lf',df',vs,hC,rfl,t1,dvs,hF,fun R' H2 hI t2 s2=>q R' σ H2 ⟨⟨hI.1,fun a ea=>(hI.2 _ rfl).trans (hoa a ea)⟩,fun z hz=>?_,t2,r.2.2.mono (s1.trans s2)⟩ (s1.trans s2)⟩
 rw [List.mem_singleton.mp hz]
 show σ[i]?=some (some (.ref R'.a))
 rw [hI.2 _ rfl]
 exact r.1 _ List.mem_cons_self
end
theorem DU {X:Cx} {ds:List PyData}:CD X (.type "tuple") [.tuple ds] (.tuple ds):=call_tuple_of.imp fun xs H Q ⟨h,q⟩=>by
 obtain ⟨v,rfl,dv⟩:=h.one
 obtain ⟨l,us,rfl,hl,d1⟩:=id dv.of_tup
 exact ⟨l,us,rfl,.inr ⟨hl,q _ H (Same.refl H) (.tup hl d1)⟩⟩
section
variable {X:Cx} {L:List Addr} {rs:List (Nat×Addr)} {G G1:Gam} {c:Expr} {d:PyData} {i j m:Nat} {pos:Pos} {α:Type} {Iv:α→Hp→Prop} {T T1:α}
end
section
variable {X:Cx} {L:List Addr} {I:Hp→Prop} {rs:List (Nat×Addr)} {G G':Gam} {e c:Expr} {es:List Expr} {d:PyData} {ds ws:List PyData} {kb:Bool}
abbrev Sees (K:PySem.W.Frag) (L:List Addr) (I:Hp→Prop) (rs:List (Nat×Addr)) (G G':Gam):Prop:=∀σ H,RZ K L I rs G σ H→SD K H σ G'
theorem QT (ok:ZOk L I) (v:Sees X.K L I rs G G') (h:TV X G' c kb):ZT X L I rs G c kb:=h.imp fun σ H Q ⟨r,q⟩=>⟨v σ H r,fun H' s'=>q H' (r.step ok s') s'.lef⟩
theorem Gy (ok:ZOk L I) (v:Sees X.K L I rs G G') (h:EV X G' e d) (hn:noL d=true):ZE X L I rs G e d I:=h.imp fun σ H Q ⟨r,q⟩=>⟨v σ H r,fun u H' s' dv=>q u H' (ok.step r.2.1 s') s'.lef (DV.lef (ok.notup (ok.step r.2.1 s')) dv hn)⟩
theorem Nf (ok:ZOk L I) (v:Sees X.K L I rs G G') (h:EVF X G' e ws) (hn:noLs ws=true):ZE X L I rs G e (.list ws) I:=h.imp fun σ H Q ⟨r,q⟩=>⟨v σ H r,fun p us H' hp s' hl dv=>by
 have i':=ok.step r.2.1 s'
 have hpL:p∉L:=ok.free r.2.1 hp
 exact q _ H' i' s'.lef (.lst (SqL.of (by rw [Ax hpL];exact hl)) (DVs.lef (ok.notup i') dv hn))⟩
end
structure NR where
 a:Addr
 ls:List (Str×Addr)
abbrev NR.L (R:NR):List Addr:=R.a::R.ls.map (·.2)
inductive NK (K:PySem.W.Frag) (ls:List (Str×Addr)) (Hb H:Hp):List (Key×V)→DF→Prop where
 | nil:NK K ls Hb H [] []
 | lst {f:Str} {p:Addr} {us:List V} {ds:List PyData} {r:List (Key×V)} {df:DF}:(f,p)∈ls→H p=some (.lst us)→DVs K Hb us ds→noLs ds=true→NK K ls Hb H r df→NK K ls Hb H ((.inr f,.ref p)::r) ((f,.list ds)::df)
 | dat {f:Str} {v:V} {d:PyData} {r:List (Key×V)} {df:DF}:DV K Hb v d→noL d=true→NK K ls Hb H r df→NK K ls Hb H ((.inr f,v)::r) ((f,d)::df)
structure NzS (K:PySem.W.Frag) (R:NR) (df:DF) (Hb H:Hp) (kvs:List (Key×V)):Prop where
 obj:H R.a=some (.dK kvs)
 few:df.length≤40
 nda:R.L.Nodup
 ndl:(R.ls.map (·.1)).Nodup
 ndk:(df.map (·.1)).Nodup
 sub:∀q∈R.ls,q.1∈df.map (·.1)
 own:∀q∈R.ls,∃us,H q.2=some (.lst us)
 nk:NK K R.ls Hb H kvs df
def Nz (K:PySem.W.Frag) (R:NR) (df:DF) (H:Hp):Prop:=∃kvs,NzS K R df (lef R.L H) H kvs
def dfD (df:DF):List (PyData×PyData):=df.map fun q=>(.str q.1,q.2)
section
variable {K:PySem.W.Frag} {ls:List (Str×Addr)} {Hb Hb' H H':Hp} {f:Str} {p:Addr} {d:PyData} {ds:List PyData}
end
section
variable {K:PySem.W.Frag} {R:NR} {df:DF} {Hb Hb' H H':Hp} {kvs:List (Key×V)} {f:Str} {p:Addr} {d:PyData} {ds:List PyData}
end
section
variable {X:Cx} {R:NR} {df:DF} {rs:List (Nat×Addr)} {G G1 G2 G':Gam} {e c a b:Expr} {es:List Expr} {d:PyData} {ds ws:List PyData} {k i j:Nat} {pos pos' pos2 pos3 pos4 apos p1:Pos} {x f m:Str} {p:Addr}
theorem L_ {d:PyData} (hn:noL d=true):∀(l:List PyData) (n:Nat),noLs l=true→noLs (l.set n d)=true:=by
 intro l
 induction l with
 | nil=>intro n h;exact h
 | cons y r ih=>
   intro n h
   unfold noLs at h
   rw [Bool.and_eq_true] at h
   cases n with
   | zero=>rw [List.set_cons_zero];unfold noLs;rw [hn,h.2];rfl
   | succ n=>rw [List.set_cons_succ];unfold noLs;rw [h.1,ih n h.2];rfl
theorem K1 {d:PyData} (hn:noL d=true):∀xs:List PyData,noLs xs=true→noLs (xs++[d])=true:=by
 intro xs
 induction xs with
 | nil=>intro _;show (noL d && true)=true;rw [hn];rfl
 | cons y r ih=>
   intro h
   rw [List.cons_append]
   unfold noLs at h ⊢
   rw [Bool.and_eq_true] at h
   rw [h.1,ih h.2]
   rfl
end
section
variable {X:Cx} {R:NR} {df:DF} {rs:List (Nat×Addr)} {G G1 G2 G':Gam} {e c a b:Expr} {es:List Expr} {d:PyData} {ds ws:List PyData} {k i j:Nat} {pos pos' pos2 pos3 pos4 apos p1:Pos} {x y f m:Str} {p:Addr}
end
section
variable {P:Program} {w:World} {K:PySem.W.Frag} {mg:Str→Option Value} {base:Heap}
end
section
variable {X:Cx} {R:NR} {df df' df2:DF} {rs:List (Nat×Addr)} {G G1 G2 G':Gam} {e c a b:Expr} {es:List Expr} {d:PyData} {ds ws:List PyData} {k i j:Nat} {pos pos' pos2 pos3 pos4 apos p1:Pos} {x y f m:Str} {p:Addr}
end
section
variable {X:Cx} {pins:List (Addr×Obj)} {σ:St} {H:Hp} {s:Shared} {a b:Addr} {kvs more:List (Key×V)} {A:Around} {E:Value→Shared→Prop}
end
structure DBn (K:PySem.W.Frag) (H:Hp) (ls:List (Str×Addr)) (df:DF) (kvs:List (Key×V)) (H':Hp):Prop where
 same:Same H H'
 fre:∀q∈ls,H q.2=none
 nda:(ls.map (·.2)).Nodup
 ndl:(ls.map (·.1)).Nodup
 sub:∀q∈ls,q.1∈df.map (·.1)
 own:∀q∈ls,∃us,H' q.2=some (.lst us)
 nk:NK K ls H' H' kvs df
section
variable {X:Cx} {pos:Pos} {G:Gam} {keys:List (Option Expr)} {vals:List Expr} {df:DF} {k v:Expr} {f:Str} {ws:List PyData} {d:PyData}
end
theorem Qg {H:Hp} {b:Addr} {o:HO} (e:H b=some o) (h1:∀ys,o≠.tup ys) (h2:∀q u,o≠.frz q u) (xs:List V):¬Rd H b (.tup xs):=fun r=>by
 rcases r with r | ⟨q,r⟩
 ·rw [e] at r;exact h1 _ (Option.some.inj r)
 ·rw [e] at r;exact h2 _ _ (Option.some.inj r)
theorem none_of {H H':Hp} {b:Addr} (s:Same H H') (h:H' b=none):H b=none:=by
 cases e:H b with
 | none=>rfl
 | some o=>rw [s _ _ e] at h;cases h
section
variable {X:Cx} {pos pos' pos2 p1 p4 apos cpos:Pos} {G:Gam} {keys keys2:List (Option Expr)} {vals vals2:List Expr} {df df2:DF} {xt:Str} {i:Nat} {sts:List Stmt}
end
theorem P8 {L1 L2':List Addr} {H:Hp}:lef (L1++L2') H=lef L1 (lef L2' H):=by
 funext b
 by_cases h1:b∈L1
 ·rw [AO h1,AO (List.mem_append_left _ h1)]
 ·rw [Ax h1]
  by_cases h2:b∈L2'
  ·rw [AO h2,AO (List.mem_append_right _ h2)]
  ·rw [Ax h2,Ax (fun z=>(List.mem_append.mp z).elim h1 h2)]
theorem GR {L1 L2':List Addr} {H:Hp}:lef L1 (lef L2' H)=lef L2' (lef L1 H):=by
 funext b
 by_cases h1:b∈L1
 ·rw [AO h1]
  by_cases h2:b∈L2'
  ·rw [AO h2]
  ·rw [Ax h2,AO h1]
 ·rw [Ax h1]
  by_cases h2:b∈L2'
  ·rw [AO h2,AO h2]
  ·rw [Ax h2,Ax h2,Ax h1]
structure ZF (L:List Addr) (I:Hp→Prop):Prop where
 fo:∀H,I H→∀b∈L,Fq H L b
 join:∀H H',I H→(∀b∈L,H' b=none)→Same (lef L H) H'→I (Cc L H H')
theorem PY {K:PySem.W.Frag} {R:OR} {lf:LF} {df:DF}:ZF R.L (Oz K R lf df):=⟨fun _ i b hb=>.inl (i.fo b hb),fun _ _ i n s=>i.join n s⟩
theorem Fq.wide {H:Hp} {L L':List Addr} {b:Addr} (f:Fq H L b) (h:∀c∈L,c∈L'):Fq H L' b:=by
 rcases f with (⟨xs,e⟩ | ⟨C,dx,fs,e,h1⟩ | ⟨a,C,fs,e,h1,ea⟩) | ⟨kvs,e⟩
 ·exact .inl (.inl ⟨xs,e⟩)
 ·exact .inl (.inr (.inl ⟨C,dx,fs,e,h _ h1⟩))
 ·exact .inl (.inr (.inr ⟨a,C,fs,e,h _ h1,ea⟩))
 ·exact .inr ⟨kvs,e⟩
section
variable {X:Cx} {L1 L2':List Addr} {I1 I1' I2 I2':Hp→Prop} {rs rs1:List (Nat×Addr)} {G G':Gam} {e c:Expr} {es:List Expr} {d:PyData} {ds:List PyData}
end
section
variable {X:Cx} {L:List Addr} {I:Hp→Prop} {rs:List (Nat×Addr)} {G G1:Gam} {c e:Expr} {d:PyData} {i j m:Nat} {pos p1 p4:Pos} {y:Str} {df:DF} {sts:List Stmt} {α:Type} {Iv:α→Hp→Prop} {T T1:α}
end
theorem Gr {K:PySem.W.Frag} {H:Hp} {L:List Addr} {rs:List (Nat×Addr)}:∀(is:List Nat) (ds:List PyData) (vs:List V) (σ:St) (G:Gam) (Q:St→Hp→Prop),is.length=ds.length→(∀q∈rs,q.1∉is)→(∀q∈rs,σ[q.1]?=some (some (.ref q.2)))→SD K (lef L H) σ G→DVs K (lef L H) vs ds→(∀σ2,(∀q∈rs,σ2[q.1]?=some (some (.ref q.2)))→SD K (lef L H) σ2 (He is ds G)→Q σ2 H)→DD is vs σ H Q
 | [],[],_,σ,G,Q,_,_,hr,h,.nil,q=>⟨rfl,q σ hr h⟩
 | i::is,d::ds,_,σ,G,Q,hl,hi,hr,h,.cons (x:=v) (xs:=vs) dv t,q=>⟨v,vs,rfl,Gr is ds vs _ _ Q (Nat.succ.inj hl) (fun z hz w=>hi z hz (List.mem_cons_of_mem _ w)) (fun z hz=>by rw [List.getElem?_set_ne fun w=>hi z hz (by rw [←w];exact List.mem_cons_self)];exact hr z hz) (h.set dv) t q⟩
section
variable {X:Cx} {L:List Addr} {I I1:Hp→Prop} {rs:List (Nat×Addr)} {G:Gam} {e tg a b k v:Expr} {pos p1:Pos} {is:List Nat} {ds:List PyData}
theorem OJ (h:ZE X L I rs G e (.tuple ds) I1) (hg:PG X tg (gTup X.K is.length (DD is))) (hl:is.length=ds.length) (hi:∀q∈rs,q.1∉is)
  (hs:swapsWithSole [tg] e pos.line X.env=pure false:=by rfl) (hw:swappedStores [tg] e X.env=pure none:=by rfl) (h1:(assignEach [tg] X.env).map (·.2)=[assign tg X.env]:=by rfl):
  PS X (.Assign [tg] e pos) (zN X.K L I rs G (He is ds G) I1):=
 (GK h hg hs hw h1).imp fun D σ H ⟨r,q⟩=>⟨r,fun v H1 t1 s1 dv=>by
  obtain ⟨l,us,rfl,hq,dys⟩:=dv.of_tup
  exact ⟨l,us,rfl,lef_same.seqT hq,by rw [dys.length,hl],Gr is ds us σ G _ hl hi r.1 (r.2.2.mono s1) dys fun σ2 h2 h3=>q σ2 H1 ⟨h2,t1,h3⟩ s1⟩⟩
end
def Ends.fr (D:Ends) (L:List Addr) (H:Hp):Ends:=⟨fun σ' H'=>(∀b∈L,H' b=none)→D.nx σ' (Cc L H H'),fun v H'=>(∀b∈L,H' b=none)→D.rt v (Cc L H H'),fun σ' H'=>(∀b∈L,H' b=none)→D.bk σ' (Cc L H H'),fun σ' H'=>(∀b∈L,H' b=none)→D.ct σ' (Cc L H H')⟩
theorem SP.fr {X:Cx} {pins:List (Addr×Obj)} {σ:St} {H:Hp} {s:Shared} {L:List Addr} {D:Ends} (I:Inv X pins σ H s) (hL:∀b∈L,Fq H L b) {ps:List (Addr×Obj)} (e:ps.map (·.1)=L) (J0:Inv X (ps++pins) σ (lef L H) s) {f:Flow} {s':Shared} (h:SP X (ps++pins) (D.fr L H) f s'):SP X pins D f s':=by
 cases f with
 | next=>
   obtain ⟨σ',H',J,q⟩:=h
   obtain ⟨n,I1⟩:=I.regainQ hL e J0 J
   exact ⟨σ',_,I1,q n⟩
 | brk=>
   obtain ⟨σ',H',J,q⟩:=h
   obtain ⟨n,I1⟩:=I.regainQ hL e J0 J
   exact ⟨σ',_,I1,q n⟩
 | cont=>
   obtain ⟨σ',H',J,q⟩:=h
   obtain ⟨n,I1⟩:=I.regainQ hL e J0 J
   exact ⟨σ',_,I1,q n⟩
 | ret u=>
   obtain ⟨v,σ',H',J,r,q⟩:=h
   obtain ⟨n,I1⟩:=I.regainQ hL e J0 J
   exact ⟨v,σ',_,I1,r,q n⟩
theorem ME {X:Cx} {st:Stmt} {t:TS} (L:List Addr) (h:PS X st t):PS X st (fun D σ H=>(∀b∈L,Fq H L b)∧t (D.fr L H) σ (lef L H)):=by
 intro pins s σ H D I ⟨hL,q⟩
 obtain ⟨ps,e,J0⟩:=I.forgetQ hL
 exact thn (h (ps++pins) s σ (lef L H) _ J0 q) fun f s1 z=>SP.fr I hL e J0 z
section
variable {X:Cx} {L1 L2':List Addr} {I1 I1' I2 I2':Hp→Prop} {rs:List (Nat×Addr)} {G G':Gam} {st:Stmt}
end
section
variable {X:Cx} {L:List Addr} {I I1:Hp→Prop} {rs:List (Nat×Addr)} {G G1 G':Gam} {e a b c:Expr} {d:PyData} {ws S:List PyData} {i j k:Nat} {p:Addr} {pos pos' pos2 pos3:Pos} {x y:Str} {st:Stmt} {sts:List Stmt}
theorem Kz.fo {K:PySem.W.Frag} {H:Hp} (i:Kz K p S H):∀b∈[p],Fq H [p] b:=fun b hb=>by
 obtain ⟨us,h,_⟩:=i
 exact .inl (.inl ⟨us,by rw [List.mem_singleton.mp hb];exact h⟩)
theorem Sx {K:PySem.W.Frag}:ZF [p] (Kz K p S):=⟨fun _ i=>i.fo,fun H H' ⟨us,h1,h2,h3⟩ n s=>⟨us,by rw [BC List.mem_cons_self];exact h1,by rw [BJ n];exact h2.mono s,h3⟩⟩
end
def zTI (K:PySem.W.Frag) (L:List Addr) (I:Hp→Prop) (rs:List (Nat×Addr)) (G:Gam) (k:Bool) (I1:Hp→Prop):TT:=fun σ H Q=>RZ K L I rs G σ H∧∀H',I1 H'→Same (lef L H) (lef L H')→Q k H'
abbrev ZTI (X:Cx) (L:List Addr) (I:Hp→Prop) (rs:List (Nat×Addr)) (G:Gam) (e:Expr) (k:Bool) (I1:Hp→Prop):Prop:=PT X e (zTI X.K L I rs G k I1)
section
variable {X:Cx} {L:List Addr} {I I1 I2:Hp→Prop} {rs:List (Nat×Addr)} {G G1:Gam} {a b c e:Expr} {rest:List Expr} {d da db:PyData} {k k':Bool} {pos:Pos}
theorem Rb (h:ZT X L I rs G e k):ZTI X L I rs G e k I:=h.imp fun σ H Q ⟨r,q⟩=>⟨r,fun H' r' s'=>q H' r'.2.1 s'⟩
theorem AU {A B:List Stmt} (h:ZTI X L I rs G c k I1) (h1:k=true→PSs X A (zN X.K L I1 rs G G1 I2)) (h2:k=false→PSs X B (zN X.K L I1 rs G G1 I2)):PS X (.If c A B pos) (zN X.K L I rs G G1 I2):=by
 cases k with
 | true=>exact (FB h (h1 rfl) (Bd (sts:=B))).imp fun D σ H ⟨r,q⟩=>⟨r,fun H' i' s'=>iteT ⟨r.next i' s',fun σ2 H2 r2 s2=>q σ2 H2 r2 (s'.trans s2)⟩⟩
 | false=>exact (FB h (Bd (sts:=A)) (h2 rfl)).imp fun D σ H ⟨r,q⟩=>⟨r,fun H' i' s'=>iteF ⟨r.next i' s',fun σ2 H2 r2 s2=>q σ2 H2 r2 (s'.trans s2)⟩⟩
end
section
variable {X:Cx} {CX:CXT} {C:Addr} {m:Str} {f:Addr} {fd:FuncData} {ps:List Str} {sp:Sp} {k:Nat} {dvs:List V} {ds:List Value} {E:XK} {o e:Expr} {es:List Expr} {ta:TE} {t:TA} {pos apos:Pos}
end
section
variable {X:Cx} {R:OR} {lf lf':LF} {df df':DF} {L2':List Addr} {I2:Hp→Prop} {rs:List (Nat×Addr)} {G G1:Gam} {e c it:Expr} {es:List Expr} {ds:List PyData} {d:PyData} {i j k:Nat} {pos pos2 pos3 apos p1 p4:Pos} {x m y:Str} {sts:List Stmt} {L:List Addr} {I:Hp→Prop} {C:Addr} {oa:Option Addr} {dn:DF}
end
section
variable {X:Cx} {L:List Addr} {rs:List (Nat×Addr)} {G:Gam} {c:Expr} {d:PyData} {j:Nat} {pos:Pos} {α:Type} {Iv:α→Hp→Prop} {T:α} {I I1:Hp→Prop} {k:Bool}
end
section
variable {X:Cx} {C a:Addr} {L2':List Addr} {I2 I2' I2b:Hp→Prop} {rs:List (Nat×Addr)} {G G' G1:Gam} {lf lf' lf1:LF} {df df' df1:DF} {d:PyData} {c e:Expr} {es:List Expr} {ds:List PyData} {i k:Nat} {pos pos2 pos3 apos:Pos} {x m:Str} {st:Stmt} {sts:List Stmt}
end
def FMFn (P:Program) (w:World) (K:PySem.W.Frag) (mg:Str→Option Value) (base:Heap) (k:Nat) (C:Addr) (m:Str) (F:List PyData→List PyData→Prop):Prop:=
 ∃f fd ps,FnOk P w K mg base CX0 k f fd ps (spFL K F)∧Meth K C m f∧Binds K fd ps []
section
variable {P:Program} {w:World} {K:PySem.W.Frag} {mg:Str→Option Value} {base:Heap}
theorem Fun.dataMF {x qual m:Str} {st:Stmt} {f:Addr} {fd:FuncData} {N ps:List Str} {k:Nat} {C:Addr} {F:List PyData→List PyData→Prop} (F0:Fun K x qual st f fd) (hm:Meth K C m f) (hb:Binds K fd ps []) (S:FnScope N ps (Ai st)) (len:∀ds d,F ds d→ds.length=ps.length)
  (hbody:∀(cdv:Value) (A:Around) (outer:List Env) (s:Shared) (H:Hp) (E:XK) (ds ws:List PyData),Room k (A.deeper (envOfC qual (Ai st) s.heap.objs.size f cdv))→F ds ws→
   FRs (cxOf CX0 P w K mg base N qual (Ai st) f cdv A outer s H E).nox (Bm N ds) (AM st) ws):FMFn P w K mg base (k + 1) C m F:=
 ⟨f,fd,ps,F0.ok S (fun vs H Q E ⟨ds,d,h1,h2,_⟩=>h1.length.trans (len ds d h2)) (fun cdv A outer s H vs Q E hr ⟨ds,ws,h1,h2,q⟩=>⟨_,hbody cdv A outer s H E ds ws hr h2,SD.start h1,q⟩),hm,hb⟩
end
section
variable {X:Cx} {G:Gam} {C:Addr} {k:Nat} {m x:Str} {fls:List (PyData×PyData)} {ws:List PyData} {pos pos2 apos:Pos}
theorem Ki {F:List PyData→List PyData→Prop} {pl:Sem Bool} (cl:Cls X.K C) (D:FMFn X.prog X.w X.K X.mg X.base k C m F) (hr:Room k X.A) (hv:EV X G (.Name x pos2) (objD C fls)) (hF:F [objD C fls] ws) (h1:m∉Bt:=by decide)
  (ht:eval (.Call (.Attribute (.Name x pos2) m apos) [] [] pos) X.env=(do
   let ov ←eval (.Name x pos2) X.env
   standAt apos.atName
   let (f,first) ←holding [ov] (getMethod ov m pl)
   callWith pos f first (backTo pos (starEach [] X.env)) (backToKw pos (keywordEach [] X.env))):=by rfl):
  EVF X G (.Call (.Attribute (.Name x pos2) m apos) [] [] pos) ws:=by
 obtain ⟨f,fd,ps,ok,hm,hb⟩:=D
 refine (JC (E:=E0) (dvs:=[]) (ds:=[]) hv cl hm ok hr hb .nil CK ht).imp fun σ H Q ⟨h,q⟩=>⟨h,fun v H1 s1 d1=>?_⟩
 obtain ⟨a,dx,fs,rfl,ho,hf,hn⟩:=d1.of_objN
 refine ⟨a,dx,fs,rfl,ho,hn m h1,?_⟩
 show spFL X.K F (V.ref a::([]++[])) H1 Q E0
 exact ⟨_,ws,.cons d1 .nil,hF,fun p us H2 hp s2 hl dv=>q p us H2 (s1.free hp) (s1.trans s2) hl dv⟩
end
section
variable {X:Cx} {L:List Addr} {rs:List (Nat×Addr)} {G G1:Gam} {c:Expr} {j:Nat} {pos:Pos} {α:Type} {Iv:α→Hp→Prop} {T T1:α}
end
inductive LsK (K:PySem.W.Frag) (Hb H:Hp):List Addr→List (List PyData)→Prop where
 | nil:LsK K Hb H [] []
 | cons {p:Addr} {us:List V} {ds:List PyData} {ps:List Addr} {dss:List (List PyData)}:H p=some (.lst us)→DVs K Hb us ds→noLs ds=true→LsK K Hb H ps dss→LsK K Hb H (p::ps) (ds::dss)
section
variable {X:Cx} {G G':Gam} {e:Expr} {es:List Expr} {ws:List PyData} {wss:List (List PyData)} {L:List Addr} {I:Hp→Prop} {rs:List (Nat×Addr)} {j k:Nat} {f x:Str} {pos pos2 pos3 p1 p4 p5:Pos}
end
section
variable {K:PySem.W.Frag} {Hb Hb' H H':Hp} {p:Addr} {us:List V} {S':List PyData}
end
def Hz (K:PySem.W.Frag) (h:Addr) (ps:List Addr) (dss:List (List PyData)) (H:Hp):Prop:=H h=some (.lst (ps.map V.ref))∧(h::ps).Nodup∧LsK K (lef (h::ps) H) H ps dss
section
variable {K:PySem.W.Frag} {h:Addr} {ps:List Addr} {dss:List (List PyData)} {H H':Hp}
end
section
variable {X:Cx} {L L1:List Addr} {I I1 I2:Hp→Prop} {rs:List (Nat×Addr)} {G G':Gam} {e:Expr} {es:List Expr} {d:PyData} {ds S:List PyData} {wss:List (List PyData)} {i j k:Nat} {p:Addr} {pos pos' pos2 pos3 apos p1 p2 p3 p4 p5:Pos} {x y f:Str} {sts:List Stmt} {C:Addr} {lf:LF} {df:DF}
theorem Oz.apart {K:PySem.W.Frag} {R:OR} {lf:LF} {df:DF} {H:Hp} {L:List Addr} (i:Oz K R lf df H) (dj:∀b∈L,b∉R.L) (nt:∀b∈L,∀xs,¬Rd H b (.tup xs)) (hn:∀q∈df,noL q.2=true):Oz K R lf df (lef L H):=by
 obtain ⟨fs,t⟩:=i
 have na:∀b∈R.L,b∉L:=fun b hb z=>dj b z hb
 have nt2:∀b∈L,∀xs,¬Rd (lef R.L H) b (.tup xs):=fun b hb xs r=>by
  refine nt b hb xs ?_
  rcases r with r | ⟨q,r⟩
  ·exact .inl (lef_same _ _ r)
  ·exact .inr ⟨q,lef_same _ _ r⟩
 refine ⟨fs,by rw [Ax (na _ List.mem_cons_self)];exact t.obj,by rw [Ax (na _ (List.mem_cons_of_mem _ List.mem_cons_self))];exact t.own1,t.few,t.nam,t.nda,t.apart,fun q hq=>?_,fun q hq=>?_,fun q hq=>?_⟩
 ·rw [Ax (na _ (List.mem_cons_of_mem _ (List.mem_cons_of_mem _ (List.mem_map_of_mem hq))))]
  exact t.own q hq
 ·obtain ⟨p,us,h1,h2,h3,h4,h5⟩:=t.lst q hq
  refine ⟨p,us,h1,h2,by rw [Ax (na _ (List.mem_cons_of_mem _ (List.mem_cons_of_mem _ (List.mem_map_of_mem (f:=(·.2)) h1))))];exact h3,?_,h5⟩
  rw [GR]
  exact DVs.lef nt2 h4 h5
 ·obtain ⟨v,h1,h2⟩:=t.dat q hq
  refine ⟨v,h1,?_⟩
  rw [GR]
  exact DV.lef nt2 h2 (hn q hq)
end
section
variable {K:PySem.W.Frag} {L0:List Addr} {I0:Hp→Prop} {R:OR} {lf:LF} {dm:DF} {N:NR} {df:DF} {p:Addr} {S:List PyData} {rs:List (Nat×Addr)} {G:Gam} {i j l:Nat}
end
abbrev Zt:=List Addr×(Hp→Prop)
abbrev Dj (A B:List Addr):Prop:=∀b∈A,b∉B
structure Gd (it:Zt):Prop where
 ok:ZOk it.1 it.2
 ap:∀{H:Hp} {M:List Addr},it.2 H→Dj M it.1→(∀b∈M,∀xs,¬Rd H b (.tup xs))→it.2 (lef M H)
 fr:ZF it.1 it.2
abbrev Gds (its:List Zt):Prop:=∀it∈its,Gd it
def LZ (its:List Zt):List Addr:=(its.map (·.1)).flatten
def TZ (its:List Zt) (H:Hp):Prop:=(its.map (·.1)).Pairwise Dj∧∀it∈its,it.2 H
theorem mem_LZ {its:List Zt} {b:Addr}:b∈LZ its↔∃it∈its,b∈it.1:=by
 unfold LZ
 rw [List.mem_flatten]
 constructor
 ·rintro ⟨l,hl,hb⟩
  obtain ⟨it,h,rfl⟩:=List.mem_map.mp hl
  exact ⟨it,h,hb⟩
 ·rintro ⟨it,h,hb⟩
  exact ⟨it.1,List.mem_map_of_mem h,hb⟩
theorem Qm {its:List Zt} (g:∀it∈its,ZOk it.1 it.2):ZOk (LZ its) (TZ its) where
 step:=fun ⟨p,i⟩ s=>⟨p,fun it h=>(g it h).step (i it h) s⟩
 notup:=fun ⟨p,i⟩ b hb xs=>by
  obtain ⟨it,h,hb⟩:=mem_LZ.mp hb
  exact (g it h).notup (i it h) b hb xs
 free:=fun ⟨p,i⟩ hp hm=>by
  obtain ⟨it,h,hb⟩:=mem_LZ.mp hm
  exact (g it h).free (i it h) hp hb
theorem Gds.ok {its:List Zt} (g:Gds its):ZOk (LZ its) (TZ its):=Qm fun it h=>(g it h).ok
theorem Gds.fr {its:List Zt} (g:Gds its):ZF (LZ its) (TZ its) where
 fo:=fun H ⟨p,i⟩ b hb=>by
  obtain ⟨it,h,hb⟩:=mem_LZ.mp hb
  exact ((g it h).fr.fo H (i it h) b hb).wide fun c hc=>mem_LZ.mpr ⟨it,h,hc⟩
 join:=fun H H' t n s=>⟨t.1,fun it h=>by
  have i:=t.2 it h
  have hO:∀b,b∈(LZ its).filter (fun b=>decide (b∉it.1))↔b∈LZ its∧b∉it.1:=fun b=>by rw [List.mem_filter,decide_eq_true_iff]
  have a1:=(g it h).ap (M:=(LZ its).filter fun b=>decide (b∉it.1)) i (fun b hb=>((hO b).mp hb).2) fun b hb xs=>g.ok.notup t b ((hO b).mp hb).1 xs
  have a2:=(g it h).fr.join _ H' a1 (fun b hb=>n b (mem_LZ.mpr ⟨it,h,hb⟩)) (by
   rw [←P8]
   refine (Ip fun b hb=>?_).trans s
   by_cases hi:b∈it.1
   ·exact List.mem_append_left _ hi
   ·exact List.mem_append_right _ ((hO b).mpr ⟨hb,hi⟩))
  refine (g it h).ok.step a2 fun b o e=>?_
  by_cases hi:b∈it.1
  ·rw [BC hi] at e
   rw [BC (mem_LZ.mpr ⟨it,h,hi⟩)]
   exact lef_same _ _ e
  ·rw [CO hi] at e
   have nl:b∉LZ its:=fun z=>by rw [n b z] at e;cases e
   rw [CO nl]
   exact e⟩
theorem IF {A B:List Zt} {it:Zt}:(A++it::B).map (·.1)=A.map (·.1)++it.1::B.map (·.1):=by rw [List.map_append,List.map_cons]
theorem QL {A B:List Addr} (h:Dj A B):Dj B A:=fun b hb ha=>h b ha hb
theorem mem_mid {A B:List Zt} {it z:Zt}:z∈A++it::B↔z=it∨z∈A++B:=by
 simp only [List.mem_append,List.mem_cons]
 constructor
 ·rintro (h | rfl | h)
  ·exact .inr (.inl h)
  ·exact .inl rfl
  ·exact .inr (.inr h)
 ·rintro (rfl | h | h)
  ·exact .inr (.inl rfl)
  ·exact .inl h
  ·exact .inr (.inr h)
theorem TZ.mid {A B:List Zt} {it:Zt} {H:Hp}:TZ (A++it::B) H↔(∀z∈A++B,Dj it.1 z.1)∧it.2 H∧TZ (A++B) H:=by
 unfold TZ
 rw [IF,List.pairwise_middle (fun {x y} h=>QL h),List.pairwise_cons,←List.map_append]
 constructor
 ·rintro ⟨⟨h1,h2⟩,h3⟩
  exact ⟨fun z hz=>h1 _ (List.mem_map_of_mem hz),h3 _ (mem_mid.mpr (.inl rfl)),h2,fun z hz=>h3 z (mem_mid.mpr (.inr hz))⟩
 ·rintro ⟨h1,h2,h3,h4⟩
  refine ⟨⟨fun l hl=>?_,h3⟩,fun z hz=>?_⟩
  ·obtain ⟨z,hz,rfl⟩:=List.mem_map.mp hl
   exact h1 z hz
  ·rcases mem_mid.mp hz with rfl | hz
   ·exact h2
   ·exact h4 z hz
theorem LO {A B:List Zt} {it it':Zt} {H H':Hp} (g:Gds (A++it::B)) (t:TZ (A++it::B) H) (s:Same (lef it.1 H) (lef it'.1 H')) (i':it'.2 H'):TZ (A++it'::B) H'∧Same (lef (LZ (A++it::B)) H) (lef (LZ (A++it'::B)) H'):=by
 obtain ⟨dj,i,p,al⟩:=TZ.mid.mp t
 have gi:=g it (mem_mid.mpr (.inl rfl))
 have key:∀z∈A++B,z.2 (lef it'.1 H'):=fun z hz=>by
  have gz:=g z (mem_mid.mpr (.inr hz))
  exact gz.ok.step (gz.ap (al z hz) (dj z hz) fun b hb xs=>gi.ok.notup i b hb xs) s
 refine ⟨TZ.mid.mpr ⟨fun z hz b hb hbz=>(g z (mem_mid.mpr (.inr hz))).ok.free (key z hz) (AO hb) hbz,i',p,fun z hz=>(g z (mem_mid.mpr (.inr hz))).ok.step (key z hz) lef_same⟩,fun b o e=>?_⟩
 have nb:b∉LZ (A++it::B):=fun z=>by rw [AO z] at e;cases e
 rw [Ax nb] at e
 have e2:=s b o (by rw [Ax fun z=>nb (mem_LZ.mpr ⟨it,mem_mid.mpr (.inl rfl),z⟩)];exact e)
 have n2:b∉it'.1:=fun z=>by rw [AO z] at e2;cases e2
 rw [Ax n2] at e2
 rw [Ax]
 ·exact e2
 ·intro z
  obtain ⟨y,hy,hb⟩:=mem_LZ.mp z
  rcases mem_mid.mp hy with rfl | hy
  ·exact n2 hb
  ·exact nb (mem_LZ.mpr ⟨y,mem_mid.mpr (.inr hy),hb⟩)
theorem O4 {A B:List Zt} {it':Zt} {H H':Hp} (g:Gds (A++B)) (t:TZ (A++B) H) (s:Same H (lef it'.1 H')) (i':it'.2 H'):TZ (A++it'::B) H'∧Same (lef (LZ (A++B)) H) (lef (LZ (A++it'::B)) H'):=by
 have key:∀z∈A++B,z.2 (lef it'.1 H'):=fun z hz=>(g z hz).ok.step (t.2 z hz) s
 refine ⟨TZ.mid.mpr ⟨fun z hz b hb hbz=>(g z hz).ok.free (key z hz) (AO hb) hbz,i',t.1,fun z hz=>(g z hz).ok.step (key z hz) lef_same⟩,fun b o e=>?_⟩
 have nb:b∉LZ (A++B):=fun z=>by rw [AO z] at e;cases e
 rw [Ax nb] at e
 have e2:=s b o e
 have n2:b∉it'.1:=fun z=>by rw [AO z] at e2;cases e2
 rw [Ax n2] at e2
 rw [Ax]
 ·exact e2
 ·intro z
  obtain ⟨y,hy,hb⟩:=mem_LZ.mp z
  rcases mem_mid.mp hy with rfl | hy
  ·exact n2 hb
  ·exact nb (mem_LZ.mpr ⟨y,hy,hb⟩)
theorem OW {A B:List Zt} {it:Zt} {H:Hp} (t:TZ (A++it::B) H):TZ (A++B) H∧Same (lef (LZ (A++it::B)) H) (lef (LZ (A++B)) H):=
 ⟨(TZ.mid.mp t).2.2,Ip fun b hb=>by obtain ⟨z,hz,h⟩:=mem_LZ.mp hb;exact mem_LZ.mpr ⟨z,mem_mid.mpr (.inr hz),h⟩⟩
theorem K7 {A B:List Zt} {it it':Zt} (e:it.1=it'.1):LZ (A++it::B)=LZ (A++it'::B):=by
 unfold LZ
 rw [IF,IF,e]
section
variable {X:Cx} {A B:List Zt} {L:List Addr} {I I':Hp→Prop} {rs rs1:List (Nat×Addr)} {G G':Gam} {e:Expr} {d:PyData} {st:Stmt}
end
theorem S6 {K:PySem.W.Frag} {R:OR} {lf:LF} {df:DF} (hn:∀q∈df,noL q.2=true):Gd (R.L,Oz K R lf df):=⟨oz_ok,fun i dj nt=>i.apart dj nt hn,PY⟩
theorem Gz {K:PySem.W.Frag} {p:Addr} {S:List PyData}:Gd ([p],Kz K p S):=⟨kz_ok,fun ⟨us,h1,h2,h3⟩ dj nt=>⟨us,by rw [Ax fun z=>dj p z List.mem_cons_self];exact h1,by
 rw [GR]
 refine DVs.lef (fun b hb xs r=>nt b hb xs ?_) h2 h3
 rcases r with r | ⟨q,r⟩
 ·exact .inl (lef_same _ _ r)
 ·exact .inr ⟨q,lef_same _ _ r⟩,h3⟩,Sx⟩
def zV (K:PySem.W.Frag) (L:List Addr) (I:Hp→Prop) (rs:List (Nat×Addr)) (G:Gam) (Nx:List Addr→St→Hp→Prop) (Rt:List Addr→V→Hp→Prop):TS:=fun D σ H=>RZ K L I rs G σ H∧(∀L' σ' H',Nx L' σ' H'→Same (lef L H) (lef L' H')→D.nx σ' H')∧∀L' v H',Rt L' v H'→Same (lef L H) (lef L' H')→D.rt v H'
abbrev noRt:List Addr→V→Hp→Prop:=fun _ _ _=>False
section
variable {X:Cx} {L L1:List Addr} {I I1:Hp→Prop} {rs rs1:List (Nat×Addr)} {G G1:Gam} {Nx Nx1:List Addr→St→Hp→Prop} {Rt:List Addr→V→Hp→Prop} {e c:Expr} {d:PyData} {k:Bool} {pos:Pos} {st:Stmt} {sts A B:List Stmt} {β:Type} {j:Nat}
theorem Cb {Lo:β→List Addr} {Io:β→Hp→Prop} {ro:β→List (Nat×Addr)} {Go:β→Gam} (P:β→Prop) (h1:PS X st (zV X.K L I rs G (fun L' σ' H'=>∃y,P y∧L'=Lo y∧RZ X.K (Lo y) (Io y) (ro y) (Go y) σ' H') noRt)) (h2:∀y,P y→PSs X sts (zV X.K (Lo y) (Io y) (ro y) (Go y) Nx Rt)):PSs X (st::sts) (zV X.K L I rs G Nx Rt):=by
 have h2':PSs X sts (fun D σ H=>∃y,P y∧zV X.K (Lo y) (Io y) (ro y) (Go y) Nx Rt D σ H):=fun pins s σ H D I ⟨y,hy,q⟩=>h2 y hy pins s σ H D I q
 exact (A7 h1 h2').imp fun D σ H ⟨r,q1,q2⟩=>⟨r,fun L' σ' H' ⟨y,hy,el,r'⟩ s=>⟨y,hy,r',fun L2 σ2 H2 n s2=>q1 L2 σ2 H2 n ((el ▸ s).trans s2),fun L2 v H2 n s2=>q2 L2 v H2 n ((el ▸ s).trans s2)⟩,fun _ _ _ f=>f.elim⟩
theorem AK (h1:PS X st (zN X.K L I rs G G1 I1)) (h2:PSs X sts (zV X.K L I1 rs G1 Nx Rt)):PSs X (st::sts) (zV X.K L I rs G Nx Rt):=
 (A7 h1 h2).imp fun D σ H ⟨r,q1,q2⟩=>⟨r,fun σ' H' r' s'=>⟨r',fun L2 σ2 H2 n s2=>q1 L2 σ2 H2 n (s'.trans s2),fun L2 v H2 n s2=>q2 L2 v H2 n (s'.trans s2)⟩⟩
theorem Nj (h:∀σ H,RZ X.K L I rs G σ H→Nx L σ H):PSs X [] (zV X.K L I rs G Nx Rt):=pss_nil.imp fun D σ H ⟨r,q,_⟩=>q L σ H (h σ H r) (Same.refl _)
theorem Fb (h:ZE X L I rs G e d I1) (hB:∀v H',I1 H'→DV X.K (lef L H') v d→Rt L v H'):PSs X (.Return (some e) pos::sts) (zV X.K L I rs G Nx Rt):=
 (A7 (Fl h) (Bd (sts:=sts))).imp fun D σ H ⟨r,_,q⟩=>⟨r,fun v H' i' s' dv=>q L v H' (hB v H' i' dv) s'⟩
theorem GB {G':Gam} (v:Sees X.K L I rs G G') (h:SVs X G' sts (.ret d)):PSs X sts (zV X.K L I rs G Nx fun _ v H'=>DV X.K H' v d):=h.imp fun D σ H ⟨r,_,q⟩=>⟨v σ H r,fun u H' s' dv=>q [] u H' dv (by rw [show lef [] H'=H' from funext fun b=>Ax (List.not_mem_nil)];exact lef_same.trans s')⟩
end
section
variable {X:Cx} {L:List Addr} {I:Hp→Prop} {rs:List (Nat×Addr)} {G:Gam} {b:Expr} {i:Nat} {p:Addr} {us:List V} {v:V} {z:Int} {x:Str} {pos pos2:Pos}
end
inductive MK (K:PySem.W.Frag) (ls:List (Str×Addr)) (Hb H:Hp):List (Key×V)→DF→Prop where
 | nil:MK K ls Hb H [] []
 | lst {f:Str} {p:Addr} {us:List V} {ds:List PyData} {r:List (Key×V)} {df:DF}:(f,p)∈ls→H p=some (.lst us)→DVs K Hb us ds→noLs ds=true→MK K ls Hb H r df→MK K ls Hb H ((.inr f,.ref p)::r) ((f,.list ds)::df)
 | any {f:Str} {v:V} {d:PyData} {r:List (Key×V)} {df:DF}:f∉ls.map (·.1)→DV K Hb v d→MK K ls Hb H r df→MK K ls Hb H ((.inr f,v)::r) ((f,d)::df)
section
variable {K:PySem.W.Frag} {ls ls':List (Str×Addr)} {Hb Hb' H H':Hp} {f:Str} {p a:Addr} {us:List V} {ws:List PyData}
end
structure MzS (K:PySem.W.Frag) (R:NR) (df:DF) (Hb H:Hp) (kvs:List (Key×V)):Prop where
 obj:H R.a=some (.dK kvs)
 few:df.length≤40
 nda:R.L.Nodup
 ndl:(R.ls.map (·.1)).Nodup
 ndk:(df.map (·.1)).Nodup
 sub:∀q∈R.ls,q.1∈df.map (·.1)
 own:∀q∈R.ls,∃us,H q.2=some (.lst us)
 nk:MK K R.ls Hb H kvs df
section
variable {K:PySem.W.Frag} {R:NR} {df:DF} {H H':Hp}
end
section
variable {X:Cx} {R:NR} {df:DF} {rs:List (Nat×Addr)} {G:Gam} {e b:Expr} {ws:List PyData} {i:Nat} {pos pos' pos2 p p4:Pos} {x f:Str}
end
theorem Eg {it:Zt}:LZ [it]=it.1:=by show it.1++[]=_;exact List.append_nil _
theorem tz_one {it:Zt} {H:Hp}:TZ [it] H↔it.2 H:=⟨fun t=>t.2 it List.mem_cons_self,fun h=>⟨List.pairwise_singleton _ _,fun z hz=>by rw [List.mem_singleton.mp hz];exact h⟩⟩
theorem tz_two {a b:Zt} {H:Hp}:TZ [a,b] H↔Dj a.1 b.1∧a.2 H∧b.2 H:=by
 constructor
 ·rintro ⟨p,al⟩
  exact ⟨(List.pairwise_cons.mp p).1 _ List.mem_cons_self,al a List.mem_cons_self,al b (List.mem_cons_of_mem _ List.mem_cons_self)⟩
 ·rintro ⟨dj,h1,h2⟩
  refine ⟨List.pairwise_cons.mpr ⟨fun z hz=>by rw [List.mem_singleton.mp hz];exact dj,List.pairwise_singleton _ _⟩,fun z hz=>?_⟩
  rcases List.mem_cons.mp hz with rfl | hz
  ·exact h1
  ·rw [List.mem_singleton.mp hz];exact h2
theorem Lz {H:Hp}:lef [] H=H:=funext fun b=>Ax List.not_mem_nil
theorem Ir {K:PySem.W.Frag} {H:Hp} {σ:St} {G:Gam} {j:Nat} {v:V} (h:SD K H σ G) (hG:G[j]?=some none):SD K H (σ.set j (some v)) G:=⟨by rw [List.length_set];exact h.1,fun i d e=>by
 by_cases hj:j=i
 ·subst hj;rw [hG] at e;cases e
 ·rw [List.getElem?_set_ne hj];exact h.2 i d e⟩
def tNeu {β:Type} (K:PySem.W.Frag) (L:List Addr) (I:Hp→Prop) (rs:List (Nat×Addr)) (G:Gam) (P:β→Prop) (Lo:β→List Addr) (Io:β→Hp→Prop) (ad:β→Addr):TE:=fun σ H Q=>RZ K L I rs G σ H∧∀y H',P y→Io y H'→Same H (lef (Lo y) H')→Q (.ref (ad y)) H'
section
variable {X:Cx} {A B its:List Zt} {it:Zt} {L:List Addr} {I:Hp→Prop} {rs:List (Nat×Addr)} {G G':Gam} {β:Type} {P:β→Prop} {Lo:β→List Addr} {Io:β→Hp→Prop} {ad:β→Addr} {e b:Expr} {es:List Expr} {d:PyData} {ds:List PyData} {us:List V} {p C:Addr} {i j k:Nat} {z:Int} {x y m f:Str} {pos pos' pos2 pos3 apos p1 p2 p3 p4:Pos} {sts:List Stmt} {lf:LF} {df:DF} {Nx:List Addr→St→Hp→Prop} {Rt:List Addr→V→Hp→Prop}
theorem MO {st:Stmt} {Lo':β→List Addr} {Io':β→Hp→Prop} {ro:β→List (Nat×Addr)} {Go:β→Gam} (P':β→Prop) (h1:PS X st (zV X.K (LZ []) (TZ []) [] G (fun L' σ' H'=>∃y,P' y∧L'=Lo' y∧RZ X.K (Lo' y) (Io' y) (ro y) (Go y) σ' H') noRt)) (h2:∀y,P' y→PSs X sts (zV X.K (Lo' y) (Io' y) (ro y) (Go y) (fun _ _ _=>False) fun _ v H'=>DV X.K H' v d)):SVs X G (st::sts) (.ret d):=
 (Cb P' h1 h2).imp fun D σ H ⟨hσ,q⟩=>⟨⟨(fun _ h=>by cases h),⟨List.Pairwise.nil,(fun _ h=>by cases h)⟩,by rw [show LZ []=[] from rfl,Lz];exact hσ⟩,fun _ _ _ f=>f.elim,fun L' v H' dv s=>q v H' (by rw [show LZ []=[] from rfl,Lz] at s;exact s.trans lef_same) dv⟩
end
section
variable {K:PySem.W.Frag} {L:List Addr} {I:Hp→Prop} {rs:List (Nat×Addr)} {G:Gam} {i j l:Nat} {a b c:Addr} {d1 d2 d3:PyData}
theorem Oj (hi:(i,a)∈rs) (hj:(j,b)∈rs) (h1:∀H,I H→DV K H (.ref a) d1) (h2:∀H,I H→DV K H (.ref b) d2):Sees K L I rs G ((G.set i (some d1)).set j (some d2)):=fun σ H r=>by
 have e1:=r.sd.set (i:=i) (h1 H r.2.1)
 rw [Cm (r.1 _ hi)] at e1
 have e2:=e1.set (i:=j) (h2 H r.2.1)
 rw [Cm (r.1 _ hj)] at e2
 exact e2
theorem Cq (hi:(i,a)∈rs) (h1:∀H,I H→DV K H (.ref a) d1):Sees K L I rs G (G.set i (some d1)):=fun σ H r=>by
 have e1:=r.sd.set (i:=i) (h1 H r.2.1)
 rw [Cm (r.1 _ hi)] at e1
 exact e1
end
theorem Oz.dv {K:PySem.W.Frag} {R:OR} {lf:LF} {df:DF} {H:Hp} (i:Oz K R lf df H):DV K H (.ref R.a) (objD R.C (fldD lf df)):=let ⟨_,t⟩:=i;t.dv
theorem Kz.dv {K:PySem.W.Frag} {p:Addr} {S:List PyData} {H:Hp} (i:Kz K p S H):DV K H (.ref p) (.list S):=let ⟨us,h1,h2,_⟩:=i;.lst (SqL.of h1) (h2.mono lef_same)
section
variable {X:Cx} {A B its:List Zt} {rs:List (Nat×Addr)} {G G':Gam} {e o b:Expr} {es:List Expr} {d:PyData} {ds ws:List PyData} {us:List V} {p hq q0:Addr} {i j k l:Nat} {z:Int} {x y m f:Str} {pos pos' pos2 pos3 apos p1 p2 p3 p4:Pos} {sts:List Stmt} {lf lf':LF} {df df':DF} {R:OR} {N:NR}
theorem EJ (g:Gds its) (hN:X.N.Nodup) (hj:X.N[j]?=some y) (hj0:j∉rs.map (·.1)) (hy:Loc X.env.scope y) (hG:G[j]?=some none) (v:Sees X.K (LZ its) (TZ its) rs G G') (h:EVF X G' e ws) (hn:noLs ws=true)
  (hs:swapsWith e (some (.Name y p1)) p4.line X.env=pure false:=by rfl)
  (hfn:X.fn y=true∨X.env.scope.names.lookup y=some .local:=by first | exact .inl rfl | exact .inr rfl | assumption):
  PS X (.Assign [.Name y p1] e p4) (zV X.K (LZ its) (TZ its) rs G (fun L' σ' H'=>∃q:Addr,True∧L'=LZ (its++[([q],Kz X.K q ws)])∧RZ X.K (LZ (its++[([q],Kz X.K q ws)])) (TZ (its++[([q],Kz X.K q ws)])) ((j,q)::rs) G σ' H') noRt):=by
 refine (Cw hN hj hy h hs hfn).imp fun D σ H ⟨r,q,_⟩=>⟨v σ H r,fun p us H1 hp s1 hl dv=>?_⟩
 have sL:Same H (lef [p] H1):=fun b o eb=>by
  rw [Ax (by simpa using A4 eb hp)]
  exact s1 _ _ eb
 have kz:Kz X.K p ws H1:=⟨us,hl,DVs.lef (fun b hb xs=>by rw [List.mem_singleton.mp hb];exact Qg hl (fun _ z=>by cases z) (fun _ _ z=>by cases z) xs) dv hn,hn⟩
 obtain ⟨t1,s1'⟩:=O4 (A:=its) (B:=[]) (it':=([p],Kz X.K p ws)) (by rw [List.append_nil];exact g) (by rw [List.append_nil];exact r.2.1) sL kz
 rw [List.append_nil] at s1'
 refine q _ _ _ ⟨p,True.intro,rfl,fun z hz=>?_,t1,Ir (r.2.2.mono s1') hG⟩ s1'
 rcases List.mem_cons.mp hz with e | hz
 ·subst e
  exact List.getElem?_set_self (by rw [r.2.2.1];exact (List.getElem?_eq_some_iff.mp hG).1)
 ·rw [List.getElem?_set_ne fun w=>hj0 (List.mem_map.mpr ⟨z,hz,w.symm⟩)]
  exact r.1 z hz
end
section
variable {X:Cx} {A B:List Zt} {rs:List (Nat×Addr)} {G:Gam} {e2 e3 k1 k2 k3:Expr} {d2 d3:PyData} {ws:List PyData} {q:Addr} {i j:Nat} {x y f1 f2 f3:Str} {pos pos' pos2 apos cpos p1:Pos} {df:DF} {N:NR}
end
section
variable {X:Cx} {G:Gam} {k:Nat} {C:Addr} {x:Str} {e:Expr} {es:List Expr} {ds:List PyData} {lf:LF} {df:DF} {p2 p3:Pos}
theorem OE {F:List PyData→LF→DF→Prop} (D0:OIFn X.prog X.w X.K X.mg X.base k C F) (hr:Room (k + 1) X.A) (hg:Gl X x) (hm:X.mg x=some (.ref C)) (ha:AV X G (e::es) ds) (hF:F ds lf df)
  (hdb:(x==("__debug__":Str))=false:=by decide) (he:starEach (e::es) X.env=(false,eval e X.env)::starEach es X.env:=by rfl) (hpl:(backTo p3 (starEach es X.env)).any (·.1)=false:=by rfl):
  EV X G (.Call (.Name x p2) (e::es) [] p3) (objD C (fldD lf df)):=by
 obtain ⟨f0,fd0,ps0,ok0,M,hb0⟩:=D0
 refine (KY (E:=E0) (dvs:=[]) (ds:=[]) M ok0 hr hg hm hb0 .nil CK ha hdb he hpl).imp fun σ H Q ⟨hσ,q⟩=>⟨hσ,fun vs H1 s1 dv=>?_⟩
 intro a dx ha hdx hne
 have sA:Same H1 (lef [a,dx] (upd (upd H1 dx (.own a)) a (.ins C dx []))):=fun b o e=>by
  have n1:b≠a:=A4 e ha
  have n2:b≠dx:=A4 e hdx
  rw [Ax (by simp only [List.mem_cons,List.not_mem_nil,or_false,not_or];exact ⟨n1,n2⟩),Au n1,Au n2]
  exact e
 show spOI X.K C F (V.ref a::(vs++[])) _ _ E0
 rw [List.append_nil]
 refine ⟨a,dx,ds,lf,df,vs,rfl,Aw,by rw [Au hne];exact Aw,hne,dv.mono sA,hF,fun H2 R hC hRa hRd tb old fre=>⟨rfl,?_⟩⟩
 subst hC hRa hRd
 have keep:Same H1 H2:=fun b o e=>by
  have n1:b≠R.a:=A4 e ha
  have n2:b≠R.dx:=A4 e hdx
  have e1:upd (upd H1 R.dx (.own R.a)) R.a (.ins R.C R.dx []) b=some o:=by rw [Au n1,Au n2];exact e
  exact old b o n1 e1
 obtain ⟨fs,t⟩:=tb
 exact q _ H2 (s1.trans keep) t.dv
end
section
variable {K:PySem.W.Frag} {L:List Addr} {I:Hp→Prop} {rs:List (Nat×Addr)} {G G1:Gam} {i:Nat} {ad:Addr} {d:PyData}
theorem Bl:Sees K L I rs G G:=fun σ H r=>r.sd
theorem EX (v:Sees K L I rs G G1) (hi:(i,ad)∈rs) (h1:∀H,I H→DV K H (.ref ad) d):Sees K L I rs G (G1.set i (some d)):=fun σ H r=>by
 have a1:=(v σ H r).set (i:=i) (v:=.ref ad) (d:=d) (h1 H r.2.1)
 rw [Cm (r.1 _ hi)] at a1
 exact a1
end
section
variable {X:Cx} {A B its:List Zt} {rs rs1:List (Nat×Addr)} {G G' G1:Gam} {e b c a:Expr} {es:List Expr} {d:PyData} {ds S:List PyData} {p ad:Addr} {i j k:Nat} {z:Int} {x y m f:Str} {pos pos' pos2 pos3 apos p1 p2 p3 p4:Pos} {sts:List Stmt} {lf lf':LF} {df df':DF} {R:OR} {L:List Addr} {I:Hp→Prop} {Nx:List Addr→St→Hp→Prop} {Rt:List Addr→V→Hp→Prop}
theorem Gq (hL:L=LZ (A++([p],Kz X.K p S)::B)) (g:Gds (A++([p],Kz X.K p S)::B)) (hi:(i,p)∈rs) (hv:PE X (.Name x pos2) (tVar i)) (v:Sees X.K L (TZ (A++([p],Kz X.K p S)::B)) rs G G') (h:EV X G' e d) (hn:noL d=true) (hb:EV X G' b (.int z)) (z0:0≤z) (z1:z < S.length)
  (ha:∀v,assign (.Subscript (.Name x pos2) b pos3) X.env v=(do
   let ov ←holding [v] (eval (.Name x pos2) X.env)
   let iv ←holding [v,ov] (eval b X.env)
   standAt pos3
   holding [v,ov,iv] (setItem ov iv v)
   release [v,ov,iv] []):=by intro _;rfl)
  (hs:swapsWithSole [.Subscript (.Name x pos2) b pos3] e pos.line X.env=pure false:=by rfl) (hw:swappedStores [.Subscript (.Name x pos2) b pos3] e X.env=pure none:=by rfl)
  (h1:(assignEach [.Subscript (.Name x pos2) b pos3] X.env).map (·.2)=[assign (.Subscript (.Name x pos2) b pos3) X.env]:=by rfl):PS X (.Assign [.Subscript (.Name x pos2) b pos3] e pos) (zN X.K L (TZ (A++([p],Kz X.K p S)::B)) rs G G (TZ (A++([p],Kz X.K p (S.set z.toNat d))::B))):=by
 subst hL
 refine (GK h (KG hv hb set_list ha) hs hw h1).imp fun D σ H ⟨r,q⟩=>⟨v σ H r,fun y H1 s1 d1=>?_⟩
 have r1:=r.step g.ok s1
 refine ⟨.ref p,r.1 _ hi,v σ H1 r1,fun w H2 s2 d2=>?_⟩
 have d2:=d2.of_int
 subst d2
 have r2:=r1.step g.ok s2
 have kz:Kz X.K p S H2:=(TZ.mid.mp r2.2.1).2.1
 obtain ⟨us,hu,du,nd⟩:=id kz
 have dv2:=DV.lef (kz_ok.notup kz) (d1.mono s2) hn
 have eL:lef [p] (upd H2 p (.lst (us.set z.toNat y)))=lef [p] H2:=BN List.mem_cons_self
 have hlen:us.length=S.length:=du.length
 have k':Kz X.K p (S.set z.toNat d) (upd H2 p (.lst (us.set z.toNat y))):=⟨us.set z.toNat y,Aw,by rw [eL];exact du.setAt dv2 _,L_ hn S _ nd⟩
 obtain ⟨t',s'⟩:=LO (it:=([p],Kz X.K p S)) (it':=([p],Kz X.K p (S.set z.toNat d))) g r2.2.1 (by show Same (lef [p] H2) (lef [p] _);rw [eL];exact Same.refl _) k'
 have eLL:LZ (A++([p],Kz X.K p (S.set z.toNat d))::B)=LZ (A++([p],Kz X.K p S)::B):=K7 rfl
 rw [eLL] at s'
 have sT:=(s1.lef.trans s2.lef).trans s'
 refine ⟨p,us,z,z.toNat,rfl,rfl,hu,?_,q σ _ ⟨r.1,t',r.2.2.mono sT⟩ sT⟩
 unfold ixN
 rw [if_pos z0,if_pos (by rw [hlen];exact z1)]
theorem HA (hL:L=LZ (A++([p],Kz X.K p S)::B)) (g:Gds (A++([p],Kz X.K p S)::B)) (hi:(i,p)∈rs) (hv:PE X (.Name x pos2) (tVar i)) (v:Sees X.K L (TZ (A++([p],Kz X.K p S)::B)) rs G G') (h:EV X G' e d) (hn:noL d=true) (hz:S.length < sizeLine)
  (hs0:starEach [e] X.env=(false,eval e X.env)::starEach [] X.env:=by rfl)
  (hb:attributeBase (.Name x pos2) "append" X.env (eval (.Name x pos2) X.env)=eval (.Name x pos2) X.env:=by rfl)
  (hfew:((backTo pos' (starEach [e] X.env)).all (fun x=>!x.1) && (backToKw pos' (keywordEach [] X.env)).all (fun x=>x.1.isSome)
   && decide ([e].length + ([]:List Keyword).length + (if ([]:List Keyword).isEmpty then 0 else 1) < 30))=true:=by rfl)
  (hline:(apos.endLine==pos'.line)=true:=by rfl) (hpl:(backTo pos' (starEach [] X.env)).any (·.1)=false:=by rfl)
  (hsw:swapsWith (.Call (.Attribute (.Name x pos2) "append" apos) [e] [] pos') none pos.line X.env=pure false:=by rfl):
  PS X (.Expr (.Call (.Attribute (.Name x pos2) "append" apos) [e] [] pos') pos) (zN X.K L (TZ (A++([p],Kz X.K p S)::B)) rs G G (TZ (A++([p],Kz X.K p (S++[d]))::B))):=by
 subst hL
 refine (Da (La PySem.F.plainAttrs_list PySem.F.slot_list_append PySem.F.type_list_append E_ hv (Aa h Ad hs0) hb hfew hline hs0 hpl) hsw).imp fun D σ H ⟨r,q⟩=>?_
 have kz0:Kz X.K p S H:=(TZ.mid.mp r.2.1).2.1
 obtain ⟨us,hl,du,nd⟩:=id kz0
 refine ⟨.ref p,r.1 _ hi,.inl ⟨rfl,us,SqL.of hl⟩,v σ H r,fun vs H1 s1 dvs=>?_⟩
 obtain ⟨w,rfl,dv⟩:=dvs.one
 have r1:=r.step g.ok s1
 have kz:Kz X.K p S H1:=(TZ.mid.mp r1.2.1).2.1
 obtain ⟨us1,hl1,du1,nd1⟩:=id kz
 have eL:lef [p] (upd H1 p (.lst (us1++[w])))=lef [p] H1:=BN List.mem_cons_self
 have k':Kz X.K p (S++[d]) (upd H1 p (.lst (us1++[w]))):=⟨us1++[w],Aw,by rw [eL];exact du1.append (.cons (DV.lef (kz_ok.notup kz) dv hn) .nil),K1 hn S nd1⟩
 obtain ⟨t',s'⟩:=LO (it:=([p],Kz X.K p S)) (it':=([p],Kz X.K p (S++[d]))) g r1.2.1 (by show Same (lef [p] H1) (lef [p] _);rw [eL];exact Same.refl _) k'
 have eLL:LZ (A++([p],Kz X.K p (S++[d]))::B)=LZ (A++([p],Kz X.K p S)::B):=K7 rfl
 rw [eLL] at s'
 have sT:=s1.lef.trans s'
 exact ⟨p,us1,w,rfl,rfl,hl1,by rw [du1.length];exact hz,q σ _ ⟨r.1,t',r.2.2.mono sT⟩ sT⟩
theorem LH {F:LF→DF→List PyData→PyData→LF→DF→Prop} {pl:Sem Bool} (hL:L=LZ (A++(R.L,Oz X.K R lf df)::B)) (g:Gds (A++(R.L,Oz X.K R lf df)::B)) (cl:Cls X.K R.C) (D:OFn X.prog X.w X.K X.mg X.base k R.C m F) (hr:Room k X.A) (hi:(i,R.a)∈rs) (hv:PE X (.Name x pos2) (tVar i)) (v:Sees X.K L (TZ (A++(R.L,Oz X.K R lf df)::B)) rs G G') (ha:AV X G' (e::es) ds) (hn:noLs ds=true) (hF:F lf df ds d lf' df') (hnd:noL d=true) (h1:m∉Bt:=by decide)
  (hst:starEach (e::es) X.env=(false,eval e X.env)::starEach es X.env:=by rfl) (hpl:(backTo pos (starEach es X.env)).any (·.1)=false:=by rfl)
  (ht:eval (.Call (.Attribute (.Name x pos2) m apos) (e::es) [] pos) X.env=(do
   let ov ←eval (.Name x pos2) X.env
   standAt apos.atName
   let (f,first) ←holding [ov] (getMethod ov m pl)
   callWith pos f first (backTo pos (starEach (e::es) X.env)) (backToKw pos (keywordEach [] X.env))):=by rfl):
  ZE X L (TZ (A++(R.L,Oz X.K R lf df)::B)) rs G (.Call (.Attribute (.Name x pos2) m apos) (e::es) [] pos) d (TZ (A++(R.L,Oz X.K R lf' df')::B)):=by
 subst hL
 obtain ⟨f,fd,ps,ok,hm,hb⟩:=D
 refine (IK (E:=E0) (dvs:=[]) (ds:=[]) hv cl hm ok hr hb .nil CK ha hst hpl ht).imp fun σ H Q ⟨r,q⟩=>?_
 have i0:Oz X.K R lf df H:=(TZ.mid.mp r.2.1).2.1
 obtain ⟨fs,t⟩:=id i0
 refine ⟨.ref R.a,r.1 _ hi,R.a,R.dx,fs,rfl,t.obj,t.nam m h1,v σ H r,fun vs H1 s1 dvs=>?_⟩
 have r1:=r.step g.ok s1
 have i1:Oz X.K R lf df H1:=(TZ.mid.mp r1.2.1).2.1
 show spO X.K R.C F (V.ref R.a::(vs++[])) H1 Q E0
 rw [List.append_nil]
 refine ⟨R,lf,df,ds,d,lf',df',vs,rfl,rfl,i1,DVs.lef (oz_ok.notup i1) dvs hn,hF,fun w H2 i2 s2 dv=>?_⟩
 obtain ⟨t',s'⟩:=LO (it:=(R.L,Oz X.K R lf df)) (it':=(R.L,Oz X.K R lf' df')) g r1.2.1 s2 i2
 have eL:LZ (A++(R.L,Oz X.K R lf' df')::B)=LZ (A++(R.L,Oz X.K R lf df)::B):=K7 rfl
 have nt:=(Qm fun z hz=>(mem_mid.mp hz).elim (fun e=>by rw [e];exact oz_ok) fun h=>(g z (mem_mid.mpr (.inr h))).ok).notup t'
 rw [eL] at s' nt
 exact q w H2 t' (s1.lef.trans s') (DV.lef nt (dv.mono lef_same) hnd)
theorem Gj {it:Zt} (hL:L=LZ (A++it::B)) (g:Gds (A++it::B)) (hi:(i,ad)∈rs) (hrs:∀q∈rs1,q∈rs) (hdv:∀H,it.2 H→DV X.K H (.ref ad) d) (h:PSs X sts (zV X.K (LZ (A++B)) (TZ (A++B)) rs1 (G.set i (some d)) Nx Rt)):PSs X sts (zV X.K L (TZ (A++it::B)) rs G Nx Rt):=h.imp fun D σ H ⟨r,q1,q2⟩=>by
 subst hL
 obtain ⟨dj,i1,pw,al⟩:=TZ.mid.mp r.2.1
 obtain ⟨t1,s1⟩:=OW r.2.1
 have gi:=g it (mem_mid.mpr (.inl rfl))
 have gAB:Gds (A++B):=fun z hz=>g z (mem_mid.mpr (.inr hz))
 have i2:it.2 (lef (LZ (A++B)) H):=gi.ap i1 (fun b hb hbi=>by obtain ⟨z,hz,hb⟩:=mem_LZ.mp hb;exact dj z hz b hbi hb) (fun b hb xs=>gAB.ok.notup t1 b hb xs)
 have a1:=(r.2.2.mono s1).set (i:=i) (v:=.ref ad) (d:=d) (hdv _ i2)
 rw [Cm (r.1 _ hi)] at a1
 exact ⟨⟨fun z hz=>r.1 z (hrs z hz),t1,a1⟩,fun L' σ' H' n s=>q1 L' σ' H' n (s1.trans s),fun L' v H' n s=>q2 L' v H' n (s1.trans s)⟩
end
section
variable {X:Cx} {a:Expr} {p pos:Pos}
theorem Pm {elts:List Expr} {x1} {tpos:Pos} {ta:TE} (ha:PE X a ta) (hg:Gl X "enumerate") (hm:X.mg "enumerate"=none) (hs:starEach [a] X.env=[(false,eval a X.env)]:=by rfl):
  PI X (.Tuple elts x1 tpos) (.Call (.Name "enumerate" p) [a] [] pos) (fun σ H R=>ta σ H fun v H1=>∃t ys,[v]=[V.ref t]∧SqT X.K H1 t ys∧R (Kf X.K t) H1):=by
 intro pins s σ H R I hta
 refine Call_ (Dr I hg hm boot_enumerate (PyProof.Rows.callWith_type1 (thn (BD ha pa_nil (by rw [hs];rfl) pos pins s σ H (fun vs H1=>∃t ys,vs=[V.ref t]∧SqT X.K H1 t ys∧R (Kf X.K t) H1) I hta) fun us s1 ⟨vs,H1,I1,r1,t,ys,ev,hq,q⟩=>?_) (by rw [hs];rfl) rfl))
 subst ev
 obtain ⟨u1,rfl,ru⟩:=vals1 r1
 cases ru
 obtain ⟨its,rv,ht,_⟩:=I1.tuple hq
 refine Gu (show s1.heap.IsTuple t its.toArray from ht) fun g zt kk=>?_
 obtain ⟨⟨old,he⟩,hit⟩:=id zt
 refine wpAny_pyIter_enum he ?_
 have I2:Inv X pins σ H1 {s1 with heap:=g}:=I1.kept (t':=s1.toks) kk
 have sz:∀n,s1.heap.objs.size≤s1.heap.objs.size + n:=fun n=>Nat.le_add_right _ _
 refine ⟨_,_,_,_,H1,rfl,I2,HV (K:=X.K) (t:=t) (e:=s1.heap.objs.size + 1) (it:=s1.heap.objs.size) (Nat.ne_of_gt (Nat.lt_succ_self _)),zt,fun c hc=>?_,q⟩
 simp only [List.mem_cons,List.not_mem_nil,or_false] at hc
 rcases hc with rfl | rfl
 ·exact I1.fpOk (sz 1) (I1.hok.fresh (sz 1))
 ·exact I1.fpOk (Nat.le_refl _) (I1.hok.fresh (Nat.le_refl _))
end
section
variable {X:Cx} {L:List Addr} {rs:List (Nat×Addr)} {G Gv:Gam} {a:Expr} {ds:List PyData} {j1 j2:Nat} {pos p2 p3 tpos:Pos} {α:Type} {Iv:α→Hp→Prop} {T:α} {Nx:List Addr→St→Hp→Prop} {Rt:List Addr→V→Hp→Prop}
theorem Og {elts:List Expr} {x1} {body sts:List Stmt} (W:Nat→Gam→α→Prop) (ok:∀T,ZOk L (Iv T)) (hp:PassesOwn (model X.prog X.w) X.A X.env X.xe) (hcalm:X.calm=true) (hj:∀q∈rs,q.1∉[j1,j2]) (hg:PG X (.Tuple elts x1 tpos) (gTup X.K 2 (DD [j1,j2]))) (v:Sees X.K L (Iv T) rs G Gv) (ha:EV X Gv a (.tuple ds)) (hnl:noLs ds=true) (hge:Gl X "enumerate") (hme:X.mg "enumerate"=none) (h0:W 0 G T)
  (hs:∀k d G T,ds[k]?=some d→W k G T→PSs X body (zV X.K L (Iv T) rs ((G.set j1 (some (.int (k:Int)))).set j2 (some d)) (fun L' σ' H'=>L'=L∧∃G' T',W (k + 1) G' T'∧RZ X.K L (Iv T') rs G' σ' H') Rt))
  (hd:∀G T,W ds.length G T→PSs X sts (zV X.K L (Iv T) rs G Nx Rt))
  (hsr:starEach [a] X.env=[(false,eval a X.env)]:=by rfl) (hfs:∀y,foldedSetIterable (.Call (.Name "enumerate" p2) [a] [] p3) X.env y=pure y:=by intro _;rfl):
  PSs X (.For (.Tuple elts x1 tpos) (.Call (.Name "enumerate" p2) [a] [] p3) body [] pos::sts) (zV X.K L (Iv T) rs G Nx Rt):=by
 have hbody:PSs X body (fun D σ H=>∃(k:Nat) (d:PyData) (G:Gam) (T:α),ds[k]?=some d∧W k G T∧RZ X.K L (Iv T) rs ((G.set j1 (some (.int (k:Int)))).set j2 (some d)) σ H∧(∀σ' H' G' T',W (k + 1) G' T'→RZ X.K L (Iv T') rs G' σ' H'→Same (lef L H) (lef L H')→D.nx σ' H')∧∀L' v H',Rt L' v H'→Same (lef L H) (lef L' H')→D.rt v H'):=by
  intro pins s σ H D I ⟨k,d,G,T,hk,hW,r,q,q2⟩
  exact hs k d G T hk hW pins s σ H D I ⟨r,fun L' σ' H' ⟨e,G',T',hW',r'⟩ s'=>by subst e;exact q σ' H' G' T' hW' r' s',q2⟩
 have h2:PSs X sts (fun D σ H=>∃(G:Gam) (T:α),W ds.length G T∧zV X.K L (Iv T) rs G Nx Rt D σ H):=fun pins s σ H D I ⟨G,T,hW,q⟩=>hd G T hW pins s σ H D I q
 refine (A7 (IP hp hcalm (Pm ha hge hme hsr) hg hbody hfs) h2).imp fun D σ H ⟨r,q1,q2⟩=>⟨v σ H r,fun w H1 s1 d1=>?_⟩
 have r1:=r.step (ok _) s1
 have dL:DV X.K (lef L H1) w (.tuple ds):=DV.lef ((ok _).notup r1.2.1) d1 (show noL (.tuple ds)=true from hnl)
 obtain ⟨t,ys,rfl,hq,dys⟩:=dL.of_tup
 have hyl:ys.length=ds.length:=dys.length
 refine ⟨t,ys,rfl,lef_same.seqT hq,?_⟩
 refine ⟨fun i m σ2 H2=>m=ds.length - i∧i≤ds.length∧∃G T,W i G T∧RZ X.K L (Iv T) rs G σ2 H2∧Same (lef L H1) (lef L H2),⟨_,rfl,Nat.zero_le _,G,T,h0,r1,Same.refl _⟩,?_⟩
 rintro i m σ2 H2 ⟨rfl,hi,G2,T2,hW,r2,sm⟩
 have hq2:SqT X.K H2 t ys:=lef_same.seqT (sm.seqT hq)
 by_cases hlt:i < ds.length
 ·refine .inr ⟨⟨ys,hq2,by omega⟩,fun σ' H'=>∃G T,W (i + 1) G T∧RZ X.K L (Iv T) rs G σ' H'∧Same (lef L H1) (lef L H'),fun σ' H' hx=>⟨ds.length - (i + 1),by omega,rfl,hlt,hx⟩,fun x H' ⟨r0,y,hr,ev,eH,ey⟩=>?_⟩
  subst ev eH
  have e1:=ey ys hq2
  obtain ⟨d0,e2,e3⟩:=dys.get' e1
  have sn:Same H2 (upd H2 r0 (.tup [.int (i:Int),y])):=Same.new hr
  have r3:=r2.step (ok _) sn
  refine ⟨r0,[.int (i:Int),y],rfl,SqT.of Aw,rfl,?_⟩
  refine Hr (Hb:=lef L (upd H2 r0 (.tup [.int (i:Int),y]))) [j1,j2] [.int (i:Int),d0] [.int (i:Int),y] σ2 G2 _ rfl r3.2.2 (.cons (.int _) (.cons ((e3.mono sm).mono sn.lef) .nil)) fun σ3 h3 hm=>?_
  exact ⟨i,d0,G2,T2,e2,hW,⟨fun q hq=>by rw [hm q.1 (hj q hq)];exact r2.1 q hq,r3.2.1,h3⟩,fun σ4 H4 G4 T4 hW4 r4 s4=>⟨G4,T4,hW4,r4,(sm.trans sn.lef).trans s4⟩,fun L' v H4 n4 s4=>q2 L' v H4 n4 (((s1.lef.trans sm).trans sn.lef).trans s4)⟩
 ·have e:i=ds.length:=by omega
  subst e
  exact .inl ⟨⟨ys,hq2,by omega⟩,G2,T2,hW,r2,fun L' σ' H' n s=>q1 L' σ' H' n ((s1.lef.trans sm).trans s),fun L' v H' n s=>q2 L' v H' n ((s1.lef.trans sm).trans s)⟩
end
section
variable {X:Cx} {L:List Addr} {I I1:Hp→Prop} {rs:List (Nat×Addr)} {G:Gam} {c:Expr} {A sts:List Stmt} {pos:Pos} {Nx:List Addr→St→Hp→Prop} {Rt:List Addr→V→Hp→Prop} {it:Zt}
theorem GX (h:ZTI X L I rs G c true I1) (h1:PSs X A (zV X.K L I1 rs G (fun _ _ _=>False) Rt)):PSs X (.If c A [] pos::sts) (zV X.K L I rs G Nx Rt):=
 (A7 (FB h h1 (Bd (sts:=[]))) (Bd (sts:=sts))).imp fun D σ H ⟨r,q1,q2⟩=>⟨r,fun H' i' s'=>iteT ⟨r.next i' s',fun L2 σ2 H2 n s2=>n.elim,fun L2 v H2 n s2=>q2 L2 v H2 n (s'.trans s2)⟩⟩
theorem C_ (h:ZTI X L I rs G c false I1) (h2:PSs X sts (zV X.K L I1 rs G Nx Rt)):PSs X (.If c A [] pos::sts) (zV X.K L I rs G Nx Rt):=
 (A7 (FB h (Bd (sts:=A)) pss_nil) h2).imp fun D σ H ⟨r,q1,q2⟩=>⟨r,fun H' i' s'=>iteF ⟨r.next i' s',fun L2 σ2 H2 n s2=>q1 L2 σ2 H2 n (s'.trans s2),fun L2 v H2 n s2=>q2 L2 v H2 n (s'.trans s2)⟩⟩
theorem Rl (h:PSs X sts (zV X.K (LZ [it]) (TZ [it]) rs G Nx Rt)):PSs X sts (zV X.K it.1 it.2 rs G Nx Rt):=h.imp fun D σ H ⟨r,q1,q2⟩=>by
 rw [show zV X.K (LZ [it]) (TZ [it]) rs G Nx Rt=zV X.K it.1 (TZ [it]) rs G Nx Rt by rw [Eg]]
 exact ⟨⟨r.1,tz_one.mpr r.2.1,r.2.2⟩,q1,q2⟩
end
section
variable {X:Cx} {L:List Addr} {rs:List (Nat×Addr)} {G Gv:Gam} {c:Expr} {j:Nat} {pos:Pos} {α:Type} {Iv:α→Hp→Prop} {T:α} {Nx:List Addr→St→Hp→Prop} {Rt:List Addr→V→Hp→Prop}
theorem MM {tg:Expr} {body sts:List Stmt} {n:Nat} {p2 p3:Pos} (W:Nat→Gam→α→Prop) (ok:∀T,ZOk L (Iv T)) (hp:PassesOwn (model X.prog X.w) X.A X.env X.xe) (hcalm:X.calm=true) (hj:∀q∈rs,q.1≠j) (hg:PG X tg (C2 j)) (v:Sees X.K L (Iv T) rs G Gv) (hc:EV X Gv c (.int n)) (hn:n < 1000) (hgr:Gl X "range") (hmr:X.mg "range"=none) (h0:W 0 G T)
  (hs:∀k G T,k < n→W k G T→PSs X body (zV X.K L (Iv T) rs (G.set j (some (.int (k:Int)))) (fun L' σ' H'=>L'=L∧∃G' T',W (k + 1) G' T'∧RZ X.K L (Iv T') rs G' σ' H') Rt))
  (hd:∀G T,W n G T→PSs X sts (zV X.K L (Iv T) rs G Nx Rt))
  (hsr:starEach [c] X.env=[(false,eval c X.env)]:=by rfl) (hfs:∀y,foldedSetIterable (.Call (.Name "range" p2) [c] [] p3) X.env y=pure y:=by intro _;rfl):
  PSs X (.For tg (.Call (.Name "range" p2) [c] [] p3) body [] pos::sts) (zV X.K L (Iv T) rs G Nx Rt):=by
 have hbody:PSs X body (fun D σ H=>∃(k:Nat) (G:Gam) (T:α),k < n∧W k G T∧RZ X.K L (Iv T) rs (G.set j (some (.int (k:Int)))) σ H∧(∀σ' H' G' T',W (k + 1) G' T'→RZ X.K L (Iv T') rs G' σ' H'→Same (lef L H) (lef L H')→D.nx σ' H')∧∀L' v H',Rt L' v H'→Same (lef L H) (lef L' H')→D.rt v H'):=by
  intro pins s σ H D I ⟨k,G,T,hk,hW,r,q,q2⟩
  exact hs k G T hk hW pins s σ H D I ⟨r,fun L' σ' H' ⟨e,G',T',hW',r'⟩ s'=>by subst e;exact q σ' H' G' T' hW' r' s',q2⟩
 have h2:PSs X sts (fun D σ H=>∃(G:Gam) (T:α),W n G T∧zV X.K L (Iv T) rs G Nx Rt D σ H):=fun pins s σ H D I ⟨G,T,hW,q⟩=>hd G T hW pins s σ H D I q
 refine (A7 (IP hp hcalm (Ff hgr hmr (Aa hc Ad hsr) hsr) hg hbody hfs) h2).imp fun D σ H ⟨r,q1,q2⟩=>⟨v σ H r,fun vs H1 s1 d1=>?_⟩
 obtain ⟨v1,rfl,dv1⟩:=d1.one
 refine ⟨n,by rw [dv1.of_int],by omega,by omega,?_⟩
 rw [Int.toNat_natCast]
 have r1:=r.step (ok _) s1
 refine HB (lo:=0) (n:=n) (g:=C2 j) (tb:=fun D σ H=>∃(k:Nat) (G:Gam) (T:α),k < n∧W k G T∧RZ X.K L (Iv T) rs (G.set j (some (.int (k:Int)))) σ H∧(∀σ' H' G' T',W (k + 1) G' T'→RZ X.K L (Iv T') rs G' σ' H'→Same (lef L H) (lef L H')→D.nx σ' H')∧∀L' v H',Rt L' v H'→Same (lef L H) (lef L' H')→D.rt v H')
  (fun k σ2 H2=>∃G T,W k G T∧RZ X.K L (Iv T) rs G σ2 H2∧Same (lef L H1) (lef L H2)) ⟨G,T,h0,r1,Same.refl _⟩ (fun k σ2 H2 hk ⟨G2,T2,hW,r2,sm⟩=>?_) (fun σ2 H2 ⟨G2,T2,hW,r2,sm⟩=>?_)
 ·refine ⟨k,G2,T2,hk,hW,⟨fun z hz=>?_,r2.2.1,?_⟩,fun σ3 H3 G3 T3 hW3 r3 s3=>⟨G3,T3,hW3,r3,sm.trans s3⟩,fun L' v H3 n3 s3=>q2 L' v H3 n3 ((s1.lef.trans sm).trans s3)⟩
  ·rw [List.getElem?_set_ne (hj z hz).symm]
   exact r2.1 z hz
  ·rw [Int.zero_add];exact r2.2.2.set (.int _)
 ·exact ⟨G2,T2,hW,r2,fun L' σ' H3 n3 s3=>q1 L' σ' H3 n3 ((s1.lef.trans sm).trans s3),fun L' v H3 n3 s3=>q2 L' v H3 n3 ((s1.lef.trans sm).trans s3)⟩
end
def spYD (K:PySem.W.Frag) (C:Addr) (F:LF→DF→List PyData→PyData→LF→DF→Prop):Sp:=fun vs H Q _=>∃(R:OR) (lf:LF) (df:DF) (ds:List PyData) (d:PyData) (lf':LF) (df':DF) (vr:List V),R.C=C∧vs=.ref R.a::vr∧Oz K R lf df H∧DVs K (lef R.L H) vr ds∧F lf df ds d lf' df'∧
 ∀v R' H',R'.C=C→R'.a=R.a→Oz K R' lf' df' H'→Same (lef R.L H) (lef R'.L H')→DV K (lef R'.L H') v d→Q v H'
def YDFn (P:Program) (w:World) (K:PySem.W.Frag) (mg:Str→Option Value) (base:Heap) (k:Nat) (C:Addr) (x:Str) (F:LF→DF→List PyData→PyData→LF→DF→Prop):Prop:=
 ∃f fd ps,FnOk P w K mg base CX0 k f fd ps (spYD K C F)∧mg x=some (.ref f)∧PySem.W.keepIn K (.ref f)=true∧Binds K fd ps []
abbrev RtY (K:PySem.W.Frag) (C a:Addr) (lf':LF) (df':DF) (d:PyData):List Addr→V→Hp→Prop:=fun L' v H'=>∃R':OR,(R'.C=C∧R'.a=a)∧L'=R'.L∧Oz K R' lf' df' H'∧DV K (lef R'.L H') v d
structure FunD (K:PySem.W.Frag) (items:Array Value) (x qual:Str) (st:Stmt) (f:Addr) (fd:FuncData):Prop where
 ex:∃(oc:Value) (od:Option Addr) (T:Addr) (n:Nat) (to:Obj) (kV doc pm:Value) (an:Option Addr) (cdv ct:Value) (osl:Array (Option Value)),
  fd=PySem.W.fnOf x qual (Ca st) (AM st) (Ai st) (.ref T) kV doc pm an cdv ct∧K.lookup f=some ⟨oc,od,.func fd,osl⟩∧PySem.W.codeIn K cdv qual=true∧K.lookup T=some to∧to.data=.seq items n
 kp:PySem.W.keepIn K (.ref f)=true
section
variable {P:Program} {w:World} {K:PySem.W.Frag} {mg:Str→Option Value} {base:Heap}
theorem FunD.ok {items:Array Value} {x qual:Str} {st:Stmt} {f:Addr} {fd:FuncData} {N ps:List Str} {k:Nat} {sp:Sp} (F:FunD K items x qual st f fd) (S:FnScope N ps (Ai st)) (len:∀vs H Q E,sp vs H Q E→vs.length=ps.length)
  (hbody:∀(cdv:Value) (A:Around) (outer:List Env) (s:Shared) (H:Hp) (vs:List V) (Q:VK) (E:XK),Room k (A.deeper (envOfC qual (Ai st) s.heap.objs.size f cdv))→sp vs H Q E→
   ∃t,PSs (cxOf CX0 P w K mg base N qual (Ai st) f cdv A outer s H E).nox (AM st) t∧t {nx:=fun _ H'=>Q .non H',rt:=Q} (start N vs) H):FnOk P w K mg base CX0 (k + 1) f fd ps sp:=by
 obtain ⟨oc,od,T,n,to,kV,doc,pm,an,cdv,ct,osl,rfl,lk,hcd,lt,ld⟩:=F.ex
 refine P_ lk hcd S len fun A outer s H vs Q E hr hsp=>?_
 obtain ⟨t,h,q⟩:=hbody cdv A outer s H vs Q E hr hsp
 exact ⟨t,h.nox,q⟩
theorem FunD.binds {items:Array Value} {x qual:Str} {st:Stmt} {f:Addr} {fd:FuncData} {ps:List Str} (F:FunD K items x qual st f fd)
  (h:∀(T:Addr) (kV doc pm:Value) (an:Option Addr) (cdv ct:Value) (us:List Value),us.length=ps.length→∃kk:Option (Array Value)→Sem (List (Str×Value)),bindArgs (PySem.W.fnOf x qual (Ca st) (AM st) (Ai st) (.ref T) kV doc pm an cdv ct) ⟨us,[]⟩=seqItems? (.ref T) >>=kk∧kk (some items)=pure (ps.zip us)):Binds K fd ps []:=by
 obtain ⟨oc,od,T,n,to,kV,doc,pm,an,cdv,ct,osl,rfl,lk,hcd,lt,ld⟩:=F.ex
 intro s us KX hl
 rw [List.append_nil] at hl ⊢
 obtain ⟨kk,h1,h2⟩:=h T kV doc pm an cdv ct us hl
 exact PySem.W.binds_K KX rfl lt ld h1 h2
theorem ydOk {f:Addr} {fd:FuncData} {n0 x qual:Str} {st:Stmt} {N ps:List Str} {k:Nat} {C:Addr} {F:LF→DF→List PyData→PyData→LF→DF→Prop}
  (mk:∀{sp:Sp},(∀vs H Q E,sp vs H Q E→vs.length=ps.length)→(∀(cdv:Value) (A:Around) (outer:List Env) (s:Shared) (H:Hp) (vs:List V) (Q:VK) (E:XK),Room k (A.deeper (envOfC qual (Ai st) s.heap.objs.size f cdv))→sp vs H Q E→
   ∃t,PSs (cxOf CX0 P w K mg base (n0::N) qual (Ai st) f cdv A outer s H E).nox (AM st) t∧t {nx:=fun _ H'=>Q .non H',rt:=Q} (start (n0::N) vs) H)→FnOk P w K mg base CX0 (k + 1) f fd ps sp)
  (hm:mg x=some (.ref f)) (hk:PySem.W.keepIn K (.ref f)=true) (hb:Binds K fd ps []) (len:∀lf df ds d lf' df',F lf df ds d lf' df'→ds.length + 1=ps.length)
  (hbody:∀(cdv:Value) (A:Around) (outer:List Env) (s:Shared) (H:Hp) (E:XK) (R:OR) (lf:LF) (df:DF) (ds:List PyData) (d:PyData) (lf':LF) (df':DF),Room k (A.deeper (envOfC qual (Ai st) s.heap.objs.size f cdv))→R.C=C→F lf df ds d lf' df'→
   PSs (cxOf CX0 P w K mg base (n0::N) qual (Ai st) f cdv A outer s H E).nox (AM st) (zV K R.L (Oz K R lf df) [(0,R.a)] (none::Bm N ds) (fun _ _ _=>False) (RtY K C R.a lf' df' d))):YDFn P w K mg base (k + 1) C x F:=by
 refine ⟨f,fd,ps,mk (fun vs H Q E ⟨R,lf,df,ds,d,lf',df',vr,_,e,_,dv,hF,_⟩=>by rw [e,List.length_cons,dv.length];exact len lf df ds d lf' df' hF) (fun cdv A outer s H vs Q E hr ⟨R,lf,df,ds,d,lf',df',vr,hC,e,tb,dv,hF,q⟩=>?_),hm,hk,hb⟩
 subst e
 refine ⟨_,hbody cdv A outer s H E R lf df ds d lf' df' hr hC hF,⟨fun z hz=>?_,tb,?_⟩,fun _ _ _ f=>f.elim,fun L' v H' ⟨R',⟨h1,h2⟩,e,o,dv⟩ s'=>by subst e;exact q v R' H' h1 h2 o s' dv⟩
 ·have:=List.mem_singleton.mp hz
  subst this
  rw [Bx]
  rfl
 ·rw [Bx];exact (SD.start dv).cons0 _
end
def tYV (K:PySem.W.Frag) (A B:List Zt) (R:OR) (rs:List (Nat×Addr)) (G:Gam) (lf:LF) (df:DF) (lf':LF) (df':DF) (d:PyData):TE:=fun σ H Q=>RZ K (LZ (A++(R.L,Oz K R lf df)::B)) (TZ (A++(R.L,Oz K R lf df)::B)) rs G σ H∧∀v R' H',R'.C=R.C→R'.a=R.a→TZ (A++(R'.L,Oz K R' lf' df')::B) H'→Same (lef (LZ (A++(R.L,Oz K R lf df)::B)) H) (lef (LZ (A++(R'.L,Oz K R' lf' df')::B)) H')→DV K (lef (LZ (A++(R'.L,Oz K R' lf' df')::B)) H') v d→Q v H'
section
variable {X:Cx} {A B:List Zt} {rs:List (Nat×Addr)} {G G':Gam} {e b c:Expr} {es:List Expr} {d:PyData} {ds:List PyData} {i j k:Nat} {x y f:Str} {pos pos2 p1 p2 p3 p4:Pos} {sts:List Stmt} {lf lf':LF} {df df':DF} {R:OR} {Nx:List Addr→St→Hp→Prop} {Rt:List Addr→V→Hp→Prop}
theorem Dm {F:LF→DF→List PyData→PyData→LF→DF→Prop} (g:Gds (A++(R.L,Oz X.K R lf df)::B)) (g':∀R':OR,Gds (A++(R'.L,Oz X.K R' lf' df')::B)) (D:YDFn X.prog X.w X.K X.mg X.base k R.C f F) (hr:Room k X.A) (hg:Gl X f) (hi:(i,R.a)∈rs) (hv:PE X (.Name x pos2) (tVar i)) (ha:ZA X (LZ (A++(R.L,Oz X.K R lf df)::B)) (TZ (A++(R.L,Oz X.K R lf df)::B)) rs G es ds (TZ (A++(R.L,Oz X.K R lf df)::B))) (hF:F lf df ds d lf' df') (hnd:noL d=true) (hdb:(f==("__debug__":Str))=false:=by decide)
  (he:starEach (.Name x pos2::es) X.env=(false,eval (.Name x pos2) X.env)::starEach es X.env:=by rfl) (hpl:(backTo pos (starEach es X.env)).any (·.1)=false:=by rfl):PE X (.Call (.Name f p1) (.Name x pos2::es) [] pos) (tYV X.K A B R rs G lf df lf' df' d):=by
 obtain ⟨fa,fd,ps,ok,hm,hk,hb⟩:=D
 refine (DW (E:=E0) (dvs:=[]) (ds:=[]) ok hr hg hm hk hb .nil CK (BD hv ha he) hdb he hpl).imp fun σ H Q ⟨r,q⟩=>⟨.ref R.a,r.1 _ hi,r,fun vs H1 t1 s1 dvs=>?_⟩
 have i1:Oz X.K R lf df H1:=(TZ.mid.mp t1).2.1
 have hsub:∀b∈R.L,b∈LZ (A++(R.L,Oz X.K R lf df)::B):=fun b hb=>mem_LZ.mpr ⟨(R.L,Oz X.K R lf df),mem_mid.mpr (.inl rfl),hb⟩
 show spYD X.K R.C F ((.ref R.a::vs)++[]) H1 Q E0
 rw [List.append_nil]
 refine ⟨R,lf,df,ds,d,lf',df',vs,rfl,rfl,i1,dvs.mono (Ip hsub),hF,fun v R' H2 hC ha' i2 s2 dv=>?_⟩
 obtain ⟨t',s'⟩:=LO (it:=(R.L,Oz X.K R lf df)) (it':=(R'.L,Oz X.K R' lf' df')) g t1 s2 i2
 exact q v R' H2 hC ha' t' (s1.trans s') (DV.lef ((g' R').ok.notup t') (dv.mono lef_same) hnd)
theorem Po (hN:X.N.Nodup) (hj:X.N[j]?=some y) (hj0:j∉rs.map (·.1)) (hy:Loc X.env.scope y) (h:PE X e (tYV X.K A B R rs G lf df lf' df' d))
  (hs:swapsWith e (some (.Name y p1)) p4.line X.env=pure false:=by rfl)
  (hfn:X.fn y=true∨X.env.scope.names.lookup y=some .local:=by first | exact .inl rfl | exact .inr rfl | assumption):
  PS X (.Assign [.Name y p1] e p4) (zV X.K (LZ (A++(R.L,Oz X.K R lf df)::B)) (TZ (A++(R.L,Oz X.K R lf df)::B)) rs G (fun L' σ' H'=>∃R':OR,(R'.C=R.C∧R'.a=R.a)∧L'=LZ (A++(R'.L,Oz X.K R' lf' df')::B)∧RZ X.K (LZ (A++(R'.L,Oz X.K R' lf' df')::B)) (TZ (A++(R'.L,Oz X.K R' lf' df')::B)) rs (G.set j (some d)) σ' H') noRt):=
 (Cw hN hj hy h hs hfn).imp fun D σ H ⟨r,q1,_⟩=>⟨r,fun v R' H' hC ha t' s' dv=>q1 _ _ _ ⟨R',⟨hC,ha⟩,rfl,fun z hz=>by
  rw [List.getElem?_set_ne fun w=>hj0 (List.mem_map.mpr ⟨z,hz,w.symm⟩)]
  exact r.1 z hz,t',(r.2.2.mono s').set dv⟩ s'⟩
theorem GH {e1 e3:Expr} {d1 d3:PyData} {kt} {pt:Pos} (g:Gds (A++(R.L,Oz X.K R lf df)::B)) (g':∀R':OR,Gds (A++(R'.L,Oz X.K R' lf' df')::B)) (h1:EV X G e1 d1) (n1:noL d1=true) (h2:PE X e (tYV X.K A B R rs G lf df lf' df' d)) (h3:EV X G e3 d3) (n3:noL d3=true)
  (hB:∀v R' H',R'.C=R.C→R'.a=R.a→TZ (A++(R'.L,Oz X.K R' lf' df')::B) H'→DV X.K (lef (LZ (A++(R'.L,Oz X.K R' lf' df')::B)) H') v (.tuple [d1,d,d3])→∃L',Rt L' v H'∧Same (lef (LZ (A++(R'.L,Oz X.K R' lf' df')::B)) H') (lef L' H'))
  (hs1:starEach [e1,e,e3] X.env=(false,eval e1 X.env)::starEach [e,e3] X.env:=by rfl) (hs2:starEach [e,e3] X.env=(false,eval e X.env)::starEach [e3] X.env:=by rfl) (hs3:starEach [e3] X.env=(false,eval e3 X.env)::starEach [] X.env:=by rfl):
  PSs X (.Return (some (.Tuple [e1,e,e3] kt pt)) pos::sts) (zV X.K (LZ (A++(R.L,Oz X.K R lf df)::B)) (TZ (A++(R.L,Oz X.K R lf df)::B)) rs G Nx Rt):=by
 refine (A7 (Fl (NA (BD h1 (BD h2 (BD h3 pa_nil hs3) hs2) hs1))) (Bd (sts:=sts))).imp fun D σ H ⟨r,_,q⟩=>⟨r.sd,fun v1 H1 s1 dv1=>?_⟩
 have r1:=r.step g.ok s1
 refine ⟨r1,fun v2 R' H2 hC ha t2 s2 dv2=>⟨(r1.2.2.mono s2).mono lef_same,fun v3 H3 s3 dv3=>⟨by rw [sizeLine_eq];show 3≤16777216;decide,fun p hp=>?_⟩⟩⟩
 have ok':=(g' R').ok
 have t3:=ok'.step t2 s3
 have sn:Same H3 (upd H3 p (.tup [v1,v2,v3])):=Same.new hp
 have hpl:p∉LZ (A++(R'.L,Oz X.K R' lf' df')::B):=ok'.free t3 hp
 have e1':=((DV.lef (g.ok.notup r1.2.1) dv1 n1).mono s2).mono s3.lef
 have e2':=dv2.mono s3.lef
 have e3':=DV.lef (ok'.notup t3) dv3 n3
 obtain ⟨L',hR,sL⟩:=hB (.ref p) R' _ hC ha (ok'.step t3 sn) (.tup (.inl (.inl (by rw [Ax hpl];exact Aw))) (.cons (e1'.mono sn.lef) (.cons (e2'.mono sn.lef) (.cons (e3'.mono sn.lef) .nil))))
 exact q L' _ _ hR ((((s1.lef.trans s2).trans s3.lef).trans sn.lef).trans sL)
theorem Qu {A0:List Stmt} {d2:PyData} {pc pb:Pos} (g':∀R':OR,Gds (A++(R'.L,Oz X.K R' lf' df')::B)) (h:PE X e (tYV X.K A B R rs G lf df lf' df' d)) (hb:EV X G b d2) (ho:OD X (compareOp .NotEq) d d2 (.bool false)) (hm:behindInMarks .NotEq b=false) (hc:∀R':OR,R'.C=R.C→R'.a=R.a→ZT X (LZ (A++(R'.L,Oz X.K R' lf' df')::B)) (TZ (A++(R'.L,Oz X.K R' lf' df')::B)) rs G c false) (h2:∀R':OR,R'.C=R.C→R'.a=R.a→PSs X sts (zV X.K (LZ (A++(R'.L,Oz X.K R' lf' df')::B)) (TZ (A++(R'.L,Oz X.K R' lf' df')::B)) rs G Nx Rt)):
  PSs X (.If (.BoolOp .Or [.Compare e [.NotEq] [b] pc,c] pb) A0 [] pos::sts) (zV X.K (LZ (A++(R.L,Oz X.K R lf df)::B)) (TZ (A++(R.L,Oz X.K R lf df)::B)) rs G Nx Rt):=by
 have hc':PT X c (fun σ H Q=>∃R':OR,(R'.C=R.C∧R'.a=R.a)∧zT X.K (LZ (A++(R'.L,Oz X.K R' lf' df')::B)) (TZ (A++(R'.L,Oz X.K R' lf' df')::B)) rs G false σ H Q):=fun pins s σ H Q I ⟨R',hR,q⟩=>hc R' hR.1 hR.2 pins s σ H Q I q
 have h2':PSs X sts (fun D σ H=>∃R':OR,(R'.C=R.C∧R'.a=R.a)∧zV X.K (LZ (A++(R'.L,Oz X.K R' lf' df')::B)) (TZ (A++(R'.L,Oz X.K R' lf' df')::B)) rs G Nx Rt D σ H):=fun pins s σ H D I ⟨R',hR,q⟩=>h2 R' hR.1 hR.2 pins s σ H D I q
 refine (A7 (FB (PZ (Ix ho h hb hm) (O7 hc')).pt (Bd (sts:=A0)) pss_nil) h2').imp fun D σ H ⟨r,q1,q2⟩=>⟨r,fun v R' H2 hC ha t2 s2 dv2=>?_⟩
 have ok':=(g' R').ok
 have r2:RZ X.K (LZ (A++(R'.L,Oz X.K R' lf' df')::B)) (TZ (A++(R'.L,Oz X.K R' lf' df')::B)) rs G σ H2:=⟨r.1,t2,r.2.2.mono s2⟩
 refine ⟨r2.sd,fun u H3 s3 dv3=>⟨(dv2.mono lef_same).mono s3,dv3,fun w H4 s4 dw=>⟨false,dw.of_bl,?_⟩⟩⟩
 have r4:=(r2.step ok' s3).step ok' s4
 have sT:=(s2.trans s3.lef).trans s4.lef
 simp only [Bool.false_eq_true,if_false]
 refine ⟨R',⟨hC,ha⟩,r4,fun H5 r5 s5=>?_⟩
 refine iteF ⟨R',⟨hC,ha⟩,r5,fun L' σ' H' n s=>q1 L' σ' H' n ((sT.trans s5).trans s),fun L' v H' n s=>q2 L' v H' n ((sT.trans s5).trans s)⟩
end
section
variable {X:Cx} {R:OR} {lf lf':LF} {df df':DF} {G:Gam} {i:Nat} {st:Stmt}
theorem Sd (h:PS X st (yN X.K R.C (some R.a) i G lf df G lf' df')):PS X st (zV X.K R.L (Oz X.K R lf df) [(i,R.a)] G (fun L' σ' H'=>∃R':OR,(R'.C=R.C∧R'.a=R.a)∧L'=R'.L∧RZ X.K R'.L (Oz X.K R' lf' df') [(i,R.a)] G σ' H') noRt):=h.imp fun D σ H ⟨r,q1,_⟩=>⟨R,⟨⟨rfl,fun _ z=>by cases z;rfl⟩,r⟩,fun R' σ' H' y s'=>by
 have ea:=y.1.2 _ rfl
 exact q1 _ σ' H' ⟨R',⟨y.1.1,ea⟩,rfl,by rw [←ea];exact y.2⟩ s'⟩
end
section
variable {X:Cx} {L:List Addr} {I:Hp→Prop} {rs:List (Nat×Addr)} {G:Gam} {elt iter target:Expr} {ifs:List Expr} {pos:Pos} {N:List Str} {ix:List Nat} {scope:Scope}
theorem Kx {α:Type} {as:List α} {D:α→PyData} {k i:Nat} {x:Str} {pos' spos:Pos} {g:TG} {B:PyData→Gam→Gam} (fz:ZF L I) (hi0:i∉rs.map (·.1)) (Pd:α→Bool) (F:α→PyData) (hcalm:X.calm=true) (hN:X.N.Nodup) (hx0:X.N[i]?=some x) (hx:X.env.scope.names.lookup x=some .local)
  (hc:Cj X.env.scope X.N k ix N scope) (og:OwnG k g) (hi:IV X G target iter (as.map D)) (hz:as.length≤sizeLine)
  (hb:∀a∈as,BindD X.K k g B (D a)) (hg:∀cl C s H fp,PG (AH X scope cl C N s H fp) target g)
  (ht:∀a∈as,∀cl C s H fp,PF (AH X scope cl C N s H fp) ifs (tDT X.K (B (D a) (List.replicate k none++outG ix G)) (Pd a)))
  (he:∀a∈as,Pd a=true→∀cl C s H fp,EV (AH X scope cl C N s H fp) (B (D a) (List.replicate k none++outG ix G)) elt (F a))
  (hsw:swapsWith (.ListComp elt [⟨target,iter,ifs,0⟩] scope pos) (some (.Name x pos')) spos.line X.env=pure true:=by rfl)
  (hs:∀x,foldedSetIterable iter X.env x=pure x:=by intro _;rfl):PS X (.Assign [.Name x pos'] (.ListComp elt [⟨target,iter,ifs,0⟩] scope pos) spos) (zN X.K L I rs G (G.set i (some (.list ((as.filter Pd).map F)))) I):=by
 refine (ME L (GO hcalm hN hx0 hx hc og hi (fun cl C s H fp=>⟨hg cl C s H fp,PF.ex (t:=fun a=>tDT X.K (B (D a) (List.replicate k none++outG ix G)) (Pd a)) (p:=fun a=>a∈as) fun d hd=>ht d hd cl C s H fp,PE.ex (t:=fun a=>tD X.K (B (D a) (List.replicate k none++outG ix G)) (F a)) (p:=fun a=>a∈as∧Pd a=true) fun d hd=>he d hd.1 hd.2 cl C s H fp⟩) hsw hs)).imp fun Dn σ H ⟨r,q⟩=>⟨fz.fo _ r.2.1,r.2.2,fun J H1 s1 hJ=>?_⟩
 refine FX X.K Pd F hz og hb (r.2.2.mono s1) hJ fun ys H2 s2 dy D hD=>?_
 have s3:Same (lef L H) (upd H2 D (.lst ys)):=(s1.trans s2).trans (Same.new (o:=.lst ys) hD)
 intro n
 refine q _ _ ⟨fun z hz=>?_,fz.join _ _ r.2.1 n s3,?_⟩ ?_
 ·rw [List.getElem?_set_ne fun w=>hi0 (List.mem_map.mpr ⟨z,hz,w.symm⟩)]
  exact r.1 z hz
 ·rw [BJ n];exact (r.2.2.mono s3).set (.lst (SqL.of Aw) (dy.mono (Same.new hD)))
 ·rw [BJ n];exact s3
end
section
variable {X:Cx} {its:List Zt} {L:List Addr} {I:Hp→Prop} {rs:List (Nat×Addr)} {G G':Gam} {β:Type} {P:β→Prop} {Lo:β→List Addr} {Io:β→Hp→Prop} {ad:β→Addr} {e:Expr} {es:List Expr} {d:PyData} {ds:List PyData} {C:Addr} {j k:Nat} {y f:Str} {pos p1 p4:Pos} {lf:LF} {df:DF}
theorem FE {F:List PyData→LF→DF→Prop} (v:Sees X.K L I rs G G') (D:NFn X.prog X.w X.K X.mg X.base k C f F) (hr:Room k X.A) (hg:Gl X f) (ha:AV X G' (e::es) ds) (hF:F ds lf df) (hdb:(f==("__debug__":Str))=false:=by decide)
  (he:starEach (e::es) X.env=(false,eval e X.env)::starEach es X.env:=by rfl) (hpl:(backTo pos (starEach es X.env)).any (·.1)=false:=by rfl):PE X (.Call (.Name f p1) (e::es) [] pos) (tNeu X.K L I rs G (fun R:OR=>R.C=C) OR.L (fun R=>Oz X.K R lf df) OR.a):=by
 obtain ⟨fa,fd,ps,ok,hm,hk,hb⟩:=D
 refine (DW (E:=E0) (dvs:=[]) (ds:=[]) ok hr hg hm hk hb .nil CK ha hdb he hpl).imp fun σ H Q ⟨r,q⟩=>⟨v σ H r,fun vs H1 s1 dvs=>?_⟩
 show spM X.K C F (vs++[]) H1 Q E0
 rw [List.append_nil]
 exact ⟨ds,lf,df,dvs,hF,fun R' H' hC i s=>q R' H' hC i (s1.trans s)⟩
theorem L4 (g:Gds its) (hN:X.N.Nodup) (hj:X.N[j]?=some y) (hj0:j∉rs.map (·.1)) (hy:Loc X.env.scope y) (hG:G[j]?=some none) (h:PE X e (tNeu X.K (LZ its) (TZ its) rs G P Lo Io ad))
  (hs:swapsWith e (some (.Name y p1)) p4.line X.env=pure false:=by rfl)
  (hfn:X.fn y=true∨X.env.scope.names.lookup y=some .local:=by first | exact .inl rfl | exact .inr rfl | assumption):
  PS X (.Assign [.Name y p1] e p4) (zV X.K (LZ its) (TZ its) rs G (fun L' σ' H'=>∃q:β,P q∧L'=LZ (its++[(Lo q,Io q)])∧RZ X.K (LZ (its++[(Lo q,Io q)])) (TZ (its++[(Lo q,Io q)])) ((j,ad q)::rs) G σ' H') noRt):=by
 refine (Cw hN hj hy h hs hfn).imp fun D σ H ⟨r,q,_⟩=>⟨r,fun w H1 hw iw s1=>?_⟩
 obtain ⟨t1,s1'⟩:=O4 (A:=its) (B:=[]) (it':=(Lo w,Io w)) (by rw [List.append_nil];exact g) (by rw [List.append_nil];exact r.2.1) s1 iw
 rw [List.append_nil] at s1'
 refine q _ _ _ ⟨w,hw,rfl,fun z hz=>?_,t1,Ir (r.2.2.mono s1') hG⟩ s1'
 rcases List.mem_cons.mp hz with e | hz
 ·subst e
  exact List.getElem?_set_self (by rw [r.2.2.1];exact (List.getElem?_eq_some_iff.mp hG).1)
 ·rw [List.getElem?_set_ne fun w=>hj0 (List.mem_map.mpr ⟨z,hz,w.symm⟩)]
  exact r.1 z hz
theorem R9 (fz:ZF L I) (h:EV X G e d):ZE X L I rs G e d I:=
 (LW L h).imp fun σ H Q ⟨r,q⟩=>⟨fz.fo _ r.2.1,r.2.2,fun v H' s' dv n=>q v _ (fz.join _ _ r.2.1 n s') (by rw [BJ n];exact s') (by rw [BJ n];exact dv)⟩
end
def tRN (K:PySem.W.Frag) (G:Gam) (R:List PyData→Prop):TS:=fun D σ H=>SD K H σ G∧∀ds p us H1,R ds→Same H H1→H1 p=none→DVs K H1 us ds→D.rt (.ref p) (upd H1 p (.lst us))
def tHN (K:PySem.W.Frag) (H0:Hp) (p:Addr) (i:Nat) (Pre:Gam→List PyData→Prop) (R:List PyData→Prop):TS:=fun D σ H=>(∃G ds,Pre G ds∧OSt K H0 p i G ds σ H)∧∀ds q us H1,R ds→Same H0 H1→H1 q=none→DVs K H1 us ds→D.rt (.ref q) (upd H1 q (.lst us))
section
variable {X:Cx} {H0:Hp} {p:Addr} {i:Nat} {Pre Mid:Gam→List PyData→Prop} {R:List PyData→Prop} {G:Gam} {x:Str} {pos pos' pos2:Pos} {es:List Expr} {ds:List PyData}
theorem Gf {st:Stmt} {sts:List Stmt} {G1:Gam} (h1:SV X G st (.next G1)) (h2:PSs X sts (tRN X.K G1 R)):PSs X (st::sts) (tRN X.K G R):=
 (A7 h1 h2).imp fun D σ H ⟨h,q⟩=>⟨h,fun σ' H' s' h'=>⟨h',fun d p us H2 r s2 hp dv=>q d p us H2 r (s'.trans s2) hp dv⟩⟩
theorem Ro {sts:List Stmt} (h:AV X G es ds) (hz:ds.length≤sizeLine) (hR:R ds):PSs X (.Return (some (.List es pos2)) pos::sts) (tRN X.K G R):=
 (A7 (Fl (G5 h)) (Bd (sts:=sts))).imp fun D σ H ⟨h,q⟩=>⟨h,fun vs H1 s1 d1=>⟨by rw [d1.length];exact hz,fun p hp=>q ds p vs H1 hR s1 hp d1⟩⟩
theorem LK {st:Stmt} {sts:List Stmt} (h1:HT1 X H0 p i Pre st Mid) (h2:PSs X sts (tHN X.K H0 p i Mid R)):PSs X (st::sts) (tHN X.K H0 p i Pre R):=
 (A7 h1 h2).imp fun D σ H ⟨a,q⟩=>⟨a,fun σ' H' G ds m o=>⟨⟨G,ds,m,o⟩,q⟩⟩
theorem Ol {sts:List Stmt} (h:∀G ds,Pre G ds→PSs X sts (tRN X.K (Fy G i ds) R)):PSs X sts (tHN X.K H0 p i Pre R):=by
 intro pins s σ H D I ⟨⟨G,ds,a,o⟩,q⟩
 refine h G ds a pins s σ H D I ⟨o.sd,fun d p us H1 r s' hp dv=>q d p us H1 r ?_ hp dv⟩
 obtain ⟨Hb,vs,rfl,hn,s0,_⟩:=o
 exact (s0.trans (Same.new hn)).trans s'
theorem NG {sts:List Stmt} (hN:X.N.Nodup) (hi:X.N[i]?=some x) (hx:Loc X.env.scope x) (hG:i < G.length) (h:∀H0 p,PSs X sts (tHN X.K H0 p i (fun G' ds=>G'=G.set i none∧ds=[]) R))
  (hs:swapsWith (.List [] pos2) (some (.Name x pos')) pos.line X.env=pure false:=by rfl) (hf:X.fn x=true∨X.env.scope.names.lookup x=some .local:=by first | exact .inl rfl | exact .inr rfl | assumption):
  PSs X (.Assign [.Name x pos'] (.List [] pos2) pos::sts) (tRN X.K G R):=by
 intro pins s σ H D I ⟨hσ,q⟩
 have h2:PSs X sts (fun D σ H=>∃hp:Hp×Addr,tHN X.K hp.1 hp.2 i (fun G' ds=>G'=G.set i none∧ds=[]) R D σ H):=fun pins s σ H D I ⟨hp,q⟩=>h hp.1 hp.2 pins s σ H D I q
 refine A7 (Cw hN hi hx (G5 pa_nil) hs hf) h2 pins s σ H D I ⟨Nat.zero_le _,fun p hp=>⟨(H,p),⟨_,[],⟨rfl,rfl⟩,H,[],rfl,hp,Same.refl _,⟨by rw [List.length_set,List.length_set,hσ.1],fun j d e=>?_⟩,List.getElem?_set_self (by rw [hσ.1];exact hG),.nil⟩,fun d p us H' r s' hp dv=>q d p us H' r s' hp dv⟩⟩
 by_cases hj:i=j
 ·subst hj
  rw [List.getElem?_set_self hG] at e
  cases e
 ·rw [List.getElem?_set_ne hj] at e ⊢
  exact hσ.2 j d e
end
def spNL (K:PySem.W.Frag) (F:List PyData→List PyData→Prop) (pre:List PyData→Prop):Sp:=fun vs H Q _=>∃ds,DVs K H vs ds∧pre ds∧∀ws p us H1,F ds ws→Same H H1→H1 p=none→DVs K H1 us ws→Q (.ref p) (upd H1 p (.lst us))
def RNFn (P:Program) (w:World) (K:PySem.W.Frag) (mg:Str→Option Value) (base:Heap) (k:Nat) (x:Str) (F:List PyData→List PyData→Prop) (pre:List PyData→Prop):Prop:=
 ∃f fd ps,FnOk P w K mg base CX0 k f fd ps (spNL K F pre)∧mg x=some (.ref f)∧PySem.W.keepIn K (.ref f)=true∧Binds K fd ps []
section
variable {P:Program} {w:World} {K:PySem.W.Frag} {mg:Str→Option Value} {base:Heap}
theorem Fun.dataRN {x qual:Str} {st:Stmt} {f:Addr} {fd:FuncData} {N ps:List Str} {k:Nat} {F:List PyData→List PyData→Prop} {pre:List PyData→Prop} (F0:Fun K x qual st f fd) (hm:mg x=some (.ref f)) (hb:Binds K fd ps []) (S:FnScope N ps (Ai st)) (len:∀ds,pre ds→ds.length=ps.length)
  (hbody:∀(cdv:Value) (A:Around) (outer:List Env) (s:Shared) (H:Hp) (E:XK) (ds:List PyData),Room k (A.deeper (envOfC qual (Ai st) s.heap.objs.size f cdv))→pre ds→
   PSs (cxOf CX0 P w K mg base N qual (Ai st) f cdv A outer s H E).nox (AM st) (tRN K (Bm N ds) (F ds))):RNFn P w K mg base (k + 1) x F pre:=by
 refine ⟨f,fd,ps,F0.ok S (fun vs H Q E ⟨ds,h1,h2,_⟩=>h1.length.trans (len ds h2)) (fun cdv A outer s H vs Q E hr ⟨ds,h1,h2,q⟩=>⟨_,hbody cdv A outer s H E ds hr h2,SD.start h1,q⟩),hm,F0.kp,hb⟩
end
def KL (K:PySem.W.Frag) (p:Addr) (S:List PyData) (H:Hp):Prop:=∃us,H p=some (.lst us)∧DVs K (lef [p] H) us S
theorem PQ {K:PySem.W.Frag} {p:Addr} {S:List PyData}:ZOk [p] (KL K p S) where
 step:=fun ⟨us,h1,h2⟩ s=>⟨us,s _ _ h1,h2.mono s.lef⟩
 notup:=fun ⟨us,h1,_⟩ b hb xs=>by rw [List.mem_singleton.mp hb];exact Qg h1 (fun _ z=>by cases z) (fun _ _ z=>by cases z) xs
 free:=fun ⟨us,h1,_⟩ hp hm=>by rw [List.mem_singleton.mp hm,h1] at hp;cases hp
theorem KL.dv {K:PySem.W.Frag} {p:Addr} {S:List PyData} {H:Hp} (h:KL K p S H):DV K H (.ref p) (.list S):=let ⟨_,h1,h2⟩:=h;.lst (SqL.of h1) (h2.mono lef_same)
section
variable {X:Cx} {i k:Nat} {rs:List (Nat×Addr)} {G:Gam} {e b:Expr} {es:List Expr} {d:PyData} {S ds:List PyData} {p:Addr} {z:Int} {x f:Str} {pos pos' pos2 pos3 p1:Pos} {sts:List Stmt}
theorem QR (hi:(i,p)∈rs) (hv:PE X (.Name x pos2) (tVar i)) (h:ZE X [p] (KL X.K p S) rs G e d (KL X.K p S)) (hb:EV X G b (.int z)) (z0:0≤z) (z1:z < S.length)
  (ha:∀v,assign (.Subscript (.Name x pos2) b pos3) X.env v=(do
   let ov ←holding [v] (eval (.Name x pos2) X.env)
   let iv ←holding [v,ov] (eval b X.env)
   standAt pos3
   holding [v,ov,iv] (setItem ov iv v)
   release [v,ov,iv] []):=by intro _;rfl)
  (hs:swapsWithSole [.Subscript (.Name x pos2) b pos3] e pos.line X.env=pure false:=by rfl) (hw:swappedStores [.Subscript (.Name x pos2) b pos3] e X.env=pure none:=by rfl)
  (h1:(assignEach [.Subscript (.Name x pos2) b pos3] X.env).map (·.2)=[assign (.Subscript (.Name x pos2) b pos3) X.env]:=by rfl):PS X (.Assign [.Subscript (.Name x pos2) b pos3] e pos) (zN X.K [p] (KL X.K p S) rs G G (KL X.K p (S.set z.toNat d))):=by
 refine (GK h (KG hv hb set_list ha) hs hw h1).imp fun D σ H ⟨r,q⟩=>⟨r,fun y H1 i1 s1 d1=>?_⟩
 have r1:RZ X.K [p] (KL X.K p S) rs G σ H1:=⟨r.1,i1,r.2.2.mono s1⟩
 refine ⟨.ref p,r.1 _ hi,r1.sd,fun w H2 s2 d2=>?_⟩
 have d2:=d2.of_int
 subst d2
 have r2:=r1.step PQ s2
 obtain ⟨us,hu,du⟩:=id r2.2.1
 have dv2:DV X.K (lef [p] H2) y d:=d1.mono s2.lef
 have eL:lef [p] (upd H2 p (.lst (us.set z.toNat y)))=lef [p] H2:=BN List.mem_cons_self
 have hlen:us.length=S.length:=du.length
 have k':KL X.K p (S.set z.toNat d) (upd H2 p (.lst (us.set z.toNat y))):=⟨us.set z.toNat y,Aw,by rw [eL];exact du.setAt dv2 _⟩
 have sT:Same (lef [p] H) (lef [p] (upd H2 p (.lst (us.set z.toNat y)))):=by rw [eL];exact s1.trans s2.lef
 refine ⟨p,us,z,z.toNat,rfl,rfl,hu,?_,q σ _ ⟨r.1,k',r.2.2.mono sT⟩ sT⟩
 unfold ixN
 rw [if_pos z0,if_pos (by rw [hlen];exact z1)]
theorem Ot {F:List PyData→List PyData→Prop} {pre:List PyData→Prop} (hN:X.N.Nodup) (hi:X.N[i]?=some x) (hx:Loc X.env.scope x) (hG:G[i]?=some none) (D:RNFn X.prog X.w X.K X.mg X.base k f F pre) (hr:Room k X.A) (hg:Gl X f) (ha:AV X G (e::es) ds) (hF:pre ds) (h2:∀ws p,F ds ws→PSs X sts (zV X.K [p] (KL X.K p ws) [(i,p)] G (fun _ _ _=>False) fun _ v H'=>DV X.K H' v d))
  (hdb:(f==("__debug__":Str))=false:=by decide) (he:starEach (e::es) X.env=(false,eval e X.env)::starEach es X.env:=by rfl) (hpl:(backTo pos (starEach es X.env)).any (·.1)=false:=by rfl)
  (hs:swapsWith (.Call (.Name f pos2) (e::es) [] pos) (some (.Name x p1)) pos'.line X.env=pure false:=by rfl) (hf:X.fn x=true∨X.env.scope.names.lookup x=some .local:=by first | exact .inl rfl | exact .inr rfl | assumption):SVs X G (.Assign [.Name x p1] (.Call (.Name f pos2) (e::es) [] pos) pos'::sts) (.ret d):=by
 obtain ⟨fa,fd,ps,ok,hm,hk,hb⟩:=D
 have hr':PSs X sts (fun D σ H=>∃ws p,F ds ws∧zV X.K [p] (KL X.K p ws) [(i,p)] G (fun _ _ _=>False) (fun _ v H'=>DV X.K H' v d) D σ H):=fun pins s σ H D I ⟨ws,p,r,q⟩=>h2 ws p r pins s σ H D I q
 refine (A7 (Cw hN hi hx (DW (E:=E0) (dvs:=[]) (ds:=[]) ok hr hg hm hk hb .nil CK ha hdb he hpl) hs hf) hr').imp fun D σ H ⟨hσ,q⟩=>⟨hσ,fun vs H1 s1 dvs=>?_⟩
 show spNL X.K F pre (vs++[]) H1 _ E0
 rw [List.append_nil]
 refine ⟨ds,dvs,hF,fun ws p us H2 hw s2 hp du=>⟨ws,p,hw,⟨fun z hz=>?_,⟨us,Aw,?_⟩,?_⟩,fun _ _ _ f=>f.elim,fun L' v H' dv s'=>q v H' ?_ dv⟩⟩
 ·rw [List.mem_singleton.mp hz]
  exact List.getElem?_set_self (by rw [hσ.1];exact (List.getElem?_eq_some_iff.mp hG).1)
 ·rw [BN List.mem_cons_self]
  refine du.mono fun c o ec=>?_
  rw [Ax (by simpa using A4 ec hp)]
  exact ec
 ·rw [BN List.mem_cons_self]
  refine Ir (hσ.mono ((s1.trans s2).trans fun c o ec=>?_)) hG
  rw [Ax (by simpa using A4 ec hp)]
  exact ec
 ·refine (s1.trans s2).trans (fun c o ec=>?_)
  have:=s' c o (by rw [Ax (by simpa using A4 ec hp),Au (A4 ec hp)];exact ec)
  exact lef_same _ _ this
end
end L2
namespace My
open PySem L2
local macro_rules | `(tactic| walk_at "s")=>`(tactic| exact ⟨rfl,rfl,rfl,by decide +kernel,rfl,by decide +kernel,by decide +kernel⟩)
local macro_rules | `(tactic| walk_at "dn")=>`(tactic| first | decide | omega)
local macro_rules | `(tactic| walk_at "od")=>`(tactic| first
 | exact Bk | exact IU | exact K2 | exact OA | exact HD | exact Qo | exact Si
 | exact Bp (by walk_at "dn") | exact EQ ⟨by walk_at "dn",by walk_at "dn"⟩
 | exact El (by first | exact Or.inl ⟨by walk_at "dn",by walk_at "dn"⟩ | exact Or.inr ⟨by walk_at "dn",by walk_at "dn"⟩)
 | exact R0 ⟨by decide,by decide,by decide⟩
 | exact IA (by walk_at "sz") | exact LA (by simp) (by walk_at "sz")
 | exact JS (.inl rfl) (by rfl) (by rfl) (by rfl) | exact JS (.inr rfl) (by rfl) (by rfl) (by rfl)
 | exact JX (.inl rfl) (by rfl) (by rfl) (by rfl) | exact JX (.inr rfl) (by rfl) (by rfl) (by rfl)
 | exact BL (by walk_at "un") (by walk_at "cl") (by walk_at "cl") (by walk_at "dp") (by rfl)
 | exact BI (by walk_at "un") (by walk_at "cl") (by walk_at "cl") (by walk_at "dp") (by rfl))
local macro_rules | `(tactic| walk_at "sz")=>`(tactic| first | decide | (rw [sizeLine_eq];decide) | (rw [sizeLine_eq];simp;done) | (rw [sizeLine_eq];simp;omega) | (rw [sizeLine_eq];omega))
local macro_rules | `(tactic| walk_at "bf")=>`(tactic| (intro h;first | rfl | cases h))
local macro_rules | `(tactic| walk_at "rm")=>`(tactic| exact Room.mono (by assumption) (by decide))
local macro_rules | `(tactic| walk_at "un")=>`(tactic| exact Room.units (by assumption))
local macro_rules | `(tactic| walk_at "cl")=>`(tactic| first | rfl | decide +kernel | (simp [PyData.canLay0,PyData.canLayAll0];done))
local macro_rules | `(tactic| walk_at "dp")=>`(tactic| first | (simp [PyData.depth,PyData.depthAll];done) | decide)
local macro_rules | `(tactic| walk_at "rg")=>`(tactic| first | decide | omega)
local macro_rules | `(tactic| walk_at "at")=>`(tactic| first | rfl | exact Aj (by walk_at "dn") (by rfl) | exact AW (by walk_at "dn") (by walk_at "dn"))
local macro_rules | `(tactic| walk_at "cd")=>`(tactic| first | exact Gm | exact Gn | exact Lh (by decide) | exact GM rfl | exact CN | exact MX | exact MT | exact IZ | exact Rx rfl | exact Nn rfl | exact K3 rfl)
local macro_rules | `(tactic| walk_at "fn")=>`(tactic| first | exact ⟨_,rfl,rfl⟩ | exact ⟨_,_,rfl,rfl⟩ | exact ⟨_,_,_,rfl,rfl⟩)
def top (i:Nat):Stmt:=PySem.Challenge.pw_likewise_k32_left_at_stores_and_tests.main.body.getD i (.Pass ⟨0,0,0,0⟩)
abbrev Dc:Stmt:=top 8
abbrev DR:Stmt:=top 9
abbrev CB:Stmt:=top 12
abbrev Dy:Stmt:=top 13
abbrev C9:Stmt:=top 14
abbrev Dx:Stmt:=top 15
abbrev Ev:Stmt:=top 16
abbrev DO:Stmt:=top 17
abbrev Dv:Stmt:=top 33
abbrev Eh:Stmt:=top 44
abbrev DI:Stmt:=top 45
abbrev Dl:Stmt:=top 46
abbrev CA:Stmt:=top 47
abbrev BO:Stmt:=top 48
abbrev GY:Stmt:=top 49
abbrev Fm:Stmt:=top 50
abbrev CH:Stmt:=top 51
abbrev C6:Stmt:=top 52
abbrev Cu:Stmt:=top 54
abbrev De:Stmt:=top 55
abbrev CG:Stmt:=top 56
abbrev CF:Stmt:=top 59
abbrev EZ:Stmt:=top 60
abbrev CT:Stmt:=top 61
abbrev Em:Stmt:=top 62
abbrev GC:Stmt:=top 63
abbrev Ft:Stmt:=top 64
abbrev Dp:Stmt:=top 65
abbrev GU:Stmt:=top 66
abbrev DN:Stmt:=top 68
abbrev Ep:Stmt:=top 69
abbrev CY:Stmt:=top 70
abbrev DA:Stmt:=top 71
abbrev Fd:Stmt:=top 72
abbrev Fe:Stmt:=top 73
abbrev DK:Stmt:=top 74
abbrev En:Stmt:=top 75
abbrev Dt:Stmt:=top 76
abbrev C5:Stmt:=top 77
abbrev DE:Stmt:=top 78
abbrev Dz:Stmt:=top 79
abbrev BX:Stmt:=top 80
abbrev CS:Stmt:=top 81
abbrev Fw:Stmt:=top 82
abbrev Db:Stmt:=top 83
abbrev Eo:Stmt:=top 84
abbrev Du:Stmt:=top 85
abbrev Os:Stmt:=top 86
theorem Fz:FnScope ["thing","bound"] ["thing","bound"] (Ai Dc):=by walk_at "s"
theorem GD:FnScope ["thing"] ["thing"] (Ai DR):=by walk_at "s"
theorem GA:FnScope ["pages"] ["pages"] (Ai CB):=by walk_at "s"
theorem IG:FnScope ["things","many"] ["things","many"] (Ai Dy):=by walk_at "s"
theorem GE:FnScope ["pages","cells","boxes","place"] ["pages","cells","boxes","place"] (Ai C9):=by walk_at "s"
theorem IM:FnScope ["pages","cell","right"] ["pages","cell","right"] (Ai Dx):=by walk_at "s"
theorem JA:FnScope ["pages","cell"] ["pages","cell"] (Ai Ev):=by walk_at "s"
theorem Ih:FnScope ["pages","cell"] ["pages","cell"] (Ai DO):=by walk_at "s"
theorem ID:FnScope ["name","x","y"] ["name","x","y"] (Ai Dv):=by walk_at "s"
theorem JR:FnScope ["thing","many"] ["thing","many"] (Ai Eh):=by walk_at "s"
theorem sc_are_pairs:FnScope ["things","bound","least","ahead","pair"] ["things","bound","least"] (Ai DI):=by walk_at "s"
theorem Im:FnScope ["thing"] ["thing"] (Ai Dl):=by walk_at "s"
theorem Gp:FnScope ["kind","s","t"] ["kind","s","t"] (Ai CA):=by walk_at "s"
theorem sc_is_truth_recipe:FnScope ["thing","kind","s","t"] ["thing"] (Ai BO):=by walk_at "s"
theorem sc_is_way:FnScope ["thing","done","boxes","truths","place"] ["thing"] (Ai GY):=by walk_at "s"
theorem sc_is_test:FnScope ["thing","kind","s","t","goes","way"] ["thing"] (Ai Fm):=by walk_at "s"
theorem sc_is_made_row:FnScope ["thing","parts"] ["thing"] (Ai CH):=by walk_at "s"
theorem sc_check_piece:FnScope ["start","text","rows","ways","k","way"] ["start","text","rows","ways"] (Ai C6):=by walk_at "s"
theorem sc_recipe_worth:FnScope ["recipe","spots","number","pairs"] ["recipe","spots"] (Ai Cu):=by walk_at "s"
theorem Hj:FnScope ["kind","one","two"] ["kind","one","two"] (Ai De):=by walk_at "s"
theorem sc_truth_worth:FnScope ["recipe","spots","yes","kind","s","t"] ["recipe","spots"] (Ai CG):=by walk_at "s"
theorem sc_first_spots:FnScope ["machine","known"] ["machine"] (Ai CF):=by walk_at "s"
theorem sc_cell_of:FnScope ["row","spots","s","n"] ["row","spots"] (Ai EZ):=by walk_at "s"
theorem sc_number_set:FnScope ["row","spots","name","one"] ["row","spots"] (Ai CT):=by walk_at "s"
theorem Jk:FnScope ["pages","row","spots"] ["pages","row","spots"] (Ai Em):=by walk_at "s"
theorem Mt:FnScope ["machine","row","spots"] ["machine","row","spots"] (Ai GC):=by walk_at "s"
theorem Kl:FnScope ["text","row","spots"] ["text","row","spots"] (Ai Ft):=by walk_at "s"
theorem sc_lead_back:FnScope ["machine","way","spots","done","boxes","truths","place","words","pair"] ["machine","way","spots"] (Ai Dp):=by walk_at "s"
theorem sc_ridden:FnScope ["machine","piece","last","pages","spots","late","k","row","why","way","coming","changes_text"] ["machine","piece","last"] (Ai GU):=by walk_at "s"
theorem Iw:FnScope ["found"] ["found"] (Ai DN):=by walk_at "s"
theorem sc_law_cell:FnScope ["script","k","cell","stir","other","more"] ["script","k"] (Ai Ep):=by walk_at "s"
theorem sc_law_recipe:FnScope ["cell","n","pairs","spot","k"] ["cell"] (Ai CY):=by walk_at "s"
theorem sc_law_truth:FnScope ["cell","kind","s","t"] ["cell"] (Ai DA):=by walk_at "s"
theorem sc_law_way:FnScope ["cell","boxes","k"] ["cell"] (Ai Fd):=by walk_at "s"
theorem sc_law_row:FnScope ["cell","menu","word","r","s","t","n","kind"] ["cell","menu"] (Ai Fe):=by walk_at "s"
theorem sc_law_state:FnScope ["script","cell","many","pages","k","cells","boxes"] ["script"] (Ai DK):=by walk_at "s"
theorem sc_law_text:FnScope ["cells","cell","text","k"] ["cells","cell"] (Ai En):=by walk_at "s"
theorem sc_law_piece:FnScope ["script","state","menu","most","many","rows","ways"] ["script","state","menu","most"] (Ai Dt):=by walk_at "s"
theorem sc_law_machine:FnScope ["state","machine"] ["state"] (Ai C5):=by walk_at "s"
theorem IW:FnScope ["recipe","spots"] ["recipe","spots"] (Ai DE):=by walk_at "s"
theorem Iz:FnScope ["kind","one","other"] ["kind","one","other"] (Ai Dz):=by walk_at "s"
theorem EN:FnScope ["recipe","spots"] ["recipe","spots"] (Ai BX):=by walk_at "s"
theorem sc_law_number:FnScope ["row","spots","one","other","some"] ["row","spots"] (Ai CS):=by walk_at "s"
theorem K8:FnScope ["pages","cell","k"] ["pages","cell","k"] (Ai Fw):=by walk_at "s"
theorem sc_law_barred:FnScope ["pages","row","spots","one"] ["pages","row","spots"] (Ai Db):=by walk_at "s"
theorem sc_law_rode:FnScope ["state","piece","last","spots","cells","told","stored","late","k","row","why","way","coming","here"] ["state","piece","last"] (Ai Eo):=by walk_at "s"
theorem sc_law_right:FnScope ["state","piece","last","due","way","machine","other","one","found"] ["state","piece","last"] (Ai Du):=by walk_at "s"
theorem sc_law:FnScope ["script","state","menu","piece","whole","text"] ["script"] (Ai Os):=by walk_at "s"
abbrev Cn:Stmt:=inClass (top 36) 0
theorem FN:FnScope ["self","pages","cells","boxes","place"] ["self","pages","cells","boxes","place"] (Ai Cn):=by walk_at "s"
abbrev BE:Stmt:=inClass (top 36) 1
theorem CI:FnScope ["self"] ["self"] (Ai BE):=by walk_at "s"
abbrev Ch:Stmt:=inClass (top 36) 2
theorem Fh:FnScope ["self"] ["self"] (Ai Ch):=by walk_at "s"
abbrev Cg:Stmt:=inClass (top 36) 3
theorem Fn:FnScope ["self"] ["self"] (Ai Cg):=by walk_at "s"
abbrev B_:Stmt:=inClass (top 36) 4
theorem ET:FnScope ["self"] ["self"] (Ai B_):=by walk_at "s"
abbrev Ci:Stmt:=inClass (top 36) 5
theorem EY:FnScope ["self"] ["self"] (Ai Ci):=by walk_at "s"
abbrev Co:Stmt:=inClass (top 36) 6
theorem FM:FnScope ["self"] ["self"] (Ai Co):=by walk_at "s"
abbrev BV:Stmt:=inClass (top 36) 7
theorem EC:FnScope ["self"] ["self"] (Ai BV):=by walk_at "s"
abbrev Cy:Stmt:=inClass (top 36) 8
theorem FS:FnScope ["self"] ["self"] (Ai Cy):=by walk_at "s"
abbrev Cf:Stmt:=inClass (top 36) 9
theorem Fs:FnScope ["self"] ["self"] (Ai Cf):=by walk_at "s"
abbrev C7:Stmt:=inClass (top 36) 11
theorem GV:FnScope ["self","boxes","truths","place","more"] ["self","boxes","truths","place","more"] (Ai C7):=by walk_at "s"
abbrev Cz:Stmt:=inClass (top 36) 12
theorem FO:FnScope ["self","cell"] ["self","cell"] (Ai Cz):=by walk_at "s"
abbrev Cv:Stmt:=inClass (top 36) 13
theorem FQ:FnScope ["self","cell","word"] ["self","cell","word"] (Ai Cv):=by walk_at "s"
abbrev Cr:Stmt:=inClass (top 36) 14
theorem FU:FnScope ["self","word"] ["self","word"] (Ai Cr):=by walk_at "s"
structure Txt (mg:Str→Option Value):Prop where
 b_len:mg "len"=none
 b_isinstance:mg "isinstance"=none
 b_int:mg "int"=none
 b_bool:mg "bool"=none
 b_str:mg "str"=none
 b_all:mg "all"=none
 b_zip:mg "zip"=none
 b_sum:mg "sum"=none
 b_tuple:mg "tuple"=none
 b_list:mg "list"=none
 b_range:mg "range"=none
 b_max:mg "max"=none
 b_min:mg "min"=none
 b_enumerate:mg "enumerate"=none
 c_page_cells:∃t,mg "PAGE_CELLS"=some (.int 16 t)
theorem Txt.g_page_cells {X:Cx} {G:Gam} {pos:Pos} (T:Txt X.mg) (hg:Gl X "PAGE_CELLS"):EV X G (.Name "PAGE_CELLS" pos) (.int 16):=by
 obtain ⟨t,h⟩:=T.c_page_cells
 exact CJ hg h
def kinds:List (Str×Str):=[("stop",""),("set","xn"),("move","xy"),("add","xy"),("sub","xy"),("mul","xy"),("and","xy"),("xor","xy"),("cmp","xy"),("load","xym"),("store","xym"),("jump","n"),("branch","kn"),("call","xn"),("back","x"),("out","x")]
def Sv:List Str:=kinds.map (·.1)
def Sg:List (Str×PyData):=kinds.map fun q=>(q.1,.str q.2)
def NP (c:Nat):Int:=if c=120 then 4 else if c=121 then 4 else if c=107 then 4 else if c=109 then 16 else 4096
def O_ (c:Nat):Int:=if c=120 then 64 else if c=121 then 16 else if c=107 then 1 else if c=109 then 1 else 0
def QO:List (Str×PyData):=[("x",.int 4),("y",.int 4),("k",.int 4),("m",.int 16),("n",.int 4096)]
def Ph:List (Str×PyData):=[("x",.int 64),("y",.int 16),("k",.int 1),("m",.int 1),("n",.int 0)]
def Qy (ps:Str) (nums:List Int):Bool:=(ps.cps.toList.zip nums).all fun q=>decide (0≤q.2) && decide (q.2 < NP q.1)
structure TxtR (K:PySem.W.Frag) (mg:Str→Option Value) (P:Params):Prop extends Txt mg where
 t_names:GTup K mg "NAMES" Sv
 t_parts:DZ K mg P "PARTS" Sg
 t_bounds:DZ K mg P "BOUNDS" QO
 t_weights:DZ K mg P "WEIGHTS" Ph
 t_reck:GTup K mg "RECKONING" ["add","sub","mul","and","xor","cmp"]
section
variable {P:Program} {w:World} {K:PySem.W.Frag} {mg:Str→Option Value} {base:Heap}
def EW:PyData→Int→Bool
 | .int i,b=>decide (0≤i) && decide (i < b)
 | _,_=>false
def CU (ds:List PyData) (d:PyData):Prop:=∃(i b:Int),ds=[.int i,.int b]∧d=.bool (EW (.int i) b)
theorem Kh (T:Txt mg) {f:Addr} {fd:FuncData} (F:Fun K "is_below" "is_below" Dc f fd) (hm:mg "is_below"=some (.ref f)):DFn P w K mg base 1 "is_below" CU:=by
 refine F.data hm (F.binds fun _ _ _ _ _ _ us hl=>match us,hl with | [_,_],_=>rfl) Fz (fun ds d ⟨_,_,e,_⟩=>by rw [e];rfl) fun cdv A outer s H E ds d hr ⟨t,b,e,e2⟩=>?_
 subst e e2
 exact Ag (Ar (AZ (B9 (n:="int") (evv 0) rfl T.b_isinstance rfl T.b_int (by decide +kernel) (by rfl)) (fun _=>(AZ (KF (B9 (n:="bool") (evv 0) rfl T.b_isinstance rfl T.b_bool (by decide +kernel) (by rfl))) (fun _=>(BA (HI Ab (evv 0) (by walk_at "od") (evv 1) (by walk_at "od")))) (by walk_at "bf"))) (by walk_at "bf")))
def Fp (ds:List PyData) (d:PyData):Prop:=∃i:Int,ds=[.int i]∧d=.bool (EW (.int i) 4096)
def So (c:Nat) (f s:Int):Int:=if c=110 then s else f / O_ c % NP c
theorem Md {f:Addr} {fd:FuncData} (D_is_below:DFn P w K mg base 1 "is_below" CU) (F:Fun K "is_word" "is_word" DR f fd) (hm:mg "is_word"=some (.ref f)):DFn P w K mg base 2 "is_word" Fp:=by
 refine F.data hm (F.binds fun _ _ _ _ _ _ us hl=>match us,hl with | [_],_=>rfl) GD (fun ds d ⟨_,e,_⟩=>by rw [e];rfl) fun cdv A outer s H E ds d hr ⟨t,e,e2⟩=>?_
 subst e e2
 exact Ag (Ar (An D_is_below (by walk_at "rm") rfl (Aa (evv 0) (Aa Ab Ad)) ⟨_,_,rfl,rfl⟩))
def kindOf (f:Int):Str×Str:=kinds.getD (f / 256).toNat ("stop","")
def numsOf (f s:Int):List Int:=(kindOf f).2.cps.toList.map fun c=>So c f s
def A6 (q:Bool×Bool×Bool):PyData:=.tuple [.bool q.1,.bool q.2.1,.bool q.2.2]
def Oa (q:Bool×Bool×Bool) (r:Int):Bool:=if r=0 then q.1 else if r=1 then q.2.1 else q.2.2
def Bq (ps:List (Bool×Bool×Bool)) (c r:Int):Bool:=decide (0≤c) && decide (c < 16 * (ps.length:Int)) && Oa (ps.getD (c / 16).toNat (false,false,false)) r
theorem JT {ps:List (Bool×Bool×Bool)} {i:Int} (h0:0≤i) (h:i < ps.length):atI (ps.map A6) i=some (A6 (ps.getD i.toNat (false,false,false))):=by
 have hi:i.toNat < ps.length:=by omega
 exact Aj h0 (by simp [hi])
theorem Ln {q:Bool×Bool×Bool} {r:Int} (h0:0≤r) (h1:r < 3):atI [PyData.bool q.1,.bool q.2.1,.bool q.2.2] r=some (.bool (Oa q r)):=by
 have h:r=0∨r=1∨r=2:=by omega
 rcases h with rfl | rfl | rfl <;> rfl
def Ds (ds:List PyData) (d:PyData):Prop:=∃ps c r,ds=[.list (ps.map A6),.int c,.int r]∧ps.length≤8∧0≤r∧r < 3∧d=.bool (Bq ps c r)
theorem Jl (T:Txt mg) {f:Addr} {fd:FuncData} (D_is_below:DFn P w K mg base 1 "is_below" CU) (F:Fun K "has_right" "has_right" Dx f fd) (hm:mg "has_right"=some (.ref f)):DFn P w K mg base 2 "has_right" Ds:=by
 refine F.data hm (F.binds fun _ _ _ _ _ _ us hl=>match us,hl with | [_,_,_],_=>rfl) IM (fun ds d ⟨_,_,_,e,_⟩=>by rw [e];rfl) fun cdv A outer s H E ds d hr ⟨ps,c,r,e,hp,h0,h1,e2⟩=>?_
 subst e e2
 have hlm:((List.map A6 ps).length:Int)=ps.length:=by rw [List.length_map]
 by_cases hc:0≤c∧c < 16 * (ps.length:Int)
 ·obtain ⟨hc0,hc1⟩:=hc
  have i0:0≤c / 16:=by omega
  have i1:c / 16 < ps.length:=by omega
  refine Ag (Ar (AZ (k:=true) (Ap (An D_is_below (by walk_at "rm") rfl (Aa (evv 1) (Aa (Ae (T.g_page_cells rfl) (At "len" (Aa (evv 0) Ad) (by walk_at "cd") rfl T.b_len (by decide +kernel)) (by walk_at "od")) Ad)) (by walk_at "fn")) (by rw [hlm,show EW (.int c) (16 * (ps.length:Int))=(decide (0≤c) && decide (c < 16 * (ps.length:Int))) from rfl,decide_eq_true hc0,decide_eq_true hc1];rfl)) (fun _=>BA ?_) (fun h=>by cases h)))
  refine Ap (Aq (Ap (Ao (evv 0) (Ae (evv 1) (T.g_page_cells rfl) (by walk_at "od")) (JT i0 i1)) (show _=PyData.tuple [_,_,_] from rfl)) (evv 2) (Ln h0 h1)) ?_
  unfold Bq
  rw [decide_eq_true hc0,decide_eq_true hc1]
  rfl
 ·have hb:(decide (0≤c) && decide (c < 16 * (ps.length:Int)))=false:=by
   rw [Bool.eq_false_iff]
   intro z
   rw [Bool.and_eq_true] at z
   exact hc ⟨of_decide_eq_true z.1,of_decide_eq_true z.2⟩
  refine Ag (Ar (AZ (k:=false) (Ap (An D_is_below (by walk_at "rm") rfl (Aa (evv 1) (Aa (Ae (T.g_page_cells rfl) (At "len" (Aa (evv 0) Ad) (by walk_at "cd") rfl T.b_len (by decide +kernel)) (by walk_at "od")) Ad)) (by walk_at "fn")) (by rw [hlm,show EW (.int c) (16 * (ps.length:Int))=(decide (0≤c) && decide (c < 16 * (ps.length:Int))) from rfl,hb])) (fun h=>by cases h) (fun _=>?_)))
  unfold Bq
  rw [hb]
  rfl
def Lc (r:Int) (ds:List PyData) (d:PyData):Prop:=∃ps c,ds=[.list (ps.map A6),.int c]∧ps.length≤8∧d=.bool (Bq ps c r)
theorem Ky {f:Addr} {fd:FuncData} (D_has_right:DFn P w K mg base 2 "has_right" Ds) (F:Fun K "may_read" "may_read" Ev f fd) (hm:mg "may_read"=some (.ref f)):DFn P w K mg base 3 "may_read" (Lc 0):=by
 refine F.data hm (F.binds fun _ _ _ _ _ _ us hl=>match us,hl with | [_,_],_=>rfl) JA (fun ds d ⟨_,_,e,_⟩=>by rw [e];rfl) fun cdv A outer s H E ds d hr ⟨ps,c,e,hp,e2⟩=>?_
 subst e e2
 exact Ag (Ar (An D_has_right (by walk_at "rm") rfl (Aa (evv 0) (Aa (evv 1) (Aa Ab Ad))) ⟨ps,c,0,rfl,hp,by decide,by decide,rfl⟩))
theorem Kb {f:Addr} {fd:FuncData} (D_has_right:DFn P w K mg base 2 "has_right" Ds) (F:Fun K "may_write" "may_write" DO f fd) (hm:mg "may_write"=some (.ref f)):DFn P w K mg base 3 "may_write" (Lc 1):=by
 refine F.data hm (F.binds fun _ _ _ _ _ _ us hl=>match us,hl with | [_,_],_=>rfl) Ih (fun ds d ⟨_,_,e,_⟩=>by rw [e];rfl) fun cdv A outer s H E ds d hr ⟨ps,c,e,hp,e2⟩=>?_
 subst e e2
 exact Ag (Ar (An D_has_right (by walk_at "rm") rfl (Aa (evv 0) (Aa (evv 1) (Aa Ab Ad))) ⟨ps,c,1,rfl,hp,by decide,by decide,rfl⟩))
local macro_rules | `(tactic| walk_at "nk")=>`(tactic| first | decide | (simp only [List.map_append,List.map_cons,List.map_nil,List.nil_append,List.cons_append,List.length_append,List.length_cons,List.length_nil];decide))
def okW (l:List Int):Bool:=l.all fun i=>decide (0≤i) && decide (i < 4096)
def PU (ds:List PyData) (d:PyData):Prop:=∃(l:List Int) (m:Int),l.length≤100000∧ds=[.list (l.map PyData.int),.int m]∧d=.bool (decide ((l.length:Int)=m) && okW l)
theorem ED (i j:Int):PyData.eqv (.int i) (.int j)=decide (i=j):=by
 simp only [PyData.eqv]
 rfl
theorem JL (T:Txt mg) {f:Addr} {fd:FuncData} (D_is_word:DFn P w K mg base 2 "is_word" Fp) (F:Fun K "are_words" "are_words" Dy f fd) (hm:mg "are_words"=some (.ref f)):DFn P w K mg base 3 "are_words" PU:=by
 refine F.data hm (F.binds fun _ _ _ _ _ _ us hl=>match us,hl with | [_,_],_=>rfl) IG (fun ds d ⟨_,_,_,e,_⟩=>by rw [e];rfl) fun cdv A outer s H E ds d hr ⟨l,m,hl,e,e2⟩=>?_
 subst e e2
 refine Ag (Ar (AZ (k:=decide ((l.length:Int)=m)) (Ap (AC (At "len" (Aa (evv 0) Ad) (by walk_at "cd") rfl T.b_len (by decide +kernel)) (evv 1) (by walk_at "od") (Ak _)) (by rw [ED,List.length_map])) (fun h=>BA (Ap (At "all" (ds:=[.list ((l.map fun i=>decide (0≤i) && decide (i < 4096)).map PyData.bool)]) (Aa (Ap (Bi (ix:=[]) (N:=["thing"]) (B:=bind1) (as:=l) (D:=PyData.int) (fun _=>true) (fun i=>PyData.bool (decide (0≤i) && decide (i < 4096))) rfl (of_decide_eq_true (by kernel_rfl)) (AI (by decide)) (Ij (evv 0)) (by rw [sizeLine_eq];omega) (fun _ _=>BF _) (fun _ _ _ _ _=>Av (i:=0) (show List.Nodup (["thing"]:List Str) by decide +kernel) rfl (Or.inl rfl)) (fun a ha cl C s H fp=>BU) (fun a ha hP cl C s H fp=>An D_is_word (by walk_at "rm") rfl (Aa (evv 0) Ad) ⟨a,rfl,rfl⟩)) (by rw [AA,List.map_map];rfl)) Ad) (GM rfl) rfl T.b_all (by decide +kernel)) ?_)) ?_))
 ·rw [h,Bool.true_and,List.all_map]
  rfl
 ·intro h
  rw [h]
  rfl
theorem Jr (n:Nat):(decide ((1:Int)≤(n:Int)) && decide ((n:Int)≤8))=decide (1≤n∧n≤8):=by
 by_cases h1:1≤n <;> by_cases h2:n≤8 <;> simp [h1,h2] <;> omega
structure MS where
 pg:List (Bool×Bool×Bool)
 mem:List Int
 bx:List Int
 here:Int
 tz:Bool
 tl:Bool
 told:List Int
 sto:List Int
 done:Int
structure MsOk (S:MS):Prop where
 p1:1≤S.pg.length
 p8:S.pg.length≤8
 ml:S.mem.length=16 * S.pg.length
 mw:∀z∈S.mem,0≤z∧z < 4096
 bl:S.bx.length=4
 bw:∀z∈S.bx,0≤z∧z < 4096
 h:0≤S.here∧S.here < 4096
def lfM (S:MS):LF:=[("rights",S.pg.map A6),("memory",S.mem.map PyData.int),("box_words",S.bx.map PyData.int),("told_words",S.told.map PyData.int),("stored_cells",S.sto.map PyData.int)]
def dfM (S:MS):DF:=[("here",.int S.here),("truth_pair",.tuple [.bool S.tz,.bool S.tl]),("done_count",.int S.done)]
abbrev mcD (C:Addr) (S:MS):PyData:=objD C (fldD (lfM S) (dfM S))
theorem NH {l:List Int} (h:∀z∈l,0≤z∧z < 4096):okW l=true:=by
 unfold okW
 rw [List.all_eq_true]
 intro z hz
 rw [Bool.and_eq_true,decide_eq_true_iff,decide_eq_true_iff]
 exact h z hz
theorem Hm (T:Txt mg) {f:Addr} {fd:FuncData} (F:Fun K "check_pages" "check_pages" CB f fd) (hm:mg "check_pages"=some (.ref f)):DFn P w K mg base 1 "check_pages" (fun ds d=>(∃ps:List PyData,1≤ps.length∧ps.length≤8∧ds=[.list ps])∧d=.none):=by
 refine F.dataN hm (F.binds fun _ _ _ _ _ _ us hl=>match us,hl with | [_],_=>rfl) GA (fun ds ⟨_,_,_,e⟩=>by rw [e];rfl) fun cdv A outer s H E ds hr ⟨ps,h1,h8,e⟩=>?_
 subst e
 refine ⟨_,Ac (Am (k:=false) (AD (k:=true) (As (M7 HD HD Ab (At "len" (Aa (evv 0) Ad) (by walk_at "cd") rfl T.b_len (by decide +kernel)) Ab) ?_)) (fun h=>by cases h) (fun _=>Af)) Af⟩
 rw [Jr]
 exact decide_eq_true ⟨h1,h8⟩
def Qf (ds:List PyData):Prop:=∃S:MS,MsOk S∧ds=[.list (S.pg.map A6),.list (S.mem.map PyData.int),.list (S.bx.map PyData.int),.int S.here]
theorem Hn (T:Txt mg) (D_check_pages:DFn P w K mg base 1 "check_pages" (fun ds d=>(∃ps:List PyData,1≤ps.length∧ps.length≤8∧ds=[.list ps])∧d=.none)) (D_are_words:DFn P w K mg base 3 "are_words" PU) (D_is_word:DFn P w K mg base 2 "is_word" Fp) {f:Addr} {fd:FuncData} (F:Fun K "check_state" "check_state" C9 f fd) (hm:mg "check_state"=some (.ref f)):DFn P w K mg base 4 "check_state" (fun ds d=>Qf ds∧d=.none):=by
 refine F.dataN hm (F.binds fun _ _ _ _ _ _ us hl=>match us,hl with | [_,_,_,_],_=>rfl) GE (fun ds ⟨_,_,e⟩=>by rw [e];rfl) fun cdv A outer s H E ds hr ⟨S,ok,e⟩=>?_
 subst e
 have hlm:((S.pg.map A6).length:Int)=S.pg.length:=by rw [List.length_map]
 have h1:(decide ((S.mem.length:Int)=16 * ((S.pg.map A6).length:Int)) && okW S.mem)=true:=by rw [hlm,NH ok.mw,decide_eq_true (by have:=ok.ml;omega)];rfl
 have h2:(decide ((S.bx.length:Int)=4) && okW S.bx)=true:=by rw [NH ok.bw,decide_eq_true (by have:=ok.bl;omega)];rfl
 have h3:EW (.int S.here) 4096=true:=by simpa [EW] using ok.h
 have l1:S.mem.length≤100000:=by have:=ok.ml;have:=ok.p8;omega
 have l2:S.bx.length≤100000:=by have:=ok.bl;omega
 refine ⟨Bm ["pages","cells","boxes","place"] [.list (S.pg.map A6),.list (S.mem.map PyData.int),.list (S.bx.map PyData.int),.int S.here],Ac (OO (An D_check_pages (d:=.none) (by walk_at "rm") rfl (Aa (evv 0) Ad) ⟨⟨_,by rw [List.length_map];exact ok.p1,by rw [List.length_map];exact ok.p8,rfl⟩,rfl⟩)) ?_⟩
 refine Ac (Am (k:=false) (AD (k:=true) (AB (An D_are_words (by walk_at "rm") rfl (Aa (evv 1) (Aa (Ae (T.g_page_cells rfl) (At "len" (Aa (evv 0) Ad) (by walk_at "cd") rfl T.b_len (by decide +kernel)) (by walk_at "od")) Ad)) ⟨S.mem,_,l1,rfl,by rw [h1]⟩))) (fun h=>by cases h) (fun _=>Af)) ?_
 refine Ac (Am (k:=false) (AD (k:=true) (AB (An D_are_words (by walk_at "rm") rfl (Aa (evv 2) (Aa Ab Ad)) ⟨S.bx,_,l2,rfl,by rw [h2]⟩))) (fun h=>by cases h) (fun _=>Af)) ?_
 exact Ac (Am (k:=false) (AD (k:=true) (AB (An D_is_word (by walk_at "rm") rfl (Aa (evv 3) Ad) ⟨_,rfl,by rw [h3]⟩))) (fun h=>by cases h) (fun _=>Af)) Af
structure ClsM (K:PySem.W.Frag) (mg:Str→Option Value) (C:Addr):Prop where
 cl:Cls K C
 n0:NoAttr K C "rights"
 n1:NoAttr K C "memory"
 n2:NoAttr K C "box_words"
 n3:NoAttr K C "here"
 n4:NoAttr K C "truth_pair"
 n5:NoAttr K C "told_words"
 n6:NoAttr K C "stored_cells"
 n7:NoAttr K C "done_count"
 at_:mg "Machine"=some (.ref C)
theorem BQ:∀l:List Int,noLs (l.map PyData.int)=true
 | []=>rfl
 | x::r=>by rw [List.map_cons];unfold noLs;rw [BQ r];rfl
theorem HW:∀l:List (Bool×Bool×Bool),noLs (l.map A6)=true
 | []=>rfl
 | x::r=>by rw [List.map_cons];unfold noLs;rw [HW r];rfl
def Sq (ds:List PyData) (lf:LF) (df:DF):Prop:=∃S:MS,MsOk S∧S.tz=false∧S.tl=false∧S.told=[]∧S.sto=[]∧S.done=0∧ds=[.list (S.pg.map A6),.list (S.mem.map PyData.int),.list (S.bx.map PyData.int),.int S.here]∧lf=lfM S∧df=dfM S
theorem Ry (T:Txt mg) {C:Addr} (CM:ClsM K mg C) (D_check_state:DFn P w K mg base 4 "check_state" (fun ds d=>Qf ds∧d=.none)) {f:Addr} {fd:FuncData} (F:Fun K "__init__" "Machine.__init__" Cn f fd) (hm:Mk K C f):OIFn P w K mg base 5 C Sq:=by
 refine F.objI hm (F.binds fun _ _ _ _ _ _ us hl=>match us,hl with | [_,_,_,_,_],_=>rfl) FN (fun ds lf df ⟨_,_,_,_,_,_,_,e,_⟩=>by rw [e];rfl) fun cdv A outer s H E a dx H0 ds lf df hr ⟨S,ok,e1,e2,e3,e4,e5,e,e6,e7⟩=>?_
 subst e e6 e7
 have ef:lfM S=([("rights",S.pg.map A6),("memory",S.mem.map PyData.int),("box_words",S.bx.map PyData.int),("told_words",[]),("stored_cells",[])]:LF):=by unfold lfM;rw [e3,e4];rfl
 have ed:dfM S=([("here",.int S.here),("truth_pair",.tuple [.bool false,.bool false]),("done_count",.int 0)]:DF):=by unfold dfM;rw [e1,e2,e5]
 rw [ef,ed]
 have l1:S.mem.length≤100000:=by have:=ok.ml;have:=ok.p8;omega
 refine Bg (Lu (An D_check_state (d:=.none) (by walk_at "rm") rfl (Aa (evv 1) (Aa (evv 2) (Aa (evv 3) (Aa (evv 4) Ad)))) ⟨⟨S,ok,rfl⟩,rfl⟩)) ?_
 refine Bg (Hc CM.cl CM.n0 (pv 0) (AT (evv 1) rfl T.b_list) (HW _) (by walk_at "nk") (by walk_at "nk") (by decide) (by walk_at "nk")) ?_
 refine Bg (Hc CM.cl CM.n1 (pv 0) (AT (evv 2) rfl T.b_list) (BQ _) (by walk_at "nk") (by walk_at "nk") (by decide) (by walk_at "nk")) ?_
 refine Bg (Hc CM.cl CM.n2 (pv 0) (AT (evv 3) rfl T.b_list) (BQ _) (by walk_at "nk") (by walk_at "nk") (by decide) (by walk_at "nk")) ?_
 refine Bg (Ej CM.cl CM.n3 (pv 0) (evv 4) rfl (by walk_at "nk") (by walk_at "nk") (by decide) (by walk_at "nk")) ?_
 refine Bg (Ej CM.cl CM.n4 (pv 0) (AG (ds:=[.bool false,.bool false]) (Aa J6 (Aa J6 Ad)) (by walk_at "sz")) rfl (by walk_at "nk") (by walk_at "nk") (by decide) (by walk_at "nk")) ?_
 refine Bg (Hc CM.cl CM.n5 (pv 0) (CV (ws:=[]) Ad (by walk_at "sz")) rfl (by walk_at "nk") (by walk_at "nk") (by decide) (by walk_at "nk")) ?_
 refine Bg (Hc CM.cl CM.n6 (pv 0) (CV (ws:=[]) Ad (by walk_at "sz")) rfl (by walk_at "nk") (by walk_at "nk") (by decide) (by walk_at "nk")) ?_
 exact Bg (Ej CM.cl CM.n7 (pv 0) Ab rfl (by walk_at "nk") (by walk_at "nk") (by decide) (by walk_at "nk")) L3
end
section
variable {P:Program} {w:World} {K:PySem.W.Frag} {mg:Str→Option Value} {base:Heap}
theorem NY {X:Cx} {i j:Int}:OD X (binaryOp .BitAnd) (.int i) (.int j) (.int (Builtin.bitAnd i j)):=DB Re fun H=>.int _
def FK (m:List Int) (p:Int):Int:=m.getD p.toNat 0
theorem ER {pg:List (Bool×Bool×Bool)} {c r:Int} (h:Bq pg c r=true):0≤c∧c < 16 * (pg.length:Int):=by
 unfold Bq at h
 rw [Bool.and_eq_true,Bool.and_eq_true,decide_eq_true_iff,decide_eq_true_iff] at h
 exact h.1
def SE (q:Str×Str) (nums:List Int) (j:Nat):Prop:=kinds[j]?=some q∧nums.length=q.2.cps.size∧Qy q.2 nums=true
def resI (nm:Str) (x y:Int):Int:=if nm="add" then x + y else if nm="mul" then x * y else if nm="and" then Builtin.bitAnd x y else if nm="xor" then Builtin.bitXor x y else x - y
theorem FF (a b:Str):PyData.eqv (.str a) (.str b)=decide (a=b):=by
 simp only [PyData.eqv]
 by_cases h:a=b
 ·rw [decide_eq_true h,h];exact beq_self_eq_true b
 ·rw [decide_eq_false h];exact beq_eq_false_iff_ne.mpr h
section
variable {X:Cx} {G:Gam} {C:Addr} {S:MS} {x:Str} {pos pos2:Pos} {e:Expr}
theorem PX (S:MS):((.str "memory",.list (S.mem.map PyData.int)):PyData×PyData)∈fldD (lfM S) (dfM S):=List.mem_of_getElem? (i:=1) rfl
theorem RU (S:MS):((.str "box_words",.list (S.bx.map PyData.int)):PyData×PyData)∈fldD (lfM S) (dfM S):=List.mem_of_getElem? (i:=2) rfl
theorem Rg (S:MS):((.str "told_words",.list (S.told.map PyData.int)):PyData×PyData)∈fldD (lfM S) (dfM S):=List.mem_of_getElem? (i:=3) rfl
theorem R8 (S:MS):((.str "stored_cells",.list (S.sto.map PyData.int)):PyData×PyData)∈fldD (lfM S) (dfM S):=List.mem_of_getElem? (i:=4) rfl
theorem PN (S:MS):((.str "rights",.list (S.pg.map A6)):PyData×PyData)∈fldD (lfM S) (dfM S):=List.mem_of_getElem? (i:=0) rfl
theorem Q7 (S:MS):((.str "here",.int S.here):PyData×PyData)∈fldD (lfM S) (dfM S):=List.mem_of_getElem? (i:=5) rfl
theorem RP (S:MS):((.str "truth_pair",.tuple [.bool S.tz,.bool S.tl]):PyData×PyData)∈fldD (lfM S) (dfM S):=List.mem_of_getElem? (i:=6) rfl
end
def Nk (C:Addr) (ds:List PyData) (d:PyData):Prop:=∃(S:MS) (c:Int),0≤c∧c < S.mem.length∧ds=[mcD C S,.int c]∧d=.int (FK S.mem c)
theorem Qr {C:Addr} (CM:ClsM K mg C) {f:Addr} {fd:FuncData} (F:Fun K "peek" "Machine.peek" Cz f fd) (hm:Meth K C "peek" f):MFn P w K mg base 1 C "peek" (Nk C):=by
 refine F.dataM hm (F.binds fun _ _ _ _ _ _ us hl=>match us,hl with | [_,_],_=>rfl) FO (fun ds d ⟨_,_,_,_,e,_⟩=>by rw [e];rfl) fun cdv A outer s H E ds d hr ⟨S,c,c0,c1,e,e2⟩=>?_
 subst e e2
 exact Ag (Ar (Ao (Bh CM.cl CM.n1 (evv 0) (PX S)) (evv 1) (AW c0 c1)))
def Sz (C:Addr) (ds:List PyData) (d:PyData):Prop:=∃S:MS,ds=[mcD C S]∧d=.list (S.sto.map PyData.int)
theorem Oy (T:Txt mg) {C:Addr} (CM:ClsM K mg C) {f:Addr} {fd:FuncData} (F:Fun K "stored" "Machine.stored" BV f fd) (hm:Meth K C "stored" f):MFn P w K mg base 1 C "stored" (Sz C):=by
 refine F.dataM hm (F.binds fun _ _ _ _ _ _ us hl=>match us,hl with | [_],_=>rfl) EC (fun ds d ⟨_,e,_⟩=>by rw [e];rfl) fun cdv A outer s H E ds d hr ⟨S,e,e2⟩=>?_
 subst e e2
 exact Ag (Ar (C8 (AT (Bh CM.cl CM.n6 (evv 0) (R8 S)) rfl T.b_list)))
section
variable (S:MS)
theorem OS (v:Int):upD "here" (.int v) (dfM S)=dfM {S with here:=v}:=by
 unfold upD dfM
 simp only [List.map_cons,List.map_nil]
 rw [if_pos True.intro,if_neg (by decide),if_neg (by decide)]
theorem R5 (z l:Bool):upD "truth_pair" (.tuple [.bool z,.bool l]) (dfM S)=dfM {S with tz:=z,tl:=l}:=by
 unfold upD dfM
 simp only [List.map_cons,List.map_nil]
 rw [if_neg (by decide),if_pos True.intro,if_neg (by decide)]
theorem PD (v:Int):upD "done_count" (.int v) (dfM S)=dfM {S with done:=v}:=by
 unfold upD dfM
 simp only [List.map_cons,List.map_nil]
 rw [if_neg (by decide),if_neg (by decide),if_pos True.intro]
theorem Rr (l:List Int):upL "memory" (l.map PyData.int) (lfM S)=lfM {S with mem:=l}:=by
 unfold upL lfM
 simp only [List.map_cons,List.map_nil]
 rw [if_neg (by decide),if_pos True.intro,if_neg (by decide),if_neg (by decide),if_neg (by decide)]
theorem QJ (l:List Int):upL "box_words" (l.map PyData.int) (lfM S)=lfM {S with bx:=l}:=by
 unfold upL lfM
 simp only [List.map_cons,List.map_nil]
 rw [if_neg (by decide),if_neg (by decide),if_pos True.intro,if_neg (by decide),if_neg (by decide)]
theorem PH (l:List Int):upL "told_words" (l.map PyData.int) (lfM S)=lfM {S with told:=l}:=by
 unfold upL lfM
 simp only [List.map_cons,List.map_nil]
 rw [if_neg (by decide),if_neg (by decide),if_neg (by decide),if_pos True.intro,if_neg (by decide)]
theorem Rc (l:List Int):upL "stored_cells" (l.map PyData.int) (lfM S)=lfM {S with sto:=l}:=by
 unfold upL lfM
 simp only [List.map_cons,List.map_nil]
 rw [if_neg (by decide),if_neg (by decide),if_neg (by decide),if_neg (by decide),if_pos True.intro]
theorem RY:(("memory":Str),S.mem.map PyData.int)∈lfM S:=List.mem_of_getElem? (i:=1) rfl
theorem Qp:(("told_words":Str),S.told.map PyData.int)∈lfM S:=List.mem_of_getElem? (i:=3) rfl
theorem Sb:(("stored_cells":Str),S.sto.map PyData.int)∈lfM S:=List.mem_of_getElem? (i:=4) rfl
theorem QH:(("done_count":Str),PyData.int S.done)∈dfM S:=List.mem_of_getElem? (i:=2) rfl
theorem R3:("here":Str)∈(dfM S).map (·.1):=List.mem_of_getElem? (i:=0) rfl
theorem RE:("truth_pair":Str)∈(dfM S).map (·.1):=List.mem_of_getElem? (i:=1) rfl
end
theorem Cp (l:List Int) (n:Nat) (v:Int):(l.map PyData.int).set n (.int v)=(l.set n v).map PyData.int:=by rw [List.map_set]
theorem EK (l:List Int) (v:Int):l.map PyData.int++[PyData.int v]=(l++[v]).map PyData.int:=by rw [List.map_append];rfl
def N0 (S:MS) (c v:Int):MS:={S with mem:=S.mem.set c.toNat v,sto:=S.sto++[c]}
def OH (S:MS) (v:Int):MS:={S with told:=S.told++[v]}
abbrev FewM (S:MS):Prop:=S.sto.length < 100000∧S.told.length < 100000
def MU (lf:LF) (df:DF) (ds:List PyData) (lf':LF) (df':DF):Prop:=∃(S:MS) (c v:Int),0≤c∧c < S.mem.length∧FewM S∧lf=lfM S∧df=dfM S∧ds=[.int c,.int v]∧lf'=lfM (N0 S c v)∧df'=dfM (N0 S c v)
abbrev HC (F:LF→DF→List PyData→LF→DF→Prop):LF→DF→List PyData→PyData→LF→DF→Prop:=fun lf df ds d lf' df'=>F lf df ds lf' df'∧d=.none
abbrev MZ (K:PySem.W.Frag) (R:OR) (S:MS):Hp→Prop:=Oz K R (lfM S) (dfM S)
theorem CL {X:Cx} {L:List Addr} {I I1 I2:Hp→Prop} {rs:List (Nat×Addr)} {G G1:Gam} {st:Stmt} (h:PS X st (zN X.K L I rs G G1 I1)) (e:I1=I2):PS X st (zN X.K L I rs G G1 I2):=e ▸ h
theorem Rw {C:Addr} (CM:ClsM K mg C) {f:Addr} {fd:FuncData} (F:Fun K "poke" "Machine.poke" Cv f fd) (hm:Meth K C "poke" f):OFn P w K mg base 1 C "poke" (HC MU):=by
 refine F.objN hm (F.binds fun _ _ _ _ _ _ us hl=>match us,hl with | [_,_,_],_=>rfl) FQ (fun lf df ds lf' df' ⟨_,_,_,_,_,_,_,_,e,_⟩=>by rw [e];rfl) fun cdv A outer s H E R lf df ds lf' df' hr hC ⟨S,c,v,c0,c1,few,e1,e2,e3,e4,e5⟩=>?_
 subst hC e1 e2 e3 e4 e5
 refine ⟨none::Bm ["cell","word"] [.int c,.int v],A9 (CL (I2:=MZ K R {S with mem:=S.mem.set c.toNat v}) (Nd CM.cl CM.n1 List.mem_cons_self (pv 0) (evv 2) rfl (evv 1) (RY S) c0 (by rw [List.length_map];exact c1)) (by rw [Cp,Rr];rfl)) ?_⟩
 exact A9 (CL (I2:=MZ K R (N0 S c v)) (HZ CM.cl CM.n6 List.mem_cons_self (pv 0) (evv 1) rfl (Sb {S with mem:=S.mem.set c.toNat v}) (by rw [List.length_map,sizeLine_eq];have:=few.1;show S.sto.length < _;omega)) (by rw [EK,Rc];rfl)) AL
def N9 (lf:LF) (df:DF) (ds:List PyData) (lf':LF) (df':DF):Prop:=∃(S:MS) (v:Int),FewM S∧lf=lfM S∧df=dfM S∧ds=[.int v]∧lf'=lfM (OH S v)∧df'=dfM (OH S v)
theorem Q5 {C:Addr} (CM:ClsM K mg C) {f:Addr} {fd:FuncData} (F:Fun K "tell" "Machine.tell" Cr f fd) (hm:Meth K C "tell" f):OFn P w K mg base 1 C "tell" (HC N9):=by
 refine F.objN hm (F.binds fun _ _ _ _ _ _ us hl=>match us,hl with | [_,_],_=>rfl) FU (fun lf df ds lf' df' ⟨_,_,_,_,_,e,_⟩=>by rw [e];rfl) fun cdv A outer s H E R lf df ds lf' df' hr hC ⟨S,v,few,e1,e2,e3,e4,e5⟩=>?_
 subst hC e1 e2 e3 e4 e5
 exact ⟨none::Bm ["word"] [.int v],A9 (CL (I2:=MZ K R (OH S v)) (HZ CM.cl CM.n5 List.mem_cons_self (pv 0) (evv 1) rfl (Qp S) (by rw [List.length_map,sizeLine_eq];have:=few.2;omega)) (by rw [EK,PH];rfl)) AL⟩
theorem Qa {X:Cx} {C:Addr} {oa:Option Addr} {i:Nat} {G G1:Gam} {lf lf1 lf2:LF} {df df1 df2:DF} {st:Stmt} (h:PS X st (yN X.K C oa i G lf df G1 lf1 df1)) (e1:lf1=lf2) (e2:df1=df2):PS X st (yN X.K C oa i G lf df G1 lf2 df2):=by subst e1 e2;exact h
theorem QF (S:MS):((.str "done_count",.int S.done):PyData×PyData)∈fldD (lfM S) (dfM S):=List.mem_of_getElem? (i:=7) rfl
theorem Pc (T:Txt mg) {C:Addr} (CM:ClsM K mg C) {f:Addr} {fd:FuncData} (F:Fun K "pages" "Machine.pages" BE f fd) (hm:Meth K C "pages" f):MFn P w K mg base 1 C "pages" (fun ds d=>∃S:MS,ds=[mcD C S]∧d=.list (S.pg.map A6)):=by
 refine F.dataM hm (F.binds fun _ _ _ _ _ _ us hl=>match us,hl with | [_],_=>rfl) CI (fun ds d ⟨_,e,_⟩=>by rw [e];rfl) fun cdv A outer s H E ds d hr ⟨S,e,e2⟩=>?_
 subst e e2
 exact Ag (Ar (C8 (AT (Bh CM.cl CM.n0 (evv 0) (PN S)) rfl T.b_list)))
theorem P1 (T:Txt mg) {C:Addr} (CM:ClsM K mg C) {f:Addr} {fd:FuncData} (F:Fun K "cells" "Machine.cells" Ch f fd) (hm:Meth K C "cells" f):MFn P w K mg base 1 C "cells" (fun ds d=>∃S:MS,ds=[mcD C S]∧d=.list (S.mem.map PyData.int)):=by
 refine F.dataM hm (F.binds fun _ _ _ _ _ _ us hl=>match us,hl with | [_],_=>rfl) Fh (fun ds d ⟨_,e,_⟩=>by rw [e];rfl) fun cdv A outer s H E ds d hr ⟨S,e,e2⟩=>?_
 subst e e2
 exact Ag (Ar (C8 (AT (Bh CM.cl CM.n1 (evv 0) (PX S)) rfl T.b_list)))
theorem ON (T:Txt mg) {C:Addr} (CM:ClsM K mg C) {f:Addr} {fd:FuncData} (F:Fun K "boxes" "Machine.boxes" Cg f fd) (hm:Meth K C "boxes" f):MFn P w K mg base 1 C "boxes" (fun ds d=>∃S:MS,ds=[mcD C S]∧d=.list (S.bx.map PyData.int)):=by
 refine F.dataM hm (F.binds fun _ _ _ _ _ _ us hl=>match us,hl with | [_],_=>rfl) Fn (fun ds d ⟨_,e,_⟩=>by rw [e];rfl) fun cdv A outer s H E ds d hr ⟨S,e,e2⟩=>?_
 subst e e2
 exact Ag (Ar (C8 (AT (Bh CM.cl CM.n2 (evv 0) (RU S)) rfl T.b_list)))
theorem NE (T:Txt mg) {C:Addr} (CM:ClsM K mg C) {f:Addr} {fd:FuncData} (F:Fun K "truths" "Machine.truths" B_ f fd) (hm:Meth K C "truths" f):MFn P w K mg base 1 C "truths" (fun ds d=>∃S:MS,ds=[mcD C S]∧d=.tuple [.bool S.tz,.bool S.tl]):=by
 refine F.dataM hm (F.binds fun _ _ _ _ _ _ us hl=>match us,hl with | [_],_=>rfl) ET (fun ds d ⟨_,e,_⟩=>by rw [e];rfl) fun cdv A outer s H E ds d hr ⟨S,e,e2⟩=>?_
 subst e e2
 exact Ag (Ar (Bh CM.cl CM.n4 (evv 0) (RP S)))
theorem P9 (T:Txt mg) {C:Addr} (CM:ClsM K mg C) {f:Addr} {fd:FuncData} (F:Fun K "place" "Machine.place" Ci f fd) (hm:Meth K C "place" f):MFn P w K mg base 1 C "place" (fun ds d=>∃S:MS,ds=[mcD C S]∧d=.int S.here):=by
 refine F.dataM hm (F.binds fun _ _ _ _ _ _ us hl=>match us,hl with | [_],_=>rfl) EY (fun ds d ⟨_,e,_⟩=>by rw [e];rfl) fun cdv A outer s H E ds d hr ⟨S,e,e2⟩=>?_
 subst e e2
 exact Ag (Ar (Bh CM.cl CM.n3 (evv 0) (Q7 S)))
theorem Q0 (T:Txt mg) {C:Addr} (CM:ClsM K mg C) {f:Addr} {fd:FuncData} (F:Fun K "told" "Machine.told" Co f fd) (hm:Meth K C "told" f):MFn P w K mg base 1 C "told" (fun ds d=>∃S:MS,ds=[mcD C S]∧d=.list (S.told.map PyData.int)):=by
 refine F.dataM hm (F.binds fun _ _ _ _ _ _ us hl=>match us,hl with | [_],_=>rfl) FM (fun ds d ⟨_,e,_⟩=>by rw [e];rfl) fun cdv A outer s H E ds d hr ⟨S,e,e2⟩=>?_
 subst e e2
 exact Ag (Ar (C8 (AT (Bh CM.cl CM.n5 (evv 0) (Rg S)) rfl T.b_list)))
theorem Rz (T:Txt mg) {C:Addr} (CM:ClsM K mg C) {f:Addr} {fd:FuncData} (F:Fun K "done" "Machine.done" Cy f fd) (hm:Meth K C "done" f):MFn P w K mg base 1 C "done" (fun ds d=>∃S:MS,ds=[mcD C S]∧d=.int S.done):=by
 refine F.dataM hm (F.binds fun _ _ _ _ _ _ us hl=>match us,hl with | [_],_=>rfl) FS (fun ds d ⟨_,e,_⟩=>by rw [e];rfl) fun cdv A outer s H E ds d hr ⟨S,e,e2⟩=>?_
 subst e e2
 exact Ag (Ar (Bh CM.cl CM.n7 (evv 0) (QF S)))
def staD (S:MS):PyData:=.tuple [.list (S.bx.map PyData.int),.tuple [.bool S.tz,.bool S.tl],.int S.here,.list (S.mem.map PyData.int),.list (S.told.map PyData.int),.int S.done]
theorem OM {C:Addr} (CM:ClsM K mg C) (D_boxes:MFn P w K mg base 1 C "boxes" (fun ds d=>∃S:MS,ds=[mcD C S]∧d=.list (S.bx.map PyData.int))) (D_truths:MFn P w K mg base 1 C "truths" (fun ds d=>∃S:MS,ds=[mcD C S]∧d=.tuple [.bool S.tz,.bool S.tl])) (D_place:MFn P w K mg base 1 C "place" (fun ds d=>∃S:MS,ds=[mcD C S]∧d=.int S.here)) (D_cells:MFn P w K mg base 1 C "cells" (fun ds d=>∃S:MS,ds=[mcD C S]∧d=.list (S.mem.map PyData.int))) (D_told:MFn P w K mg base 1 C "told" (fun ds d=>∃S:MS,ds=[mcD C S]∧d=.list (S.told.map PyData.int))) (D_done:MFn P w K mg base 1 C "done" (fun ds d=>∃S:MS,ds=[mcD C S]∧d=.int S.done)) {f:Addr} {fd:FuncData} (F:Fun K "state" "Machine.state" Cf f fd) (hm:Meth K C "state" f):MFn P w K mg base 2 C "state" (fun ds d=>∃S:MS,ds=[mcD C S]∧d=staD S):=by
 refine F.dataM hm (F.binds fun _ _ _ _ _ _ us hl=>match us,hl with | [_],_=>rfl) Fs (fun ds d ⟨_,e,_⟩=>by rw [e];rfl) fun cdv A outer s H E ds d hr ⟨S,e,e2⟩=>?_
 subst e e2
 unfold staD
 refine Ag (Ar (AG (ds:=[.list (S.bx.map PyData.int),.tuple [.bool S.tz,.bool S.tl],.int S.here,.list (S.mem.map PyData.int),.list (S.told.map PyData.int),.int S.done]) ?_ (by walk_at "sz")))
 refine Aa (AJ CM.cl D_boxes (by walk_at "rm") (evv 0) ⟨S,rfl,rfl⟩) ?_
 refine Aa (AJ CM.cl D_truths (by walk_at "rm") (evv 0) ⟨S,rfl,rfl⟩) ?_
 refine Aa (AJ CM.cl D_place (by walk_at "rm") (evv 0) ⟨S,rfl,rfl⟩) ?_
 refine Aa (AJ CM.cl D_cells (by walk_at "rm") (evv 0) ⟨S,rfl,rfl⟩) ?_
 refine Aa (AJ CM.cl D_told (by walk_at "rm") (evv 0) ⟨S,rfl,rfl⟩) ?_
 refine Aa (AJ CM.cl D_done (by walk_at "rm") (evv 0) ⟨S,rfl,rfl⟩) ?_
 exact Ad
def putM (S:MS) (bs:List Int) (z l:Bool) (p m:Int):MS:={S with bx:=bs,tz:=z,tl:=l,here:=p,done:=S.done + m}
def Ll (lf:LF) (df:DF) (ds:List PyData) (lf':LF) (df':DF):Prop:=∃(S:MS) (bs:List Int) (z l:Bool) (p m:Int),lf=lfM S∧df=dfM S∧ds=[.list (bs.map PyData.int),.tuple [.bool z,.bool l],.int p,.int m]∧lf'=lfM (putM S bs z l p m)∧df'=dfM (putM S bs z l p m)
theorem RV (T:Txt mg) {C:Addr} (CM:ClsM K mg C) {f:Addr} {fd:FuncData} (F:Fun K "put" "Machine.put" C7 f fd) (hm:Meth K C "put" f):YFn P w K mg base 1 C "put" Ll:=by
 refine F.objY hm (F.binds fun _ _ _ _ _ _ us hl=>match us,hl with | [_,_,_,_,_],_=>rfl) GV (fun lf df ds lf' df' ⟨_,_,_,_,_,_,_,_,e,_⟩=>by rw [e];rfl) fun cdv A outer s H E a lf df ds lf' df' hr ⟨S,bs,z,l,p,m,e1,e2,e3,e4,e5⟩=>?_
 subst e1 e2 e3 e4 e5
 refine ⟨none::Bm ["boxes","truths","place","more"] [.list (bs.map PyData.int),.tuple [.bool z,.bool l],.int p,.int m],OZ (lf1:=lfM {S with bx:=bs}) (df1:=dfM {S with bx:=bs}) (Qa (OU CM.cl CM.n2 (pv 0) (AT (evv 1) rfl T.b_list) (BQ _) (List.mem_of_getElem? (i:=2) rfl) (by decide)) (QJ S bs) rfl) (QN fun R hC=>?_)⟩
 subst hC
 refine A9 (CL (I2:=MZ K R {S with bx:=bs,tz:=z,tl:=l}) (L7 (f:="truth_pair") CM.cl CM.n4 List.mem_cons_self (pv 0) (A8 "tuple" (Aa (evv 2) Ad) DU rfl T.b_tuple (by decide +kernel)) rfl (RE _) (by decide)) (by rw [R5];rfl)) ?_
 refine A9 (CL (I2:=MZ K R {S with bx:=bs,tz:=z,tl:=l,here:=p}) (L7 (f:="here") CM.cl CM.n3 List.mem_cons_self (pv 0) (evv 3) rfl (R3 _) (by decide)) (by rw [OS];rfl)) ?_
 exact A9 (CL (I2:=MZ K R (putM S bs z l p m)) (Rj CM.cl CM.n7 List.mem_cons_self (pv 0) (evv 4) (QH _) (by decide)) (by rw [PD];rfl)) AL
def madeL:List (Str×Str):=[("set","rn"),("copy","rs"),("cut","rs"),("add","rst"),("sub","rst"),("mul","rst"),("and","rst"),("xor","rst"),("addn","rsn"),("load","rsn"),("store","snt"),("out","s")]
def Fk:List (Str×PyData):=madeL.map fun q=>(q.1,.str q.2)
def Ew:List (Str×PyData):=[("r",.int 12),("s",.int 12),("t",.int 12),("n",.int 4096)]
structure TxtP (K:PySem.W.Frag) (mg:Str→Option Value) (P:Params):Prop where
 b_len:mg "len"=none
 b_isinstance:mg "isinstance"=none
 b_int:mg "int"=none
 b_bool:mg "bool"=none
 b_str:mg "str"=none
 b_all:mg "all"=none
 b_zip:mg "zip"=none
 b_tuple:mg "tuple"=none
 b_range:mg "range"=none
 b_max:mg "max"=none
 b_min:mg "min"=none
 b_enumerate:mg "enumerate"=none
 c_spots:∃t,mg "SPOTS"=some (.int 12 t)
 c_most_cells:∃t,mg "MOST_CELLS"=some (.int 60 t)
 c_most_rows:∃t,mg "MOST_ROWS"=some (.int 60 t)
 c_most_done:∃t,mg "MOST_DONE"=some (.int 99 t)
 t_made_parts:DZ K mg P "MADE_PARTS" Fk
 t_made_bounds:DZ K mg P "MADE_BOUNDS" Ew
theorem TxtP.g_spots {X:Cx} {G:Gam} {pos:Pos} (T:TxtP X.K X.mg X.w.params) (hg:Gl X "SPOTS"):EV X G (.Name "SPOTS" pos) (.int 12):=by
 obtain ⟨t,h⟩:=T.c_spots
 exact CJ hg h
theorem TxtP.g_most_cells {X:Cx} {G:Gam} {pos:Pos} (T:TxtP X.K X.mg X.w.params) (hg:Gl X "MOST_CELLS"):EV X G (.Name "MOST_CELLS" pos) (.int 60):=by
 obtain ⟨t,h⟩:=T.c_most_cells
 exact CJ hg h
theorem TxtP.g_most_rows {X:Cx} {G:Gam} {pos:Pos} (T:TxtP X.K X.mg X.w.params) (hg:Gl X "MOST_ROWS"):EV X G (.Name "MOST_ROWS" pos) (.int 60):=by
 obtain ⟨t,h⟩:=T.c_most_rows
 exact CJ hg h
theorem TxtP.g_most_done {X:Cx} {G:Gam} {pos:Pos} (T:TxtP X.K X.mg X.w.params) (hg:Gl X "MOST_DONE"):EV X G (.Name "MOST_DONE" pos) (.int 99):=by
 obtain ⟨t,h⟩:=T.c_most_done
 exact CJ hg h
def belB:PyData→Int→Bool
 | .int i,b=>decide (0≤i) && decide (i < b)
 | _,_=>false
def DJ (ds:List PyData) (d:PyData):Prop:=∃(i b:Int),ds=[.int i,.int b]∧d=.bool (belB (.int i) b)
theorem QD (T:TxtP K mg w.params) {f:Addr} {fd:FuncData} (F:Fun K "is_below" "is_below" Dc f fd) (hm:mg "is_below"=some (.ref f)):DFn P w K mg base 1 "is_below" DJ:=by
 refine F.data hm (F.binds fun _ _ _ _ _ _ us hl=>match us,hl with | [_,_],_=>rfl) Fz (fun ds d ⟨_,_,e,_⟩=>by rw [e];rfl) fun cdv A outer s H E ds d hr ⟨t,b,e,e2⟩=>?_
 subst e e2
 exact Ag (Ar (AZ (B9 (n:="int") (evv 0) rfl T.b_isinstance rfl T.b_int (by decide +kernel) (by rfl)) (fun _=>(AZ (KF (B9 (n:="bool") (evv 0) rfl T.b_isinstance rfl T.b_bool (by decide +kernel) (by rfl))) (fun _=>(BA (HI Ab (evv 0) (by walk_at "od") (evv 1) (by walk_at "od")))) (by walk_at "bf"))) (by walk_at "bf")))
def Ic (ds:List PyData) (d:PyData):Prop:=∃i:Int,ds=[.int i]∧d=.bool (belB (.int i) 4096)
theorem Rm {f:Addr} {fd:FuncData} (D_belI:DFn P w K mg base 1 "is_below" DJ) (F:Fun K "is_word" "is_word" DR f fd) (hm:mg "is_word"=some (.ref f)):DFn P w K mg base 2 "is_word" Ic:=by
 refine F.data hm (F.binds fun _ _ _ _ _ _ us hl=>match us,hl with | [_],_=>rfl) GD (fun ds d ⟨_,e,_⟩=>by rw [e];rfl) fun cdv A outer s H E ds d hr ⟨t,e,e2⟩=>?_
 subst e e2
 exact Ag (Ar (An D_belI (by walk_at "rm") rfl (Aa (evv 0) (Aa Ab Ad)) ⟨_,_,rfl,rfl⟩))
def prD (q:Int×Int):PyData:=.tuple [.int q.1,.int q.2]
abbrev recD (n:Int) (ps:List (Int×Int)):PyData:=.tuple [.int n,.tuple (ps.map prD)]
def Bw (bound least:Int):Int→List (Int×Int)→Prop
 | _,[]=>True
 | a,q::r=>a < q.1∧q.1 < bound∧least≤q.2∧q.2 < 4096∧Bw bound least q.1 r
def FL:Int→List (Int×Int)→Int
 | a,[]=>a
 | _,q::r=>FL q.1 r
theorem C4 {b l:Int} {q:Int×Int} (h2:q.1 < b) (h3:l≤q.2) (h4:q.2 < 4096):∀(ps:List (Int×Int)) (a:Int),Bw b l a ps→FL a ps < q.1→Bw b l a (ps++[q])
 | [],a,_,h=>⟨h,h2,h3,h4,trivial⟩
 | p::ps,a,⟨x1,x2,x3,x4,x5⟩,h=>⟨x1,x2,x3,x4,C4 h2 h3 h4 ps p.1 x5 h⟩
theorem CW (q:Int×Int):∀(ps:List (Int×Int)) (a:Int),FL a (ps++[q])=q.1
 | [],a=>rfl
 | p::ps,a=>CW q ps p.1
def Jp (c:Int):Int:=[1,4095,1 + c / 16 % 4095].getD (c / 4 % 3).toNat 0
theorem Jm (c:Int):1≤Jp c∧Jp c < 4096:=by
 unfold Jp
 have h:c / 4 % 3=0∨c / 4 % 3=1∨c / 4 % 3=2:=by omega
 rcases h with h | h | h <;> rw [h]
 ·exact (by decide:(1:Int)≤1∧(1:Int) < 4096)
 ·exact (by decide:(1:Int)≤4095∧(4095:Int) < 4096)
 ·show 1≤1 + c / 16 % 4095∧1 + c / 16 % 4095 < 4096
  omega
def rPut (c sp:Int) (ps:List (Int×Int)):List (Int×Int):=if sp < 12 then ps++[(sp,Jp c)] else ps
def HQ (s:Int×Int×List (Int×Int)):Int×Int×List (Int×Int):=(s.1 / 4 / 1000,s.2.1 + 1 + s.1 / 4 % 4,rPut (s.1 / 4) (s.2.1 + 1 + s.1 / 4 % 4) s.2.2)
def rIt (s:Int×Int×List (Int×Int)):Nat→Int×Int×List (Int×Int)
 | 0=>s
 | k + 1=>HQ (rIt s k)
def recN (c:Int):Int:=[0,c / 4 % 4096,4095,1].getD (c % 4).toNat 0
def Qh (c:Int):List (Int×Int):=(rIt (c / 16384,-1,[]) (c / 16384 % 4).toNat).2.2
def Hw (c:Int):PyData:=recD (recN c) (Qh c)
theorem KJ (c:Int):∀k:Nat,Bw 12 1 (-1) (rIt (c,-1,[]) k).2.2∧FL (-1) (rIt (c,-1,[]) k).2.2≤(rIt (c,-1,[]) k).2.1∧(rIt (c,-1,[]) k).2.2.length≤k
 | 0=>⟨trivial,Int.le_refl _,Nat.le_refl _⟩
 | k + 1=>by
   obtain ⟨h1,h2,h3⟩:=KJ c k
   show Bw 12 1 (-1) (HQ (rIt (c,-1,[]) k)).2.2∧FL (-1) (HQ (rIt (c,-1,[]) k)).2.2≤(HQ (rIt (c,-1,[]) k)).2.1∧(HQ (rIt (c,-1,[]) k)).2.2.length≤k + 1
   generalize rIt (c,-1,[]) k=s at h1 h2 h3
   obtain ⟨c',sp,ps⟩:=s
   simp only at h1 h2 h3
   show Bw 12 1 (-1) (rPut (c' / 4) (sp + 1 + c' / 4 % 4) ps)∧FL (-1) (rPut (c' / 4) (sp + 1 + c' / 4 % 4) ps)≤sp + 1 + c' / 4 % 4∧(rPut (c' / 4) (sp + 1 + c' / 4 % 4) ps).length≤k + 1
   have hm:=Jm (c' / 4)
   unfold rPut
   split
   ·refine ⟨C4 (by assumption) hm.1 hm.2 ps _ h1 (by show _ < sp + 1 + c' / 4 % 4;omega),?_,by rw [List.length_append];show _ + 1≤_;omega⟩
    rw [CW]
    exact Int.le_refl _
   ·exact ⟨h1,by omega,by omega⟩
theorem G_ (c:Int):0≤recN c∧recN c < 4096:=by
 unfold recN
 have h:c % 4=0∨c % 4=1∨c % 4=2∨c % 4=3:=by omega
 rcases h with h | h | h | h <;> rw [h]
 ·exact (by decide:(0:Int)≤0∧(0:Int) < 4096)
 ·show 0≤c / 4 % 4096∧c / 4 % 4096 < 4096
  omega
 ·exact (by decide:(0:Int)≤4095∧(4095:Int) < 4096)
 ·exact (by decide:(0:Int)≤1∧(1:Int) < 4096)
def RecOk (d:PyData):Prop:=∃n ps,0≤n∧n < 4096∧Bw 12 1 (-1) ps∧ps.length≤12∧d=recD n ps
theorem JD (c:Int):RecOk (Hw c):=by
 obtain ⟨h1,_,h3⟩:=KJ (c / 16384) (c / 16384 % 4).toNat
 exact ⟨_,_,(G_ c).1,(G_ c).2,h1,by show (rIt _ _).2.2.length≤12;omega,rfl⟩
theorem EA:∀ps:List (Int×Int),noLs (ps.map prD)=true
 | []=>rfl
 | q::ps=>by rw [List.map_cons];unfold noLs;rw [EA ps];rfl
theorem LJ (n:Int) (ps:List (Int×Int)):noL (recD n ps)=true:=by
 show (true && (noLs (ps.map prD) && true))=true
 rw [EA]
 rfl
theorem M3 (c:Int):noL (Hw c)=true:=LJ _ _
def NV (ds:List PyData) (d:PyData):Prop:=∃c,ds=[.int c]∧d=Hw c
theorem Iy (T:TxtP K mg w.params) {f:Addr} {fd:FuncData} (F:Fun K "_law_recipe" "_law_recipe" CY f fd) (hm:mg "_law_recipe"=some (.ref f)):DFn P w K mg base 1 "_law_recipe" NV:=by
 refine F.data hm (F.binds fun _ _ _ _ _ _ us hl=>match us,hl with | [_],_=>rfl) sc_law_recipe (fun ds d ⟨c,e,_⟩=>by rw [e];rfl) fun cdv A outer s H E ds d hr ⟨c,e,e2⟩=>?_
 subst e e2
 refine Ac (A2 (i:=1) (d:=.int (recN c)) sc_law_recipe.nd rfl (Or.inl rfl) (Ao (Ay (Aa Ab (Aa (Ae (Ae (evv 0) Ab (by walk_at "od")) Ab (by walk_at "od")) (Aa Ab (Aa Ab Ad)))) (by walk_at "sz")) (Ae (evv 0) Ab (by walk_at "od")) (AW (zs:=[0,c / 4 % 4096,4095,1]) (by omega) (show c % 4 < (4:Int) by omega)))) ?_
 refine Ac (A2 (i:=0) (d:=.int (c / 16384)) sc_law_recipe.nd rfl (Or.inl rfl) (Ap (Ae (evv 0) Ab (by walk_at "od")) rfl)) ?_
 have hok:=KJ (c / 16384)
 unfold Hw Qh
 generalize recN c=n
 generalize c / 16384=c1 at hok
 refine IR (i:=2) sc_law_recipe.nd rfl (Or.inl rfl) (by show 2 < 5;decide) fun H0 p=>?_
 refine DH (Mid:=fun G ds=>G=[some (.int c1),some (.int n),none,some (.int (-1)),none]∧ds=[]) (Ey (j:=3) sc_law_recipe.nd rfl (by decide) (Or.inl rfl) ?_) ?_
 ·rintro G ds ⟨rfl,rfl⟩
  exact ⟨.int (-1),Ap (GZ Ab) rfl,rfl,rfl,rfl⟩
 refine DH (Mid:=fun G ds=>(∃cc sp kk,G=[cc,some (.int n),none,sp,kk])∧ds=(rIt (c1,-1,[]) (c1 % 4).toNat).2.2.map prD) ?_ (IT ?_)
 ·refine EG (j:=4) (lo:=0) (n:=(c1 % 4).toNat) (fun k G ds=>∃kk,G=[some (.int (rIt (c1,-1,[]) k).1),some (.int n),none,some (.int (rIt (c1,-1,[]) k).2.1),kk]∧ds=(rIt (c1,-1,[]) k).2.2.map prD) PassesOwn.never rfl (by decide) (Av (i:=4) sc_law_recipe.nd rfl (Or.inl rfl)) ?_ ?_ ?_
  ·rintro G ds ⟨rfl,rfl⟩
   exact ⟨⟨none,rfl,rfl⟩,Ju (Ae (evv 0) Ab (by walk_at "od")) (by omega) (by omega) rfl T.b_range⟩
  ·intro k hk
   have hk4:k < 4:=by omega
   have hl:=(hok k).2.2
   have es:rIt (c1,-1,[]) (k + 1)=HQ (rIt (c1,-1,[]) k):=rfl
   rw [es]
   generalize rIt (c1,-1,[]) k=st at hl
   obtain ⟨cc,sp,ps⟩:=st
   simp only at hl ⊢
   refine Be (Mid:=fun G ds=>∃kk,G=[some (.int (cc / 4)),some (.int n),none,some (.int sp),kk]∧ds=ps.map prD) (Ey (j:=0) sc_law_recipe.nd rfl (by decide) (Or.inl rfl) ?_) ?_
   ·rintro G ds ⟨G',⟨kk,rfl,h4⟩,rfl⟩
    exact ⟨_,(Ae (evv 0) Ab (by walk_at "od")),rfl,_,rfl,h4⟩
   refine Be (Mid:=fun G ds=>∃kk,G=[some (.int (cc / 4)),some (.int n),none,some (.int (sp + 1 + cc / 4 % 4)),kk]∧ds=ps.map prD) (Ey (j:=3) sc_law_recipe.nd rfl (by decide) (Or.inl rfl) ?_) ?_
   ·rintro G ds ⟨kk,rfl,h4⟩
    exact ⟨_,(Ae (Ae (evv 3) Ab (by walk_at "od")) (Ae (evv 0) Ab (by walk_at "od")) (by walk_at "od")),rfl,_,rfl,h4⟩
   show HTs _ _ _ _ _ _ (fun G ds=>∃kk,G=[some (.int (cc / 4 / 1000)),some (.int n),none,some (.int (sp + 1 + cc / 4 % 4)),kk]∧ds=(rPut (cc / 4) (sp + 1 + cc / 4 % 4) ps).map prD)
   generalize cc / 4=c4
   generalize sp + 1 + c4 % 4=sp'
   refine Be (Mid:=fun G ds=>∃kk,G=[some (.int c4),some (.int n),none,some (.int sp'),kk]∧ds=(rPut c4 sp' ps).map prD) ?_ ?_
   ·by_cases hs:sp' < 12
    ·refine HH (PreA:=fun G ds=>∃kk,G=[some (.int c4),some (.int n),none,some (.int sp'),kk]∧ds=ps.map prD) (PreB:=fun _ _=>False) ?_ (Be (Cl ?_ (pv 2)) (BM fun _ _ h=>h)) (fun pins s σ H D I ⟨⟨_,_,f,_⟩,_⟩=>f.elim)
     ·rintro G ds ⟨kk,rfl,h4⟩
      exact .inl ⟨As (Al (evv 3) Ab (by walk_at "od") (Ak _)) (decide_eq_true hs),kk,rfl,h4⟩
     ·rintro G ds ⟨kk,rfl,rfl⟩
      refine ⟨prD (sp',Jp c4),AG (Aa (evv 3) (Aa (Ao (Ay (Aa Ab (Aa Ab (Aa (Ae Ab (Ae (Ae (evv 0) Ab (by walk_at "od")) Ab (by walk_at "od")) (by walk_at "od")) Ad))) (by walk_at "sz")) (Ae (Ae (evv 0) Ab (by walk_at "od")) Ab (by walk_at "od")) (AW (zs:=[1,4095,1 + c4 / 16 % 4095]) (by omega) (show c4 / 4 % 3 < (3:Int) by omega))) Ad)) (by walk_at "sz"),rfl,by rw [List.length_map,sizeLine_eq];omega,kk,rfl,?_⟩
      unfold rPut
      rw [if_pos hs,List.map_append]
      rfl
    ·refine HH (PreA:=fun _ _=>False) (PreB:=fun G ds=>∃kk,G=[some (.int c4),some (.int n),none,some (.int sp'),kk]∧ds=ps.map prD) ?_ (fun pins s σ H D I ⟨⟨_,_,f,_⟩,_⟩=>f.elim) (BM ?_)
     ·rintro G ds ⟨kk,rfl,h4⟩
      exact .inr ⟨As (Al (evv 3) Ab (by walk_at "od") (Ak _)) (decide_eq_false hs),kk,rfl,h4⟩
     ·rintro G ds ⟨kk,e,rfl⟩
      refine ⟨kk,e,?_⟩
      unfold rPut
      rw [if_neg hs]
   refine Be (Ey (j:=0) sc_law_recipe.nd rfl (by decide) (Or.inl rfl) ?_) (BM fun _ _ h=>h)
   rintro G ds ⟨kk,rfl,h4⟩
   exact ⟨_,(Ae (evv 0) Ab (by walk_at "od")),rfl,_,rfl,h4⟩
  ·rintro G ds ⟨kk,e,h4⟩
   exact ⟨⟨_,_,_,e⟩,h4⟩
 ·rintro G ds ⟨⟨cc,sp,kk,rfl⟩,rfl⟩
  exact Ag (Ar (AG (Aa (evv 1) (Aa (A8 "tuple" (Aa (evv 2) Ad) (by walk_at "cd") rfl T.b_tuple (by decide +kernel)) Ad)) (by walk_at "sz")))
def kindS:Nat→Str
 | 0=>"known"
 | 1=>"truth"
 | 2=>"same"
 | _=>"less"
abbrev truD (yes:Bool) (j:Nat) (s t:Int):PyData:=.tuple [.bool yes,.str (kindS j),.int s,.int t]
theorem Ko {j:Nat} (h:j < 4):j=0∨j=1∨j=2∨j=3:=by omega
theorem DX (j:Nat):PyData.canLay0 (.str (kindS j))=true:=by
 match j with
 | 0=>decide +kernel
 | 1=>decide +kernel
 | 2=>decide +kernel
 | n + 3=>exact (by decide +kernel:PyData.canLay0 (.str "less")=true)
def sT (j:Nat) (c:Int):Int:=c / 8 % 12 * (if j=0 then 0 else 1)
def tT (j:Nat) (c:Int):Int:=c / 96 % 12 * (if j < 2 then 0 else 1)
theorem On (j:Nat) (c:Int):0≤sT j c∧sT j c < 12:=by unfold sT;split <;> omega
theorem Nl (j:Nat) (c:Int):0≤tT j c∧tT j c < 12:=by unfold tT;split <;> omega
def FV (ds:List PyData) (d:PyData):Prop:=∃(c:Int) (j:Nat),ds=[.int c]∧c % 4=(j:Int)∧d=truD (c / 4 % 2==1) j (sT j c) (tT j c)
theorem JV (T:TxtP K mg w.params) {f:Addr} {fd:FuncData} (F:Fun K "_law_truth" "_law_truth" DA f fd) (hm:mg "_law_truth"=some (.ref f)):DFn P w K mg base 1 "_law_truth" FV:=by
 refine F.data hm (F.binds fun _ _ _ _ _ _ us hl=>match us,hl with | [_],_=>rfl) sc_law_truth (fun ds d ⟨_,_,e,_⟩=>by rw [e];rfl) fun cdv A outer s H E ds d hr ⟨c,j,e,hj,e2⟩=>?_
 subst e e2
 have j4:j < 4:=by omega
 refine Ac (A2 (i:=1) (d:=.str (kindS j)) sc_law_truth.nd rfl (Or.inl rfl) (Ao (Ay (Aa Ah (Aa Ah (Aa Ah (Aa Ah Ad)))) (by walk_at "sz")) (Ae (evv 0) Ab (by walk_at "od")) (Aj (by omega) ?_))) ?_
 ·rw [hj]
  rcases Ko j4 with rfl | rfl | rfl | rfl <;> rfl
 refine Ac (A2 (i:=2) (d:=.int (sT j c)) sc_law_truth.nd rfl (Or.inl rfl) ?_) ?_
 ·rcases Ko j4 with rfl | rfl | rfl | rfl <;> exact Ap (Ae (Ae (Ae (evv 0) Ab (by walk_at "od")) Ab (by walk_at "od")) (A8 "int" (Aa (AC (evv 1) Ah (by walk_at "od") (Ak _)) Ad) (by walk_at "cd") rfl T.b_int (by decide +kernel)) (by walk_at "od")) rfl
 refine Ac (A2 (i:=3) (d:=.int (tT j c)) sc_law_truth.nd rfl (Or.inl rfl) ?_) ?_
 ·rcases Ko j4 with rfl | rfl | rfl | rfl <;> exact Ap (Ae (Ae (Ae (evv 0) Ab (by walk_at "od")) Ab (by walk_at "od")) (A8 "int" (Aa (AC (evv 1) (Ay (Aa Ah (Aa Ah Ad)) (by walk_at "sz")) (by walk_at "od") (by with_unfolding_all rfl)) Ad) (by walk_at "cd") rfl T.b_int (by decide +kernel)) (by walk_at "od")) rfl
 exact Ag (Ar (Ap (AG (Aa (AC (Ae (Ae (evv 0) Ab (by walk_at "od")) Ab (by walk_at "od")) Ab (by walk_at "od") (Ak _)) (Aa (evv 1) (Aa (evv 2) (Aa (evv 3) Ad)))) (by walk_at "sz")) rfl))
def TruthOk (d:PyData):Prop:=∃yes j s t,j < 4∧(0≤s∧s < 12)∧(0≤t∧t < 12)∧(j=0→s=0)∧(j < 2→t=0)∧d=truD yes j s t
def tOf (c:Int):PyData:=truD (c / 4 % 2==1) (c % 4).toNat (sT (c % 4).toNat c) (tT (c % 4).toNat c)
theorem ND (c:Int):TruthOk (tOf c):=by
 refine ⟨_,_,_,_,(show (c % 4).toNat < 4 by omega),On _ _,Nl _ _,fun h=>?_,fun h=>?_,rfl⟩
 ·unfold sT;rw [if_pos h];omega
 ·unfold tT;rw [if_pos h];omega
theorem PR (c:Int):FV [.int c] (tOf c):=⟨c,(c % 4).toNat,rfl,by omega,rfl⟩
def WayOk (d:PyData):Prop:=∃done bs t1 t2 pl,0≤done∧done < 100∧bs.length=4∧(∀b∈bs,RecOk b)∧TruthOk t1∧TruthOk t2∧RecOk pl∧d=.tuple [.int done,.tuple bs,.tuple [t1,t2],pl]
def cIt (c:Int):Nat→Int
 | 0=>c
 | k + 1=>cIt c k / 97
def Jy (c:Int) (j:Nat):PyData:=Hw (cIt c j + 48271 * (0 + (j:Int)) * (0 + (j:Int)))
def FA (c:Int):PyData:=.tuple [.int (cIt c 4 % 100),.tuple ((List.range 4).map (Jy c)),.tuple [tOf (cIt c 4 / 7),tOf (cIt c 4 / 1009)],Hw (cIt c 4 / 3)]
theorem Jz (c:Int):WayOk (FA c):=by
 refine ⟨_,_,_,_,_,(show 0≤cIt c 4 % 100 by omega),by omega,by rw [List.length_map,List.length_range],fun b hb=>?_,ND _,ND _,JD _,rfl⟩
 obtain ⟨j,_,rfl⟩:=List.mem_map.mp hb
 exact JD _
def Ou (ds:List PyData) (d:PyData):Prop:=∃c,ds=[.int c]∧d=FA c
theorem Mx (T:TxtP K mg w.params) {f:Addr} {fd:FuncData} (D_law_recipe:DFn P w K mg base 1 "_law_recipe" NV) (D_law_truth:DFn P w K mg base 1 "_law_truth" FV) (F:Fun K "_law_way" "_law_way" Fd f fd) (hm:mg "_law_way"=some (.ref f)):DFn P w K mg base 2 "_law_way" Ou:=by
 refine F.data hm (F.binds fun _ _ _ _ _ _ us hl=>match us,hl with | [_],_=>rfl) sc_law_way (fun ds d ⟨c,e,_⟩=>by rw [e];rfl) fun cdv A outer s H E ds d hr ⟨c,e,e2⟩=>?_
 subst e e2
 refine IR (i:=1) sc_law_way.nd rfl (Or.inl rfl) (by show 1 < 3;decide) fun H0 p=>?_
 refine DH (Mid:=fun G ds=>∃kk,G=[some (.int (cIt c 4)),none,kk]∧ds=(List.range 4).map (Jy c)) ?_ (IT ?_)
 ·refine EG (j:=2) (lo:=0) (n:=(4:Int).toNat) (fun k G ds=>∃kk,G=[some (.int (cIt c k)),none,kk]∧ds=(List.range k).map (Jy c)) PassesOwn.never rfl (by decide) (Av (i:=2) sc_law_way.nd rfl (Or.inl rfl)) ?_ ?_ fun G ds h=>h
  ·rintro G ds ⟨rfl,rfl⟩
   exact ⟨⟨none,rfl,rfl⟩,Ju Ab (by decide) (by decide) rfl T.b_range⟩
  ·intro k hk
   have hk4:k < 4:=hk
   refine Be (Mid:=fun G ds=>∃kk,G=[some (.int (cIt c k)),none,kk]∧ds=(List.range (k + 1)).map (Jy c)) (Cl ?_ (pv 1)) (Be (Ey (j:=0) sc_law_way.nd rfl (by decide) (Or.inl rfl) ?_) (BM fun _ _ h=>h))
   ·rintro G ds ⟨G',⟨kk,rfl,rfl⟩,rfl⟩
    refine ⟨Jy c k,An D_law_recipe (by walk_at "rm") rfl (Aa (Ae (evv 0) (Ae (Ae Ab (evv 2) (by walk_at "od")) (evv 2) (by walk_at "od")) (by walk_at "od")) Ad) ⟨_,rfl,rfl⟩,M3 _,by rw [List.length_map,List.length_range,sizeLine_eq];omega,_,rfl,?_⟩
    rw [List.range_succ,List.map_append]
    rfl
   ·rintro G ds ⟨kk,rfl,h⟩
    exact ⟨_,(Ae (evv 0) Ab (by walk_at "od")),rfl,_,rfl,h⟩
 ·rintro G ds ⟨kk,rfl,rfl⟩
  refine Ag (Ar (AG (Aa (Ae (evv 0) Ab (by walk_at "od")) (Aa (A8 "tuple" (Aa (evv 1) Ad) (by walk_at "cd") rfl T.b_tuple (by decide +kernel)) (Aa (AG (Aa (An D_law_truth (by walk_at "rm") rfl (Aa (Ae (evv 0) Ab (by walk_at "od")) Ad) (PR _)) (Aa (An D_law_truth (by walk_at "rm") rfl (Aa (Ae (evv 0) Ab (by walk_at "od")) Ad) (PR _)) Ad)) (by walk_at "sz")) (Aa (An D_law_recipe (by walk_at "rm") rfl (Aa (Ae (evv 0) Ab (by walk_at "od")) Ad) ⟨_,rfl,rfl⟩) Ad)))) (by walk_at "sz")))
def menuL:List Str:=["set","copy","cut","add","sub","mul","and","xor","addn","load","store","out","test"]
def m6 (z:Int):Int:=[6,12].getD z.toNat 0
theorem IL {z:Int} (h0:0≤z) (h1:z < 2):m6 z=6∨m6 z=12:=by
 have h:z=0∨z=1:=by omega
 rcases h with rfl | rfl
 ·exact .inl rfl
 ·exact .inr rfl
def nOf (c:Int):Int:=[c / 5 % 16,c / 5 % 4096,0,4095,1].getD (c % 5).toNat 0
theorem LY (c:Int):0≤nOf c∧nOf c < 4096:=by
 unfold nOf
 have h:c % 5=0∨c % 5=1∨c % 5=2∨c % 5=3∨c % 5=4:=by omega
 rcases h with h | h | h | h | h <;> rw [h]
 ·show 0≤c / 5 % 16∧c / 5 % 16 < 4096
  omega
 ·show 0≤c / 5 % 4096∧c / 5 % 4096 < 4096
  omega
 ·exact (by decide:(0:Int)≤0∧(0:Int) < 4096)
 ·exact (by decide:(0:Int)≤4095∧(4095:Int) < 4096)
 ·exact (by decide:(0:Int)≤1∧(1:Int) < 4096)
def tj (z:Int):Nat:=if z=0 then 2 else if z=1 then 3 else 1
def rowJ (j:Nat) (r s t n c:Int):PyData:=match j with
 | 0=>.tuple [.str "set",.int r,.int n]
 | 1=>.tuple [.str "copy",.int r,.int s]
 | 2=>.tuple [.str "cut",.int r,.int s]
 | 3=>.tuple [.str "add",.int r,.int s,.int t]
 | 4=>.tuple [.str "sub",.int r,.int s,.int t]
 | 5=>.tuple [.str "mul",.int r,.int s,.int t]
 | 6=>.tuple [.str "and",.int r,.int s,.int t]
 | 7=>.tuple [.str "xor",.int r,.int s,.int t]
 | 8=>.tuple [.str "addn",.int r,.int s,.int n]
 | 9=>.tuple [.str "load",.int r,.int s,.int (c / 5 % 16)]
 | 10=>.tuple [.str "store",.int s,.int (c / 5 % 16),.int t]
 | 11=>.tuple [.str "out",.int s]
 | _=>.tuple [.str "test",.str (kindS (tj (c % 3))),.int s,.int (if c % 3=2 then 0 else t),.bool (c / 3 % 2==1),FA (c / 6)]
def rr (c:Int):Int:=c / 100 % 12
def ss (c:Int):Int:=c / 100 / 12 % m6 (c / 100 / 144 % 2)
def tt (c:Int):Int:=c / 100 / 288 % m6 (c / 100 / 3456 % 2)
theorem O6 (c:Int):0≤ss c∧ss c < 12:=by
 unfold ss
 rcases IL (z:=c / 100 / 144 % 2) (by omega) (by omega) with h | h <;> rw [h] <;> omega
theorem Oe (c:Int):0≤tt c∧tt c < 12:=by
 unfold tt
 rcases IL (z:=c / 100 / 3456 % 2) (by omega) (by omega) with h | h <;> rw [h] <;> omega
def menS (j:Nat):PyData:=.str (menuL.getD j "test")
def rowM (ms:List Nat) (c:Int):PyData:=rowJ (ms.getD (c % (ms.length:Int)).toNat 0) (rr c) (ss c) (tt c) (nOf (c / 100 / 6912)) (c / 100 / 6912)
def Ql (ds:List PyData) (d:PyData):Prop:=∃(c:Int) (ms:List Nat),0 < ms.length∧ms.length≤13∧(∀j∈ms,j < 13)∧ds=[.int c,.list (ms.map menS)]∧d=rowM ms c
theorem LQ (T:TxtP K mg w.params) {f:Addr} {fd:FuncData} (D_law_way:DFn P w K mg base 2 "_law_way" Ou) (F:Fun K "_law_row" "_law_row" Fe f fd) (hm:mg "_law_row"=some (.ref f)):DFn P w K mg base 3 "_law_row" Ql:=by
 refine F.data hm (F.binds fun _ _ _ _ _ _ us hl=>match us,hl with | [_,_],_=>rfl) sc_law_row (fun ds d ⟨c,ms,_,_,_,e,_⟩=>by rw [e];rfl) fun cdv A outer s H E ds d hr ⟨c,ms,l0,l13,hms,e,e2⟩=>?_
 subst e e2
 have hc0:0≤c % (ms.length:Int):=Int.emod_nonneg _ (by omega)
 have hc1:c % (ms.length:Int) < (ms.length:Int):=Int.emod_lt_of_pos _ (by omega)
 obtain ⟨j,hj⟩:∃j:Nat,ms.getD (c % (ms.length:Int)).toNat 0=j:=⟨_,rfl⟩
 have hlt:(c % (ms.length:Int)).toNat < ms.length:=by omega
 have hmj:ms[(c % (ms.length:Int)).toNat]?=some j:=by
  rw [←hj,List.getD_eq_getElem?_getD,List.getElem?_eq_getElem hlt];rfl
 have hj13:j < 13:=hms j (List.mem_of_getElem? hmj)
 have hlen:((List.map menS ms).length:Int)=ms.length:=by rw [List.length_map]
 refine Ac (A2 (i:=2) (d:=.str (menuL.getD j "test")) sc_law_row.nd rfl (Or.inl rfl) (Ao (evv 1) (Ap (Ae (evv 0) (At "len" (Aa (evv 1) Ad) (by walk_at "cd") rfl T.b_len (by decide +kernel)) (Bp (by rw [hlen];omega))) (show _=PyData.int (c % (ms.length:Int)) by rw [hlen])) (Aj hc0 (by rw [List.getElem?_map,hmj];rfl)))) ?_
 refine Ac (A2 (i:=0) (d:=.int (c / 100)) sc_law_row.nd rfl (Or.inl rfl) (Ap (Ae (evv 0) Ab (by walk_at "od")) rfl)) ?_
 refine Ac (A2 (i:=3) (d:=.int (rr c)) sc_law_row.nd rfl (Or.inl rfl) (Ap (Ae (evv 0) Ab (by walk_at "od")) rfl)) ?_
 have p1:0 < m6 (c / 100 / 144 % 2):=by rcases IL (z:=c / 100 / 144 % 2) (by omega) (by omega) with h | h <;> omega
 have p2:0 < m6 (c / 100 / 3456 % 2):=by rcases IL (z:=c / 100 / 3456 % 2) (by omega) (by omega) with h | h <;> omega
 refine Ac (A2 (i:=4) (d:=.int (ss c)) sc_law_row.nd rfl (Or.inl rfl) (Ae (Ae (evv 0) Ab (by walk_at "od")) (Ao (Ay (Aa Ab (Aa Ab Ad)) (by walk_at "sz")) (Ae (Ae (evv 0) Ab (by walk_at "od")) Ab (by walk_at "od")) (AW (zs:=[6,12]) (by omega) (show c / 100 / 144 % 2 < (2:Int) by omega))) (Bp p1))) ?_
 refine Ac (A2 (i:=5) (d:=.int (tt c)) sc_law_row.nd rfl (Or.inl rfl) (Ae (Ae (evv 0) Ab (by walk_at "od")) (Ao (Ay (Aa Ab (Aa Ab Ad)) (by walk_at "sz")) (Ae (Ae (evv 0) Ab (by walk_at "od")) Ab (by walk_at "od")) (AW (zs:=[6,12]) (by omega) (show c / 100 / 3456 % 2 < (2:Int) by omega))) (Bp p2))) ?_
 refine Ac (A2 (i:=0) (d:=.int (c / 100 / 6912)) sc_law_row.nd rfl (Or.inl rfl) (Ap (Ae (evv 0) Ab (by walk_at "od")) rfl)) ?_
 unfold rowM
 rw [hj]
 generalize ss c=s0
 generalize tt c=t0
 generalize rr c=r0
 generalize c / 100 / 6912=c2
 refine Ac (A2 (i:=6) (d:=.int (nOf c2)) sc_law_row.nd rfl (Or.inl rfl) (Ao (Ay (Aa (Ae (Ae (evv 0) Ab (by walk_at "od")) Ab (by walk_at "od")) (Aa (Ae (Ae (evv 0) Ab (by walk_at "od")) Ab (by walk_at "od")) (Aa Ab (Aa Ab (Aa Ab Ad))))) (by walk_at "sz")) (Ae (evv 0) Ab (by walk_at "od")) (AW (zs:=[c2 / 5 % 16,c2 / 5 % 4096,0,4095,1]) (by omega) (show c2 % 5 < (5:Int) by omega)))) ?_
 generalize nOf c2=n0
 have hc:j=0∨j=1∨j=2∨j=3∨j=4∨j=5∨j=6∨j=7∨j=8∨j=9∨j=10∨j=11∨j=12:=by omega
 rcases hc with rfl | rfl | rfl | rfl | rfl | rfl | rfl | rfl | rfl | rfl | rfl | rfl | rfl
 ·exact Ag (Am (k:=true) (As (Al (evv 2) Ah (by walk_at "od") (Ak _)) (by decide +kernel)) (fun _=>Ag (Ar (Ap (AG (Aa (evv 2) (Aa (evv 3) (Aa (evv 6) Ad))) (by walk_at "sz")) rfl))) (fun h=>by cases h))
 ·refine Ac (Am (k:=false) (As (Al (evv 2) Ah (by walk_at "od") (Ak _)) (by decide +kernel)) (fun h=>by cases h) (fun _=>Af)) ?_
  exact Ag (Am (k:=true) (As (Al (evv 2) (Ay (Aa Ah (Aa Ah Ad)) (by walk_at "sz")) (by walk_at "od") (by with_unfolding_all rfl)) (by decide +kernel)) (fun _=>Ag (Ar (Ap (AG (Aa (evv 2) (Aa (evv 3) (Aa (evv 4) Ad))) (by walk_at "sz")) rfl))) (fun h=>by cases h))
 ·refine Ac (Am (k:=false) (As (Al (evv 2) Ah (by walk_at "od") (Ak _)) (by decide +kernel)) (fun h=>by cases h) (fun _=>Af)) ?_
  exact Ag (Am (k:=true) (As (Al (evv 2) (Ay (Aa Ah (Aa Ah Ad)) (by walk_at "sz")) (by walk_at "od") (by with_unfolding_all rfl)) (by decide +kernel)) (fun _=>Ag (Ar (Ap (AG (Aa (evv 2) (Aa (evv 3) (Aa (evv 4) Ad))) (by walk_at "sz")) rfl))) (fun h=>by cases h))
 ·refine Ac (Am (k:=false) (As (Al (evv 2) Ah (by walk_at "od") (Ak _)) (by decide +kernel)) (fun h=>by cases h) (fun _=>Af)) ?_
  refine Ac (Am (k:=false) (As (Al (evv 2) (Ay (Aa Ah (Aa Ah Ad)) (by walk_at "sz")) (by walk_at "od") (by with_unfolding_all rfl)) (by decide +kernel)) (fun h=>by cases h) (fun _=>Af)) ?_
  refine Ac (Am (k:=false) (As (Al (evv 2) (Ay (Aa Ah (Aa Ah Ad)) (by walk_at "sz")) (by walk_at "od") (by with_unfolding_all rfl)) (by decide +kernel)) (fun h=>by cases h) (fun _=>Af)) ?_
  refine Ac (Am (k:=false) (As (Al (evv 2) Ah (by walk_at "od") (Ak _)) (by decide +kernel)) (fun h=>by cases h) (fun _=>Af)) ?_
  refine Ac (Am (k:=false) (As (Al (evv 2) Ah (by walk_at "od") (Ak _)) (by decide +kernel)) (fun h=>by cases h) (fun _=>Af)) ?_
  refine Ac (Am (k:=false) (As (Al (evv 2) Ah (by walk_at "od") (Ak _)) (by decide +kernel)) (fun h=>by cases h) (fun _=>Af)) ?_
  exact Ag (Ar (Ap (AG (Aa (evv 2) (Aa (evv 3) (Aa (evv 4) (Aa (evv 5) Ad)))) (by walk_at "sz")) rfl))
 ·refine Ac (Am (k:=false) (As (Al (evv 2) Ah (by walk_at "od") (Ak _)) (by decide +kernel)) (fun h=>by cases h) (fun _=>Af)) ?_
  refine Ac (Am (k:=false) (As (Al (evv 2) (Ay (Aa Ah (Aa Ah Ad)) (by walk_at "sz")) (by walk_at "od") (by with_unfolding_all rfl)) (by decide +kernel)) (fun h=>by cases h) (fun _=>Af)) ?_
  refine Ac (Am (k:=false) (As (Al (evv 2) (Ay (Aa Ah (Aa Ah Ad)) (by walk_at "sz")) (by walk_at "od") (by with_unfolding_all rfl)) (by decide +kernel)) (fun h=>by cases h) (fun _=>Af)) ?_
  refine Ac (Am (k:=false) (As (Al (evv 2) Ah (by walk_at "od") (Ak _)) (by decide +kernel)) (fun h=>by cases h) (fun _=>Af)) ?_
  refine Ac (Am (k:=false) (As (Al (evv 2) Ah (by walk_at "od") (Ak _)) (by decide +kernel)) (fun h=>by cases h) (fun _=>Af)) ?_
  refine Ac (Am (k:=false) (As (Al (evv 2) Ah (by walk_at "od") (Ak _)) (by decide +kernel)) (fun h=>by cases h) (fun _=>Af)) ?_
  exact Ag (Ar (Ap (AG (Aa (evv 2) (Aa (evv 3) (Aa (evv 4) (Aa (evv 5) Ad)))) (by walk_at "sz")) rfl))
 ·refine Ac (Am (k:=false) (As (Al (evv 2) Ah (by walk_at "od") (Ak _)) (by decide +kernel)) (fun h=>by cases h) (fun _=>Af)) ?_
  refine Ac (Am (k:=false) (As (Al (evv 2) (Ay (Aa Ah (Aa Ah Ad)) (by walk_at "sz")) (by walk_at "od") (by with_unfolding_all rfl)) (by decide +kernel)) (fun h=>by cases h) (fun _=>Af)) ?_
  refine Ac (Am (k:=false) (As (Al (evv 2) (Ay (Aa Ah (Aa Ah Ad)) (by walk_at "sz")) (by walk_at "od") (by with_unfolding_all rfl)) (by decide +kernel)) (fun h=>by cases h) (fun _=>Af)) ?_
  refine Ac (Am (k:=false) (As (Al (evv 2) Ah (by walk_at "od") (Ak _)) (by decide +kernel)) (fun h=>by cases h) (fun _=>Af)) ?_
  refine Ac (Am (k:=false) (As (Al (evv 2) Ah (by walk_at "od") (Ak _)) (by decide +kernel)) (fun h=>by cases h) (fun _=>Af)) ?_
  refine Ac (Am (k:=false) (As (Al (evv 2) Ah (by walk_at "od") (Ak _)) (by decide +kernel)) (fun h=>by cases h) (fun _=>Af)) ?_
  exact Ag (Ar (Ap (AG (Aa (evv 2) (Aa (evv 3) (Aa (evv 4) (Aa (evv 5) Ad)))) (by walk_at "sz")) rfl))
 ·refine Ac (Am (k:=false) (As (Al (evv 2) Ah (by walk_at "od") (Ak _)) (by decide +kernel)) (fun h=>by cases h) (fun _=>Af)) ?_
  refine Ac (Am (k:=false) (As (Al (evv 2) (Ay (Aa Ah (Aa Ah Ad)) (by walk_at "sz")) (by walk_at "od") (by with_unfolding_all rfl)) (by decide +kernel)) (fun h=>by cases h) (fun _=>Af)) ?_
  refine Ac (Am (k:=false) (As (Al (evv 2) (Ay (Aa Ah (Aa Ah Ad)) (by walk_at "sz")) (by walk_at "od") (by with_unfolding_all rfl)) (by decide +kernel)) (fun h=>by cases h) (fun _=>Af)) ?_
  refine Ac (Am (k:=false) (As (Al (evv 2) Ah (by walk_at "od") (Ak _)) (by decide +kernel)) (fun h=>by cases h) (fun _=>Af)) ?_
  refine Ac (Am (k:=false) (As (Al (evv 2) Ah (by walk_at "od") (Ak _)) (by decide +kernel)) (fun h=>by cases h) (fun _=>Af)) ?_
  refine Ac (Am (k:=false) (As (Al (evv 2) Ah (by walk_at "od") (Ak _)) (by decide +kernel)) (fun h=>by cases h) (fun _=>Af)) ?_
  exact Ag (Ar (Ap (AG (Aa (evv 2) (Aa (evv 3) (Aa (evv 4) (Aa (evv 5) Ad)))) (by walk_at "sz")) rfl))
 ·refine Ac (Am (k:=false) (As (Al (evv 2) Ah (by walk_at "od") (Ak _)) (by decide +kernel)) (fun h=>by cases h) (fun _=>Af)) ?_
  refine Ac (Am (k:=false) (As (Al (evv 2) (Ay (Aa Ah (Aa Ah Ad)) (by walk_at "sz")) (by walk_at "od") (by with_unfolding_all rfl)) (by decide +kernel)) (fun h=>by cases h) (fun _=>Af)) ?_
  refine Ac (Am (k:=false) (As (Al (evv 2) (Ay (Aa Ah (Aa Ah Ad)) (by walk_at "sz")) (by walk_at "od") (by with_unfolding_all rfl)) (by decide +kernel)) (fun h=>by cases h) (fun _=>Af)) ?_
  refine Ac (Am (k:=false) (As (Al (evv 2) Ah (by walk_at "od") (Ak _)) (by decide +kernel)) (fun h=>by cases h) (fun _=>Af)) ?_
  refine Ac (Am (k:=false) (As (Al (evv 2) Ah (by walk_at "od") (Ak _)) (by decide +kernel)) (fun h=>by cases h) (fun _=>Af)) ?_
  refine Ac (Am (k:=false) (As (Al (evv 2) Ah (by walk_at "od") (Ak _)) (by decide +kernel)) (fun h=>by cases h) (fun _=>Af)) ?_
  exact Ag (Ar (Ap (AG (Aa (evv 2) (Aa (evv 3) (Aa (evv 4) (Aa (evv 5) Ad)))) (by walk_at "sz")) rfl))
 ·refine Ac (Am (k:=false) (As (Al (evv 2) Ah (by walk_at "od") (Ak _)) (by decide +kernel)) (fun h=>by cases h) (fun _=>Af)) ?_
  refine Ac (Am (k:=false) (As (Al (evv 2) (Ay (Aa Ah (Aa Ah Ad)) (by walk_at "sz")) (by walk_at "od") (by with_unfolding_all rfl)) (by decide +kernel)) (fun h=>by cases h) (fun _=>Af)) ?_
  exact Ag (Am (k:=true) (As (Al (evv 2) (Ay (Aa Ah (Aa Ah Ad)) (by walk_at "sz")) (by walk_at "od") (by with_unfolding_all rfl)) (by decide +kernel)) (fun _=>Ag (Ar (Ap (AG (Aa (evv 2) (Aa (evv 3) (Aa (evv 4) (Aa (Ao (Ay (Aa (evv 6) (Aa (Ae (Ae (evv 0) Ab (by walk_at "od")) Ab (by walk_at "od")) Ad)) (by walk_at "sz")) (Ap (d':=.int 0) (A8 "int" (Aa (AC (evv 2) Ah (by walk_at "od") (Ak _)) Ad) (by walk_at "cd") rfl T.b_int (by decide +kernel)) (congrArg PyData.int (by decide +kernel))) (Aj (by decide) rfl)) Ad)))) (by walk_at "sz")) rfl))) (fun h=>by cases h))
 ·refine Ac (Am (k:=false) (As (Al (evv 2) Ah (by walk_at "od") (Ak _)) (by decide +kernel)) (fun h=>by cases h) (fun _=>Af)) ?_
  refine Ac (Am (k:=false) (As (Al (evv 2) (Ay (Aa Ah (Aa Ah Ad)) (by walk_at "sz")) (by walk_at "od") (by with_unfolding_all rfl)) (by decide +kernel)) (fun h=>by cases h) (fun _=>Af)) ?_
  exact Ag (Am (k:=true) (As (Al (evv 2) (Ay (Aa Ah (Aa Ah Ad)) (by walk_at "sz")) (by walk_at "od") (by with_unfolding_all rfl)) (by decide +kernel)) (fun _=>Ag (Ar (Ap (AG (Aa (evv 2) (Aa (evv 3) (Aa (evv 4) (Aa (Ao (Ay (Aa (evv 6) (Aa (Ae (Ae (evv 0) Ab (by walk_at "od")) Ab (by walk_at "od")) Ad)) (by walk_at "sz")) (Ap (d':=.int 1) (A8 "int" (Aa (AC (evv 2) Ah (by walk_at "od") (Ak _)) Ad) (by walk_at "cd") rfl T.b_int (by decide +kernel)) (congrArg PyData.int (by decide +kernel))) (Aj (by decide) rfl)) Ad)))) (by walk_at "sz")) rfl))) (fun h=>by cases h))
 ·refine Ac (Am (k:=false) (As (Al (evv 2) Ah (by walk_at "od") (Ak _)) (by decide +kernel)) (fun h=>by cases h) (fun _=>Af)) ?_
  refine Ac (Am (k:=false) (As (Al (evv 2) (Ay (Aa Ah (Aa Ah Ad)) (by walk_at "sz")) (by walk_at "od") (by with_unfolding_all rfl)) (by decide +kernel)) (fun h=>by cases h) (fun _=>Af)) ?_
  refine Ac (Am (k:=false) (As (Al (evv 2) (Ay (Aa Ah (Aa Ah Ad)) (by walk_at "sz")) (by walk_at "od") (by with_unfolding_all rfl)) (by decide +kernel)) (fun h=>by cases h) (fun _=>Af)) ?_
  exact Ag (Am (k:=true) (As (Al (evv 2) Ah (by walk_at "od") (Ak _)) (by decide +kernel)) (fun _=>Ag (Ar (Ap (AG (Aa (evv 2) (Aa (evv 4) (Aa (Ae (Ae (evv 0) Ab (by walk_at "od")) Ab (by walk_at "od")) (Aa (evv 5) Ad)))) (by walk_at "sz")) rfl))) (fun h=>by cases h))
 ·refine Ac (Am (k:=false) (As (Al (evv 2) Ah (by walk_at "od") (Ak _)) (by decide +kernel)) (fun h=>by cases h) (fun _=>Af)) ?_
  refine Ac (Am (k:=false) (As (Al (evv 2) (Ay (Aa Ah (Aa Ah Ad)) (by walk_at "sz")) (by walk_at "od") (by with_unfolding_all rfl)) (by decide +kernel)) (fun h=>by cases h) (fun _=>Af)) ?_
  refine Ac (Am (k:=false) (As (Al (evv 2) (Ay (Aa Ah (Aa Ah Ad)) (by walk_at "sz")) (by walk_at "od") (by with_unfolding_all rfl)) (by decide +kernel)) (fun h=>by cases h) (fun _=>Af)) ?_
  refine Ac (Am (k:=false) (As (Al (evv 2) Ah (by walk_at "od") (Ak _)) (by decide +kernel)) (fun h=>by cases h) (fun _=>Af)) ?_
  exact Ag (Am (k:=true) (As (Al (evv 2) Ah (by walk_at "od") (Ak _)) (by decide +kernel)) (fun _=>Ag (Ar (Ap (AG (Aa (evv 2) (Aa (evv 4) Ad)) (by walk_at "sz")) rfl))) (fun h=>by cases h))
 ·refine Ac (Am (k:=false) (As (Al (evv 2) Ah (by walk_at "od") (Ak _)) (by decide +kernel)) (fun h=>by cases h) (fun _=>Af)) ?_
  refine Ac (Am (k:=false) (As (Al (evv 2) (Ay (Aa Ah (Aa Ah Ad)) (by walk_at "sz")) (by walk_at "od") (by with_unfolding_all rfl)) (by decide +kernel)) (fun h=>by cases h) (fun _=>Af)) ?_
  refine Ac (Am (k:=false) (As (Al (evv 2) (Ay (Aa Ah (Aa Ah Ad)) (by walk_at "sz")) (by walk_at "od") (by with_unfolding_all rfl)) (by decide +kernel)) (fun h=>by cases h) (fun _=>Af)) ?_
  refine Ac (Am (k:=false) (As (Al (evv 2) Ah (by walk_at "od") (Ak _)) (by decide +kernel)) (fun h=>by cases h) (fun _=>Af)) ?_
  refine Ac (Am (k:=false) (As (Al (evv 2) Ah (by walk_at "od") (Ak _)) (by decide +kernel)) (fun h=>by cases h) (fun _=>Af)) ?_
  refine Ag (Am (k:=true) (As (Al (evv 2) Ah (by walk_at "od") (Ak _)) (by decide +kernel)) (fun _=>?_) (fun h=>by cases h))
  have h3:c2 % 3=0∨c2 % 3=1∨c2 % 3=2:=by omega
  rcases h3 with h3 | h3 | h3
  ·refine Ac (A2 (i:=7) (d:=.str "same") sc_law_row.nd rfl (Or.inl rfl) (Ao (Ay (Aa Ah (Aa Ah (Aa Ah Ad))) (by walk_at "sz")) (Ae (evv 0) Ab (by walk_at "od")) (Aj (by omega) (by rw [h3];rfl)))) ?_
   refine Ag (Ar (Ap (AG (Aa (evv 2) (Aa (evv 7) (Aa (evv 4) (Aa (Ao (Ay (Aa (evv 5) (Aa Ab Ad)) (by walk_at "sz")) (Ap (d':=.int 0) (A8 "int" (Aa (AC (evv 7) Ah (by walk_at "od") (Ak _)) Ad) (by walk_at "cd") rfl T.b_int (by decide +kernel)) (congrArg PyData.int (by decide +kernel))) (Aj (by decide) rfl)) (Aa (AC (Ae (Ae (evv 0) Ab (by walk_at "od")) Ab (by walk_at "od")) Ab (by walk_at "od") (Ak _)) (Aa (An D_law_way (by walk_at "rm") rfl (Aa (Ae (evv 0) Ab (by walk_at "od")) Ad) ⟨_,rfl,rfl⟩) Ad)))))) (by walk_at "sz")) ?_))
   show _=PyData.tuple [.str "test",.str (kindS (tj (c2 % 3))),.int s0,.int (if c2 % 3=2 then 0 else t0),.bool (c2 / 3 % 2==1),FA (c2 / 6)]
   rw [h3]
   rfl
  ·refine Ac (A2 (i:=7) (d:=.str "less") sc_law_row.nd rfl (Or.inl rfl) (Ao (Ay (Aa Ah (Aa Ah (Aa Ah Ad))) (by walk_at "sz")) (Ae (evv 0) Ab (by walk_at "od")) (Aj (by omega) (by rw [h3];rfl)))) ?_
   refine Ag (Ar (Ap (AG (Aa (evv 2) (Aa (evv 7) (Aa (evv 4) (Aa (Ao (Ay (Aa (evv 5) (Aa Ab Ad)) (by walk_at "sz")) (Ap (d':=.int 0) (A8 "int" (Aa (AC (evv 7) Ah (by walk_at "od") (Ak _)) Ad) (by walk_at "cd") rfl T.b_int (by decide +kernel)) (congrArg PyData.int (by decide +kernel))) (Aj (by decide) rfl)) (Aa (AC (Ae (Ae (evv 0) Ab (by walk_at "od")) Ab (by walk_at "od")) Ab (by walk_at "od") (Ak _)) (Aa (An D_law_way (by walk_at "rm") rfl (Aa (Ae (evv 0) Ab (by walk_at "od")) Ad) ⟨_,rfl,rfl⟩) Ad)))))) (by walk_at "sz")) ?_))
   show _=PyData.tuple [.str "test",.str (kindS (tj (c2 % 3))),.int s0,.int (if c2 % 3=2 then 0 else t0),.bool (c2 / 3 % 2==1),FA (c2 / 6)]
   rw [h3]
   rfl
  ·refine Ac (A2 (i:=7) (d:=.str "truth") sc_law_row.nd rfl (Or.inl rfl) (Ao (Ay (Aa Ah (Aa Ah (Aa Ah Ad))) (by walk_at "sz")) (Ae (evv 0) Ab (by walk_at "od")) (Aj (by omega) (by rw [h3];rfl)))) ?_
   refine Ag (Ar (Ap (AG (Aa (evv 2) (Aa (evv 7) (Aa (evv 4) (Aa (Ao (Ay (Aa (evv 5) (Aa Ab Ad)) (by walk_at "sz")) (Ap (d':=.int 1) (A8 "int" (Aa (AC (evv 7) Ah (by walk_at "od") (Ak _)) Ad) (by walk_at "cd") rfl T.b_int (by decide +kernel)) (congrArg PyData.int (by decide +kernel))) (Aj (by decide) rfl)) (Aa (AC (Ae (Ae (evv 0) Ab (by walk_at "od")) Ab (by walk_at "od")) Ab (by walk_at "od") (Ak _)) (Aa (An D_law_way (by walk_at "rm") rfl (Aa (Ae (evv 0) Ab (by walk_at "od")) Ad) ⟨_,rfl,rfl⟩) Ad)))))) (by walk_at "sz")) ?_))
   show _=PyData.tuple [.str "test",.str (kindS (tj (c2 % 3))),.int s0,.int (if c2 % 3=2 then 0 else t0),.bool (c2 / 3 % 2==1),FA (c2 / 6)]
   rw [h3]
   rfl
def BY (ds:List PyData) (d:PyData):Prop:=∃l n,ds=[.tuple l,.int n]∧d=.bool ((l.length:Int)==n)
theorem Km (T:TxtP K mg w.params) {f:Addr} {fd:FuncData} (F:Fun K "is_tuple" "is_tuple" Eh f fd) (hm:mg "is_tuple"=some (.ref f)):DFn P w K mg base 1 "is_tuple" BY:=by
 refine F.data hm (F.binds fun _ _ _ _ _ _ us hl=>match us,hl with | [_,_],_=>rfl) JR (fun ds d ⟨_,_,e,_⟩=>by rw [e];rfl) fun cdv A outer s H E ds d hr ⟨l,n,e,e2⟩=>?_
 subst e e2
 exact Ag (Ar (AZ (k:=true) (B9 (n:="tuple") (evv 0) rfl T.b_isinstance rfl T.b_tuple (by decide +kernel) (by rfl)) (fun _=>BA (Ap (AC (At "len" (Aa (evv 0) Ad) (by walk_at "cd") rfl T.b_len (by decide +kernel)) (evv 1) (by walk_at "od") (Ak _)) rfl)) (fun h=>by cases h)))
theorem Bv {i b:Int} (h0:0≤i) (h1:i < b):belB (.int i) b=true:=by
 show (decide (0≤i) && decide (i < b))=true
 rw [decide_eq_true h0,decide_eq_true h1]
 rfl
def GS (a:Int) (ps:List (Int×Int)) (i:Nat):Int:=match i with
 | 0=>a
 | i + 1=>(ps.getD i (0,0)).1
theorem Gs {b l:Int}:∀{ps:List (Int×Int)} {a:Int} {i:Nat} {q:Int×Int},Bw b l a ps→ps[i]?=some q→GS a ps i < q.1∧q.1 < b∧l≤q.2∧q.2 < 4096
 | [],_,_,_,_,h=>by simp at h
 | p::ps,a,0,q,⟨x1,x2,x3,x4,_⟩,h=>by
   simp at h
   subst h
   exact ⟨x1,x2,x3,x4⟩
 | p::ps,a,i + 1,q,⟨x1,x2,x3,x4,x5⟩,h=>by
   have h':ps[i]?=some q:=by simpa using h
   obtain ⟨y1,y2,y3,y4⟩:=Gs x5 h'
   refine ⟨?_,y2,y3,y4⟩
   cases i with
   | zero=>exact y1
   | succ i=>exact y1
theorem Ea {b l:Int}:∀{ps:List (Int×Int)} {a:Int} {i:Nat} {q:Int×Int},-1≤a→Bw b l a ps→ps[i]?=some q→0≤q.1
 | [],_,_,_,_,_,h=>by simp at h
 | p::ps,a,0,q,ha,⟨x1,_⟩,h=>by
   simp at h
   subst h
   omega
 | p::ps,a,i + 1,q,ha,⟨x1,_,_,_,x5⟩,h=>Ea (a:=p.1) (by omega) x5 (i:=i) (by simpa using h)
def DL (ds:List PyData) (d:PyData):Prop:=∃ps b l,ds=[.tuple (ps.map prD),.int b,.int l]∧Bw b l (-1) ps∧0≤l∧d=.bool true
theorem JJ (T:TxtP K mg w.params) {f:Addr} {fd:FuncData} (D_is_tuple:DFn P w K mg base 1 "is_tuple" BY) (D_belI:DFn P w K mg base 1 "is_below" DJ) (D_wrdI:DFn P w K mg base 2 "is_word" Ic) (F:Fun K "are_pairs" "are_pairs" DI f fd) (hm:mg "are_pairs"=some (.ref f)):DFn P w K mg base 3 "are_pairs" DL:=by
 refine F.data hm (F.binds fun _ _ _ _ _ _ us hl=>match us,hl with | [_,_,_],_=>rfl) sc_are_pairs (fun ds d ⟨_,_,_,e,_⟩=>by rw [e];rfl) fun cdv A outer s H E ds d hr ⟨ps,b,l,e,hok,hl,e2⟩=>?_
 subst e e2
 refine Ac (A2 (i:=3) (d:=.int (GS (-1) ps 0)) sc_are_pairs.nd rfl (Or.inl rfl) (Ap (GZ Ab) rfl)) ?_
 refine Ac (G1:=[some (.tuple (ps.map prD)),some (.int b),some (.int l),some (.int (GS (-1) ps ps.length)),none])
  (KQ (k:=0) (as:=ps) (D:=prD) (g:=C2 4) (B:=Ku 4) (fun i=>[some (.tuple (ps.map prD)),some (.int b),some (.int l),some (.int (GS (-1) ps i)),none]) PassesOwn.never rfl (BW (evv 0)) (Av (i:=4) sc_are_pairs.nd rfl (Or.inl rfl)) (fun _ _=>KW 4 _) ?b1) (Ag (Ar J6))
 intro i q hq
 obtain ⟨y1,y2,y3,y4⟩:=Gs hok hq
 have y0:=Ea (by decide) hok hq
 have en:GS (-1) ps (i + 1)=q.1:=by
  show (ps.getD i (0,0)).1=q.1
  rw [List.getD_eq_getElem?_getD,hq]
  rfl
 rw [en]
 refine Ek (G1:=[some (.tuple (ps.map prD)),some (.int b),some (.int l),some (.int q.1),some (prD q)]) ?_ rfl ?fg
 case fg=>
  intro j d e
  match j,e with
  | 0,e=>exact e
  | 1,e=>exact e
  | 2,e=>exact e
  | 3,e=>exact e
  | 4,e=>cases e
  | n + 5,e=>cases e
 refine Ac (Am (k:=false) (AX (BB (k:=false) (k':=false) (AD (k:=true) (AB (An D_is_tuple (by walk_at "rm") rfl (Aa (evv 4) (Aa Ab Ad)) ⟨[.int q.1,.int q.2],2,rfl,rfl⟩))) (fun _=>BB (k:=false) (k':=false) (AD (k:=true) (AB (Ap (An D_belI (by walk_at "rm") rfl (Aa (Aq (ds:=[.int q.1,.int q.2]) (evv 4) Ab (Aj (by decide) rfl)) (Aa (evv 1) Ad)) ⟨_,_,rfl,rfl⟩) (congrArg PyData.bool (Bv y0 y2))))) (fun _=>BR (AD (k:=true) (AB (Ap (An D_wrdI (by walk_at "rm") rfl (Aa (Aq (ds:=[.int q.1,.int q.2]) (evv 4) Ab (Aj (by decide) rfl)) Ad) ⟨_,rfl,rfl⟩) (congrArg PyData.bool (Bv (by omega) y4))))))))) (fun h=>by cases h) (fun _=>Af)) ?_
 refine Ac (Am (k:=false) (AX (BB (k:=false) (k':=false) (As (Al (Aq (ds:=[.int q.1,.int q.2]) (evv 4) Ab (Aj (by decide) rfl)) (evv 3) HD (Ak _)) (decide_eq_false (by omega))) (fun _=>BR (As (Al (Aq (ds:=[.int q.1,.int q.2]) (evv 4) Ab (Aj (by decide) rfl)) (evv 2) OA (Ak _)) (decide_eq_false (by omega)))))) (fun h=>by cases h) (fun _=>Af)) ?_
 exact Ac (A2 (i:=3) (d:=.int q.1) sc_are_pairs.nd rfl (Or.inl rfl) (Aq (ds:=[.int q.1,.int q.2]) (evv 4) Ab (Aj (by decide) rfl))) Af
def FD (ds:List PyData) (d:PyData):Prop:=∃t,ds=[t]∧RecOk t∧d=.bool true
theorem Ka (T:TxtP K mg w.params) {f:Addr} {fd:FuncData} (D_is_tuple:DFn P w K mg base 1 "is_tuple" BY) (D_wrdI:DFn P w K mg base 2 "is_word" Ic) (D_are_pairs:DFn P w K mg base 3 "are_pairs" DL) (F:Fun K "is_recipe" "is_recipe" Dl f fd) (hm:mg "is_recipe"=some (.ref f)):DFn P w K mg base 4 "is_recipe" FD:=by
 refine F.data hm (F.binds fun _ _ _ _ _ _ us hl=>match us,hl with | [_],_=>rfl) Im (fun ds d ⟨_,e,_⟩=>by rw [e];rfl) fun cdv A outer s H E ds d hr ⟨t,e,⟨n,ps,n0,n1,hok,hl,et⟩,e2⟩=>?_
 subst e e2 et
 refine Ac (Am (k:=false) (AX (BB (k:=false) (k':=false) (AD (k:=true) (AB (An D_is_tuple (by walk_at "rm") rfl (Aa (evv 0) (Aa Ab Ad)) ⟨_,2,rfl,rfl⟩))) (fun _=>BR (AD (k:=true) (AB (Ap (An D_wrdI (by walk_at "rm") rfl (Aa (Aq (evv 0) Ab (Aj (by decide) rfl)) Ad) ⟨_,rfl,rfl⟩) (congrArg PyData.bool (Bv n0 n1)))))))) (fun h=>by cases h) (fun _=>Af)) ?_
 refine Ag (Ar (AZ (k:=true) (B9 (n:="tuple") (Aq (evv 0) Ab (Aj (by decide) rfl)) rfl T.b_isinstance rfl T.b_tuple (by decide +kernel) (by rfl)) (fun _=>BA (An D_are_pairs (by walk_at "rm") rfl (Aa (Aq (evv 0) Ab (Aj (by decide) rfl)) (Aa (T.g_spots rfl) (Aa Ab Ad))) ⟨ps,12,1,rfl,hok,by decide,rfl⟩)) (fun h=>by cases h)))
def QOk (j:Nat) (s t:Int):Prop:=1≤j∧j < 4∧(0≤s∧s < 12)∧(0≤t∧t < 12)∧(j=1→t=0)
def Ed (ds:List PyData) (d:PyData):Prop:=∃j s t,ds=[.str (kindS j),.int s,.int t]∧QOk j s t∧d=.bool true
theorem Hl (T:TxtP K mg w.params) {f:Addr} {fd:FuncData} (D_belI:DFn P w K mg base 1 "is_below" DJ) (F:Fun K "is_question" "is_question" CA f fd) (hm:mg "is_question"=some (.ref f)):DFn P w K mg base 2 "is_question" Ed:=by
 refine F.data hm (F.binds fun _ _ _ _ _ _ us hl=>match us,hl with | [_,_,_],_=>rfl) Gp (fun ds d ⟨_,_,_,e,_⟩=>by rw [e];rfl) fun cdv A outer s H E ds d hr ⟨j,s0,t0,e,⟨j1,j4,hs,ht,h1⟩,e2⟩=>?_
 subst e e2
 have hj:j=1∨j=2∨j=3:=by omega
 rcases hj with rfl | rfl | rfl
 ·have ht0:=h1 rfl
  subst ht0
  exact Ag (Am (k:=true) (As (Al (evv 0) Ah (by walk_at "od") (Ak _)) (by decide +kernel)) (fun _=>Ag (Ar (AZ (k:=true) (Ap (An D_belI (by walk_at "rm") rfl (Aa (evv 1) (Aa (T.g_spots rfl) Ad)) ⟨_,_,rfl,rfl⟩) (congrArg PyData.bool (Bv hs.1 hs.2))) (fun _=>BA (Ap (An D_belI (by walk_at "rm") rfl (Aa (evv 2) (Aa Ab Ad)) ⟨_,_,rfl,rfl⟩) rfl)) (fun h=>by cases h)))) (fun h=>by cases h))
 ·refine Ac (Am (k:=false) (As (Al (evv 0) Ah (by walk_at "od") (Ak _)) (by decide +kernel)) (fun h=>by cases h) (fun _=>Af)) ?_
  exact Ag (Ar (AZ (k:=true) (Ap (AC (evv 0) (AG (Aa Ah (Aa Ah Ad)) (by walk_at "sz")) (by walk_at "od") (by with_unfolding_all rfl)) (congrArg PyData.bool (by decide +kernel))) (fun _=>AZ (k:=true) (Ap (An D_belI (by walk_at "rm") rfl (Aa (evv 1) (Aa (T.g_spots rfl) Ad)) ⟨_,_,rfl,rfl⟩) (congrArg PyData.bool (Bv hs.1 hs.2))) (fun _=>BA (Ap (An D_belI (by walk_at "rm") rfl (Aa (evv 2) (Aa (T.g_spots rfl) Ad)) ⟨_,_,rfl,rfl⟩) (congrArg PyData.bool (Bv ht.1 ht.2)))) (fun h=>by cases h)) (fun h=>by cases h)))
 ·refine Ac (Am (k:=false) (As (Al (evv 0) Ah (by walk_at "od") (Ak _)) (by decide +kernel)) (fun h=>by cases h) (fun _=>Af)) ?_
  exact Ag (Ar (AZ (k:=true) (Ap (AC (evv 0) (AG (Aa Ah (Aa Ah Ad)) (by walk_at "sz")) (by walk_at "od") (by with_unfolding_all rfl)) (congrArg PyData.bool (by decide +kernel))) (fun _=>AZ (k:=true) (Ap (An D_belI (by walk_at "rm") rfl (Aa (evv 1) (Aa (T.g_spots rfl) Ad)) ⟨_,_,rfl,rfl⟩) (congrArg PyData.bool (Bv hs.1 hs.2))) (fun _=>BA (Ap (An D_belI (by walk_at "rm") rfl (Aa (evv 2) (Aa (T.g_spots rfl) Ad)) ⟨_,_,rfl,rfl⟩) (congrArg PyData.bool (Bv ht.1 ht.2)))) (fun h=>by cases h)) (fun h=>by cases h)))
theorem Fj {j:Nat} (h:1≤j) (h4:j < 4):PyData.eqv (.str (kindS j)) (.str "known")=false:=by
 have hj:j=1∨j=2∨j=3:=by omega
 rcases hj with rfl | rfl | rfl <;> decide +kernel
def Gw (ds:List PyData) (d:PyData):Prop:=∃t,ds=[t]∧TruthOk t∧d=.bool true
theorem EB (T:TxtP K mg w.params) {f:Addr} {fd:FuncData} (D_is_tuple:DFn P w K mg base 1 "is_tuple" BY) (D_belI:DFn P w K mg base 1 "is_below" DJ) (D_is_question:DFn P w K mg base 2 "is_question" Ed) (F:Fun K "is_truth_recipe" "is_truth_recipe" BO f fd) (hm:mg "is_truth_recipe"=some (.ref f)):DFn P w K mg base 3 "is_truth_recipe" Gw:=by
 refine F.data hm (F.binds fun _ _ _ _ _ _ us hl=>match us,hl with | [_],_=>rfl) sc_is_truth_recipe (fun ds d ⟨_,e,_⟩=>by rw [e];rfl) fun cdv A outer s H E ds d hr ⟨t,e,⟨yes,j,s0,t0,j4,hs,ht,h0,h1,et⟩,e2⟩=>?_
 subst e e2 et
 refine Ac (Am (k:=false) (AX (BB (k:=false) (k':=false) (AD (k:=true) (AB (An D_is_tuple (by walk_at "rm") rfl (Aa (evv 0) (Aa Ab Ad)) ⟨_,4,rfl,rfl⟩))) (fun _=>BR (AD (k:=true) (AB (B9 (n:="bool") (Aq (evv 0) Ab (Aj (by decide) rfl)) rfl T.b_isinstance rfl T.b_bool (by decide +kernel) (by rfl))))))) (fun h=>by cases h) (fun _=>Af)) ?_
 refine Ac (G1:=[some (truD yes j s0 t0),some (.str (kindS j)),some (.int s0),some (.int t0)]) (Ei (k:=0) (d:=.tuple [.str (kindS j),.int s0,.int t0]) (B:=EF [1,2,3]) (Ap (Ha (ds:=[.bool yes,.str (kindS j),.int s0,.int t0]) (evv 0) (DT Ab) F_ (fun h=>by have:=h.1;simp [HT.sIx] at this)) rfl) (BK rfl (Az (Av (i:=1) sc_is_truth_recipe.nd rfl (by first | exact Or.inl rfl | exact Or.inr rfl)) (Az (Av (i:=2) sc_is_truth_recipe.nd rfl (by first | exact Or.inl rfl | exact Or.inr rfl)) (Az (Av (i:=3) sc_is_truth_recipe.nd rfl (by first | exact Or.inl rfl | exact Or.inr rfl)) Bu)))) (DM [1,2,3] _ rfl) rfl) ?_
 by_cases hj:j=0
 ·subst hj
  have hs0:=h0 rfl
  have ht0:=h1 (by decide)
  subst hs0 ht0
  exact Ag (Am (k:=true) (As (Al (evv 1) Ah (by walk_at "od") (Ak _)) (by decide +kernel)) (fun _=>Ag (Ar (AZ (k:=true) (Ap (An D_belI (by walk_at "rm") rfl (Aa (evv 2) (Aa Ab Ad)) ⟨_,_,rfl,rfl⟩) rfl) (fun _=>BA (Ap (An D_belI (by walk_at "rm") rfl (Aa (evv 3) (Aa Ab Ad)) ⟨_,_,rfl,rfl⟩) rfl)) (fun h=>by cases h)))) (fun h=>by cases h))
 ·refine Ac (Am (k:=false) (Al (evv 1) Ah (BL (by walk_at "un") (DX j) (by decide +kernel) (by walk_at "dp") (Fj (by omega) j4)) (Ak _)) (fun h=>by cases h) (fun _=>Af)) ?_
  exact Ag (Ar (An D_is_question (by walk_at "rm") rfl (Aa (evv 1) (Aa (evv 2) (Aa (evv 3) Ad))) ⟨j,s0,t0,rfl,⟨by omega,j4,hs,ht,fun h=>h1 (by omega)⟩,rfl⟩))
theorem HG {α:Type} (l:List α):(l.map fun _=>true).all (fun z=>z)=true:=by
 rw [List.all_map]
 exact List.all_eq_true.mpr fun _ _=>rfl
def GQ (ds:List PyData) (d:PyData):Prop:=∃t,ds=[t]∧WayOk t∧d=.bool true
theorem O5 (T:TxtP K mg w.params) {f:Addr} {fd:FuncData} (D_is_tuple:DFn P w K mg base 1 "is_tuple" BY) (D_belI:DFn P w K mg base 1 "is_below" DJ) (D_is_recipe:DFn P w K mg base 4 "is_recipe" FD) (D_is_truth_recipe:DFn P w K mg base 3 "is_truth_recipe" Gw) (F:Fun K "is_way" "is_way" GY f fd) (hm:mg "is_way"=some (.ref f)):DFn P w K mg base 5 "is_way" GQ:=by
 refine F.data hm (F.binds fun _ _ _ _ _ _ us hl=>match us,hl with | [_],_=>rfl) sc_is_way (fun ds d ⟨_,e,_⟩=>by rw [e];rfl) fun cdv A outer s H E ds d hr ⟨t,e,⟨dn,bs,t1,t2,pl,d0,d1,hb,hbs,ht1,ht2,hpl,et⟩,e2⟩=>?_
 subst e e2 et
 refine Ac (Am (k:=false) (AD (k:=true) (AB (An D_is_tuple (by walk_at "rm") rfl (Aa (evv 0) (Aa Ab Ad)) ⟨_,4,rfl,rfl⟩))) (fun h=>by cases h) (fun _=>Af)) ?_
 refine Ac (G1:=[some (.tuple [.int dn,.tuple bs,.tuple [t1,t2],pl]),some (.int dn),some (.tuple bs),some (.tuple [t1,t2]),some pl]) (Ei (k:=0) (B:=EF [1,2,3,4]) (evv 0) (BK rfl (Az (Av (i:=1) sc_is_way.nd rfl (by first | exact Or.inl rfl | exact Or.inr rfl)) (Az (Av (i:=2) sc_is_way.nd rfl (by first | exact Or.inl rfl | exact Or.inr rfl)) (Az (Av (i:=3) sc_is_way.nd rfl (by first | exact Or.inl rfl | exact Or.inr rfl)) (Az (Av (i:=4) sc_is_way.nd rfl (by first | exact Or.inl rfl | exact Or.inr rfl)) Bu))))) (DM [1,2,3,4] _ rfl) rfl) ?_
 refine Ac (Am (k:=false) (AX (BB (k:=false) (k':=false) (AD (k:=true) (AB (Ap (An D_belI (by walk_at "rm") rfl (Aa (evv 1) (Aa (Ae (T.g_most_done rfl) Ab (by walk_at "od")) Ad)) ⟨_,_,rfl,rfl⟩) (congrArg PyData.bool (Bv d0 (by omega)))))) (fun _=>BB (k:=false) (k':=false) (AD (k:=true) (AB (Ap (An D_is_tuple (by walk_at "rm") rfl (Aa (evv 2) (Aa Ab Ad)) ⟨bs,4,rfl,rfl⟩) (congrArg PyData.bool (by rw [hb];rfl))))) (fun _=>BR (AD (k:=true) (AB (An D_is_tuple (by walk_at "rm") rfl (Aa (evv 3) (Aa Ab Ad)) ⟨[t1,t2],2,rfl,rfl⟩))))))) (fun h=>by cases h) (fun _=>Af)) ?_
 have hne:bs≠[]:=fun z=>by rw [z] at hb;cases hb
 have hall:∀b∈bs++[pl],RecOk b:=fun b hb'=>by
  rcases List.mem_append.mp hb' with h | h
  ·exact hbs b h
  ·have:=List.mem_singleton.mp h
   subst this
   exact hpl
 have hall2:∀b∈[t1,t2],TruthOk b:=fun b hb'=>by
  rcases List.mem_cons.mp hb' with rfl | h
  ·exact ht1
  ·have:=List.mem_singleton.mp h
   subst this
   exact ht2
 refine Ag (Ar (AZ (k:=true) (Ap (At "all" (ds:=[.list (((bs++[pl]).map fun _=>true).map PyData.bool)]) (Aa (Ap (Bi (ix:=[]) (N:=["box"]) (B:=bind1) (as:=bs++[pl]) (D:=fun d=>d) (fun _=>true) (fun _=>PyData.bool true) rfl (of_decide_eq_true (by kernel_rfl)) (AI (by decide)) (BW (Ap (Ae (evv 2) (AG (Aa (evv 4) Ad) (by walk_at "sz")) (LA hne (by rw [sizeLine_eq,hb];show 4 + 1≤16777216;decide))) (by rw [List.map_id']))) (by rw [List.length_append,hb,sizeLine_eq];show 4 + 1≤16777216;decide) (fun _ _=>BF _) (fun _ _ _ _ _=>Av (i:=0) (show List.Nodup (["box"]:List Str) by decide +kernel) rfl (Or.inl rfl)) (fun a ha cl C s H fp=>BU) (fun a ha hP cl C s H fp=>An D_is_recipe (by walk_at "rm") rfl (Aa (evv 0) Ad) ⟨_,rfl,hall a ha,rfl⟩)) ?q1) Ad) (GM rfl) rfl T.b_all (by decide +kernel)) (congrArg PyData.bool (HG _)))
  (fun _=>BA (Ap (At "all" (ds:=[.list (([t1,t2].map fun _=>true).map PyData.bool)]) (Aa (Ap (Bi (ix:=[]) (N:=["truth"]) (B:=bind1) (as:=[t1,t2]) (D:=fun d=>d) (fun _=>true) (fun _=>PyData.bool true) rfl (of_decide_eq_true (by kernel_rfl)) (AI (by decide)) (BW (evv 3)) (by walk_at "sz") (fun _ _=>BF _) (fun _ _ _ _ _=>Av (i:=0) (show List.Nodup (["truth"]:List Str) by decide +kernel) rfl (Or.inl rfl)) (fun a ha cl C s H fp=>BU) (fun a ha hP cl C s H fp=>An D_is_truth_recipe (by walk_at "rm") rfl (Aa (evv 0) Ad) ⟨_,rfl,hall2 a ha,rfl⟩)) rfl) Ad) (GM rfl) rfl T.b_all (by decide +kernel)) rfl)) (fun h=>by cases h)))
 case q1=>rw [AA,List.map_map];rfl
abbrev KU (j:Nat) (s t:Int) (goes:Bool) (way:PyData):PyData:=.tuple [.str "test",.str (kindS j),.int s,.int t,.bool goes,way]
def Nq (d:PyData):Prop:=∃j s t goes way,QOk j s t∧WayOk way∧d=KU j s t goes way
def HF (ds:List PyData) (d:PyData):Prop:=∃t,ds=[t]∧Nq t∧d=.bool true
theorem Mw (T:TxtP K mg w.params) {f:Addr} {fd:FuncData} (D_is_question:DFn P w K mg base 2 "is_question" Ed) (D_is_way:DFn P w K mg base 5 "is_way" GQ) (F:Fun K "is_test" "is_test" Fm f fd) (hm:mg "is_test"=some (.ref f)):DFn P w K mg base 6 "is_test" HF:=by
 refine F.data hm (F.binds fun _ _ _ _ _ _ us hl=>match us,hl with | [_],_=>rfl) sc_is_test (fun ds d ⟨_,e,_⟩=>by rw [e];rfl) fun cdv A outer s H E ds d hr ⟨t,e,⟨j,s0,t0,goes,way,hq,hw,et⟩,e2⟩=>?_
 subst e e2 et
 refine Ac (Am (k:=false) (As (Al (At "len" (Aa (evv 0) Ad) (by walk_at "cd") rfl T.b_len (by decide +kernel)) Ab (by walk_at "od") (Ak _)) rfl) (fun h=>by cases h) (fun _=>Af)) ?_
 refine Ac (G1:=[some (KU j s0 t0 goes way),some (.str (kindS j)),some (.int s0),some (.int t0),some (.bool goes),some way]) (Ei (k:=0) (d:=.tuple [.str (kindS j),.int s0,.int t0,.bool goes,way]) (B:=EF [1,2,3,4,5]) (Ap (Ha (ds:=[.str "test",.str (kindS j),.int s0,.int t0,.bool goes,way]) (evv 0) (DT Ab) F_ (fun h=>by have:=h.1;simp [HT.sIx] at this)) rfl) (BK rfl (Az (Av (i:=1) sc_is_test.nd rfl (by first | exact Or.inl rfl | exact Or.inr rfl)) (Az (Av (i:=2) sc_is_test.nd rfl (by first | exact Or.inl rfl | exact Or.inr rfl)) (Az (Av (i:=3) sc_is_test.nd rfl (by first | exact Or.inl rfl | exact Or.inr rfl)) (Az (Av (i:=4) sc_is_test.nd rfl (by first | exact Or.inl rfl | exact Or.inr rfl)) (Az (Av (i:=5) sc_is_test.nd rfl (by first | exact Or.inl rfl | exact Or.inr rfl)) Bu)))))) (DM [1,2,3,4,5] _ rfl) rfl) ?_
 exact Ag (Ar (AZ (k:=true) (An D_is_question (by walk_at "rm") rfl (Aa (evv 1) (Aa (evv 2) (Aa (evv 3) Ad))) ⟨j,s0,t0,rfl,hq,rfl⟩) (fun _=>AZ (k:=true) (B9 (n:="bool") (evv 4) rfl T.b_isinstance rfl T.b_bool (by decide +kernel) (by rfl)) (fun _=>BA (An D_is_way (by walk_at "rm") rfl (Aa (evv 5) Ad) ⟨_,rfl,hw,rfl⟩)) (fun h=>by cases h)) (fun h=>by cases h)))
def BZ (c:Nat):Int:=if c=110 then 4096 else 12
def Fv (x:Str) (nums:List Int):Prop:=∀z∈x.cps.toList.zip nums,0≤z.2∧z.2 < BZ z.1
def Q_ (d:PyData):Prop:=∃q nums,q∈madeL∧nums.length=q.2.cps.size∧Fv q.2 nums∧d=.tuple (.str q.1::nums.map PyData.int)
def RowOk (d:PyData):Prop:=Nq d∨Q_ d
theorem Ja:∀q∈madeL,∀c∈q.2.cps.toList,c=114∨c=115∨c=116∨c=110:=by decide +kernel
theorem KB:∀q∈madeL,q.2.cps.size≤3:=by decide +kernel
theorem KO:∀q∈madeL,strIterType q.2=CZ:=by decide +kernel
theorem Mq:∀q∈madeL,PyData.eqv (.str q.1) (.str "test")=false:=by decide +kernel
theorem NJ:∀q∈madeL,PyData.canLay0 (.str q.1)=true:=by decide +kernel
theorem Q9 {c:Nat} (h:c=114∨c=115∨c=116∨c=110):((⟨#[c]⟩:Str),PyData.int (BZ c))∈Ew:=by
 rcases h with rfl | rfl | rfl | rfl
 ·exact List.mem_of_getElem? (i:=0) rfl
 ·exact List.mem_of_getElem? (i:=1) rfl
 ·exact List.mem_of_getElem? (i:=2) rfl
 ·exact List.mem_of_getElem? (i:=3) rfl
theorem M_ {q:Str×Str} (h:q∈madeL):(q.1,PyData.str q.2)∈Fk:=List.mem_map.mpr ⟨q,h,rfl⟩
theorem QS {X:Cx} {G:Gam} {tg e:Expr} {ds ds':List PyData} (h:IV X G tg e ds) (q:ds=ds'):IV X G tg e ds':=q ▸ h
def ML (q:Nat×Int):PyData:=.tuple [.str ⟨#[q.1]⟩,.int q.2]
theorem R7 (l:List Nat) (nums:List Int):(l.zip (nums.map PyData.int)).map zipD=(l.zip nums).map ML:=by
 rw [List.zip_map_right,List.map_map]
 rfl
theorem QG (name:Str) (nums:List Int):cutD (.str name::nums.map PyData.int) (some 1) none=nums.map PyData.int:=by
 unfold cutD
 simp [HT.sIx]
 exact List.take_of_length_le (by simp)
def HN (ds:List PyData) (d:PyData):Prop:=∃t,ds=[t]∧RowOk t∧d=.bool true
theorem Hh (T:TxtP K mg w.params) {f:Addr} {fd:FuncData} (D_belI:DFn P w K mg base 1 "is_below" DJ) (D_is_test:DFn P w K mg base 6 "is_test" HF) (F:Fun K "is_made_row" "is_made_row" CH f fd) (hm:mg "is_made_row"=some (.ref f)):DFn P w K mg base 7 "is_made_row" HN:=by
 refine F.data hm (F.binds fun _ _ _ _ _ _ us hl=>match us,hl with | [_],_=>rfl) sc_is_made_row (fun ds d ⟨_,e,_⟩=>by rw [e];rfl) fun cdv A outer s H E ds d hr ⟨t,e,hok,e2⟩=>?_
 subst e e2
 rcases hok with hok | ⟨q,nums,hq,hl,hok,et⟩
 ·obtain ⟨j,s0,t0,goes,way,hq,hw,et⟩:=id hok
  subst et
  refine Ac (Am (k:=false) (AX (BB (k:=false) (k':=false) (AD (k:=true) (AB (B9 (n:="tuple") (evv 0) rfl T.b_isinstance rfl T.b_tuple (by decide +kernel) (by rfl)))) (fun _=>BB (k:=false) (k':=false) (As (Al (At "len" (Aa (evv 0) Ad) (by walk_at "cd") rfl T.b_len (by decide +kernel)) Ab (by walk_at "od") (Ak _)) rfl) (fun _=>BR (AD (k:=true) (AB (B9 (n:="str") (Aq (evv 0) Ab (Aj (by decide) rfl)) rfl T.b_isinstance rfl T.b_str (by decide +kernel) (by rfl)))))))) (fun h=>by cases h) (fun _=>Af)) ?_
  exact Ag (Am (k:=true) (Al (Aq (evv 0) Ab (Aj (by decide) rfl)) Ah (BL (by walk_at "un") (by decide +kernel) (by decide +kernel) (by walk_at "dp") (by decide +kernel)) (Ak _)) (fun _=>Ag (Ar (An D_is_test (by walk_at "rm") rfl (Aa (evv 0) Ad) ⟨_,rfl,hok,rfl⟩))) (fun h=>by cases h))
 ·subst et
  have hs3:=KB q hq
  refine Ac (Am (k:=false) (AX (BB (k:=false) (k':=false) (AD (k:=true) (AB (B9 (n:="tuple") (evv 0) rfl T.b_isinstance rfl T.b_tuple (by decide +kernel) (by rfl)))) (fun _=>BB (k:=false) (k':=false) (As (Al (At "len" (Aa (evv 0) Ad) (by walk_at "cd") rfl T.b_len (by decide +kernel)) Ab (by walk_at "od") (Ak _)) (by show (((_ + 1:Nat):Int)==0)=false;exact beq_eq_false_iff_ne.mpr (by omega))) (fun _=>BR (AD (k:=true) (AB (B9 (n:="str") (Aq (evv 0) Ab (Aj (by decide) rfl)) rfl T.b_isinstance rfl T.b_str (by decide +kernel) (by rfl)))))))) (fun h=>by cases h) (fun _=>Af)) ?_
  refine Ac (Am (k:=false) (Al (Aq (evv 0) Ab (Aj (by decide) rfl)) Ah (BL (by walk_at "un") (NJ q hq) (by decide +kernel) (by walk_at "dp") (Mq q hq)) (Ak _)) (fun h=>by cases h) (fun _=>Af)) ?_
  refine Ac (Am (k:=false) (LU T.t_made_parts rfl (Aq (evv 0) Ab (Aj (by decide) rfl)) (M_ hq)) (fun h=>by cases h) (fun _=>Af)) ?_
  refine Ac (A2 (i:=1) sc_is_made_row.nd rfl (Or.inl rfl) (Jv T.t_made_parts rfl (Aq (evv 0) Ab (Aj (by decide) rfl)) (M_ hq))) ?_
  refine Ac (Am (k:=false) (Al (At "len" (Aa (evv 0) Ad) (by walk_at "cd") rfl T.b_len (by decide +kernel)) (Ae Ab (At "len" (Aa (evv 1) Ad) (Lh (by rw [sizeLine_eq];show q.2.cps.size≤_;omega)) rfl T.b_len (by decide +kernel)) Bk) (BI (by walk_at "un") rfl rfl (by walk_at "dp") ?ln) (Ak _)) (fun h=>by cases h) (fun _=>Af)) ?_
  case ln=>
   rw [List.length_cons,List.length_map,hl]
   show (!(((q.2.cps.size + 1:Nat):Int)==1 + (q.2.cps.size:Int)))=false
   rw [show ((q.2.cps.size + 1:Nat):Int)=1 + (q.2.cps.size:Int) by omega]
   simp
  refine Ag (Ar (Ap (At "all" (ds:=[.list (((q.2.cps.toList.zip nums).map fun _=>true).map PyData.bool)]) (Aa (Ap (Bi (ix:=[]) (N:=["part","number"]) (B:=JZ) (as:=q.2.cps.toList.zip nums) (D:=ML) (fun _=>true) (fun _=>PyData.bool true) rfl (of_decide_eq_true (by kernel_rfl)) (Gb (Ce (AI (by decide)) (Ce (AI (by decide)) Gg)))
   (QS (QW (evv 1) (Ap (Ha (evv 0) (DT Ab) F_ (fun h=>by have:=h.1;simp [HT.sIx] at this)) (by rw [QG])) (KO q hq) (by rw [List.length_map,hl]) rfl T.b_zip) (R7 _ _)) (by rw [List.length_zip,sizeLine_eq,Array.length_toList];omega) (fun _ _=>IO _ _) (fun _ _ _ _ _=>BK rfl (Az (Av (i:=0) (show List.Nodup (["part","number"]:List Str) by decide +kernel) rfl (Or.inl rfl)) (Az (Av (i:=1) (show List.Nodup (["part","number"]:List Str) by decide +kernel) rfl (Or.inl rfl)) Bu))) (fun a ha cl C s H fp=>BU)
   (fun a ha hP cl C s H fp=>Ap (An D_belI (by walk_at "rm") rfl (Aa (evv 1) (Aa (Jv T.t_made_bounds rfl (evv 0) (Q9 (Ja q hq a.1 (List.of_mem_zip ha).1))) Ad)) ⟨_,_,rfl,rfl⟩) (congrArg PyData.bool (Bv (hok a ha).1 (hok a ha).2)))) ?q1) Ad) (GM rfl) rfl T.b_all (by decide +kernel)) (congrArg PyData.bool (HG _))))
  case q1=>rw [AA,List.map_map];rfl
structure PieceOk (st:Int) (ps:List (Int×Int)) (rows ways:List PyData):Prop where
 s0:0≤st
 s1:st < 4096
 p1:1≤ps.length
 p60:ps.length≤60
 pok:Bw 4096 0 (-1) ps
 r60:rows.length≤60
 wl:ways.length=rows.length + 1
 rok:∀r∈rows,RowOk r
 wok:∀y∈ways,WayOk y
def LP (ds:List PyData):Prop:=∃st ps rows ways,ds=[.int st,.tuple (ps.map prD),.tuple rows,.tuple ways]∧PieceOk st ps rows ways
theorem Hg (T:TxtP K mg w.params) {f:Addr} {fd:FuncData} (D_wrdI:DFn P w K mg base 2 "is_word" Ic) (D_are_pairs:DFn P w K mg base 3 "are_pairs" DL) (D_is_way:DFn P w K mg base 5 "is_way" GQ) (D_is_made_row:DFn P w K mg base 7 "is_made_row" HN) (F:Fun K "check_piece" "check_piece" C6 f fd) (hm:mg "check_piece"=some (.ref f)):DFn P w K mg base 8 "check_piece" (fun ds d=>LP ds∧d=.none):=by
 refine F.dataN hm (F.binds fun _ _ _ _ _ _ us hl=>match us,hl with | [_,_,_,_],_=>rfl) sc_check_piece (fun ds ⟨_,_,_,_,e,_⟩=>by rw [e];rfl) fun cdv A outer s H E ds hr ⟨st,ps,rows,ways,e,ok⟩=>?_
 subst e
 have hlp:((List.map prD ps).length:Int)=ps.length:=by rw [List.length_map]
 have p1:=ok.p1
 have p60:=ok.p60
 have r60:=ok.r60
 have wl:=ok.wl
 refine ⟨[some (.int st),some (.tuple (ps.map prD)),some (.tuple rows),some (.tuple ways),none,none],Ac (Am (k:=false) (AX (BB (k:=false) (k':=false) (AD (k:=true) (AB (Ap (An D_wrdI (by walk_at "rm") rfl (Aa (evv 0) Ad) ⟨_,rfl,rfl⟩) (congrArg PyData.bool (Bv ok.s0 ok.s1))))) (fun _=>BB (k:=false) (k':=false) (AD (k:=true) (LX ?c1 ?c3 Ab (At "len" (Aa (evv 1) Ad) (by walk_at "cd") rfl T.b_len (by decide +kernel)) (T.g_most_cells rfl))) (fun _=>BR (AD (k:=true) (AB (An D_are_pairs (by walk_at "rm") rfl (Aa (evv 1) (Aa Ab (Aa Ab Ad))) ⟨ps,4096,0,rfl,ok.pok,by decide,rfl⟩))))))) (fun h=>by cases h) (fun _=>Af)) ?_⟩
 case c1=>
  rw [hlp,←decide_eq_true (show (1:Int)≤(ps.length:Int) by omega)]
  exact HD
 case c3=>
  rw [hlp,←decide_eq_true (show (ps.length:Int)≤60 by omega)]
  exact HD
 refine Ac (Am (k:=false) (AX (BB (k:=false) (k':=false) (As (Al (At "len" (Aa (evv 2) Ad) (by walk_at "cd") rfl T.b_len (by decide +kernel)) (T.g_most_rows rfl) (by walk_at "od") (Ak _)) (decide_eq_false (by omega))) (fun _=>BR (As (Al (At "len" (Aa (evv 3) Ad) (by walk_at "cd") rfl T.b_len (by decide +kernel)) (Ae (At "len" (Aa (evv 2) Ad) (by walk_at "cd") rfl T.b_len (by decide +kernel)) Ab (by walk_at "od")) (by walk_at "od") (Ak _)) ?c2)))) (fun h=>by cases h) (fun _=>Af)) ?_
 case c2=>
  rw [wl]
  show (!(((rows.length + 1:Nat):Int)==(rows.length:Int) + 1))=false
  rw [show ((rows.length + 1:Nat):Int)=(rows.length:Int) + 1 by omega]
  simp
 refine Ac (KQ (k:=0) (as:=(List.range ways.length).zip ways) (D:=Lf) (g:=gTup K 2 (DD [4,5])) (B:=EF [4,5]) (fun _=>[some (.int st),some (.tuple (ps.map prD)),some (.tuple rows),some (.tuple ways),none,none]) PassesOwn.never rfl (P3 (evv 3) rfl T.b_enumerate) (BK rfl (Az (Av (i:=4) sc_check_piece.nd rfl (by first | exact Or.inl rfl | exact Or.inr rfl)) (Az (Av (i:=5) sc_check_piece.nd rfl (by first | exact Or.inl rfl | exact Or.inr rfl)) Bu))) (fun _ _=>DM [4,5] _ rfl) ?b1) Af
 intro i q hq
 have hqm:=List.mem_of_getElem? hq
 have hw:=ok.wok q.2 (List.of_mem_zip hqm).2
 refine Ek (G1:=[some (.int st),some (.tuple (ps.map prD)),some (.tuple rows),some (.tuple ways),some (.int (q.1:Int)),some q.2]) ?_ rfl ?fg
 case fg=>
  intro j d e
  match j,e with
  | 0,e=>exact e
  | 1,e=>exact e
  | 2,e=>exact e
  | 3,e=>exact e
  | 4,e=>cases e
  | 5,e=>cases e
  | n + 6,e=>cases e
 by_cases hk:q.1 < rows.length
 ·have hg:rows[q.1]?=some rows[q.1]:=List.getElem?_eq_getElem hk
  refine Ac (Am (k:=false) (AX (BB (k:=false) (k':=false) (AD (k:=true) (AB (An D_is_way (by walk_at "rm") rfl (Aa (evv 5) Ad) ⟨_,rfl,hw,rfl⟩))) (fun _=>BR (AX (AF (k:=true) (k':=false) (As (Al (evv 4) (At "len" (Aa (evv 2) Ad) (by walk_at "cd") rfl T.b_len (by decide +kernel)) (by walk_at "od") (Ak _)) (decide_eq_true (by omega))) (fun _=>Bo (AD (k:=true) (AB (An D_is_made_row (by walk_at "rm") rfl (Aa (Aq (evv 2) (evv 4) (Aj (by omega) (by rw [Int.toNat_natCast];exact hg))) Ad) ⟨_,rfl,ok.rok _ (List.getElem_mem hk),rfl⟩))))))))) (fun h=>by cases h) (fun _=>Af)) Af
 ·refine Ac (Am (k:=false) (AX (BB (k:=false) (k':=false) (AD (k:=true) (AB (An D_is_way (by walk_at "rm") rfl (Aa (evv 5) Ad) ⟨_,rfl,hw,rfl⟩))) (fun _=>BR (AX (AF (k:=false) (k':=false) (As (Al (evv 4) (At "len" (Aa (evv 2) Ad) (by walk_at "cd") rfl T.b_len (by decide +kernel)) (by walk_at "od") (Ak _)) (decide_eq_false (by omega))) (fun h=>by cases h)))))) (fun h=>by cases h) (fun _=>Af)) Af
abbrev Df:Stmt:=inClass (top 53) 0
theorem Hf:FnScope ["self","start","text","rows","ways"] ["self","start","text","rows","ways"] (Ai Df):=by walk_at "s"
def LayD (d:PyData) (n:Nat):Prop:=d.canLay0=true∧d.depth≤n
theorem Nv {l:List PyData} {n:Nat} (h:∀d∈l,LayD d n):PyData.canLayAll0 l=true∧PyData.depthAll l≤n:=by
 have e:l.map (fun d=>d)=l:=List.map_id' l
 exact ⟨by rw [←e];exact Ec l fun d hd=>(h d hd).1,by rw [←e];exact EM l fun d hd=>(h d hd).2⟩
theorem FZ {l:List PyData} {n:Nat} (h:∀d∈l,LayD d n):LayD (.tuple l) (n + 1):=by
 obtain ⟨h1,h2⟩:=Nv h
 refine ⟨by simpa [PyData.canLay0] using h1,?_⟩
 simp [PyData.depth]
 omega
theorem By (i:Int) (n:Nat):LayD (.int i) (n + 1):=⟨rfl,by simp [PyData.depth]⟩
theorem JQ (i:Bool) (n:Nat):LayD (.bool i) (n + 1):=⟨rfl,by simp [PyData.depth]⟩
abbrev Ba (st:Int) (ps:List (Int×Int)) (rows ways:List PyData):List PyData:=[.int st,.tuple (ps.map prD),.tuple rows,.tuple ways]
local macro_rules | `(tactic| walk_at "nk")=>`(tactic| first | decide | (simp only [List.map_append,List.map_cons,List.map_nil,List.nil_append,List.cons_append,List.length_append,List.length_cons,List.length_nil];decide))
structure ClsP (K:PySem.W.Frag) (mg:Str→Option Value) (C:Addr):Prop where
 cl:Cls K C
 n1:NoAttr K C "start"
 n2:NoAttr K C "text"
 n3:NoAttr K C "rows"
 n4:NoAttr K C "ways"
 at_:mg "Piece"=some (.ref C)
theorem RecOk.noL {d:PyData} (h:RecOk d):noL d=true:=by
 obtain ⟨n,ps,_,_,_,_,rfl⟩:=h
 exact LJ n ps
theorem Ck {l:List PyData} (h:∀d∈l,noL d=true):noLs l=true:=by
 induction l with
 | nil=>rfl
 | cons x l ih=>
   unfold noLs
   rw [h x List.mem_cons_self,ih fun d hd=>h d (List.mem_cons_of_mem _ hd)]
   rfl
theorem TruthOk.noL {d:PyData} (h:TruthOk d):noL d=true:=by
 obtain ⟨yes,j,s,t,_,_,_,_,_,rfl⟩:=h
 rfl
theorem WayOk.noL {d:PyData} (h:WayOk d):noL d=true:=by
 obtain ⟨dn,bs,t1,t2,pl,_,_,_,hbs,ht1,ht2,hpl,rfl⟩:=h
 show (true && (noLs bs && ((L2.noL t1 && (L2.noL t2 && true)) && (L2.noL pl && true))))=true
 rw [Ck fun d hd=>(hbs d hd).noL,ht1.noL,ht2.noL,hpl.noL]
 rfl
theorem RowOk.noL {d:PyData} (h:RowOk d):noL d=true:=by
 rcases h with ⟨j,s,t,goes,way,_,hw,rfl⟩ | ⟨q,nums,hq,_,_,rfl⟩
 ·show (true && (true && (true && (true && (true && (L2.noL way && true))))))=true
  rw [hw.noL];rfl
 ·show (true && noLs (nums.map PyData.int))=true
  rw [Ck fun d hd=>by obtain ⟨z,_,rfl⟩:=List.mem_map.mp hd;rfl]
  rfl
theorem Pe (ps:List (Int×Int)):noL (.tuple (ps.map prD))=true:=Ck fun d hd=>by
 obtain ⟨q,_,rfl⟩:=List.mem_map.mp hd
 rfl
abbrev dfP (st:Int) (ps:List (Int×Int)) (rows ways:List PyData):DF:=[("start",.int st),("text",.tuple (ps.map prD)),("rows",.tuple rows),("ways",.tuple ways)]
def Se (ds:List PyData) (lf:LF) (df:DF):Prop:=∃st ps rows ways,PieceOk st ps rows ways∧ds=Ba st ps rows ways∧lf=[]∧df=dfP st ps rows ways
theorem OK (T:TxtP K mg w.params) {C:Addr} (CP:ClsP K mg C) (D_check_piece:DFn P w K mg base 8 "check_piece" (fun ds d=>LP ds∧d=.none)) {f:Addr} {fd:FuncData} (F:Fun K "__init__" "Piece.__init__" Df f fd) (hm:Mk K C f):OIFn P w K mg base 9 C Se:=by
 refine F.objI hm (F.binds fun _ _ _ _ _ _ us hl=>match us,hl with | [_,_,_,_,_],_=>rfl) Hf (fun ds lf df ⟨_,_,_,_,_,e,_⟩=>by rw [e];rfl) fun cdv A outer s H E a dx H0 ds lf df hr ⟨st,ps,rows,ways,ok,e,e6,e7⟩=>?_
 subst e e6 e7
 have nr:noL (.tuple rows)=true:=Ck fun d hd=>(ok.rok d hd).noL
 have nw:noL (.tuple ways)=true:=Ck fun d hd=>(ok.wok d hd).noL
 have G0:(none::Bm ["start","text","rows","ways"] (Ba st ps rows ways):Gam)=[none,some (.int st),some (.tuple (ps.map prD)),some (.tuple rows),some (.tuple ways)]:=rfl
 rw [G0]
 refine Bg (Lu (An D_check_piece (d:=.none) (by walk_at "rm") rfl (Aa (evv 1) (Aa (evv 2) (Aa (evv 3) (Aa (evv 4) Ad)))) ⟨⟨st,ps,rows,ways,rfl,ok⟩,rfl⟩)) ?_
 refine Bg (Ej CP.cl CP.n1 (pv 0) (evv 1) rfl (by walk_at "nk") (by walk_at "nk") (by decide) (by walk_at "nk")) ?_
 refine Bg (Ej CP.cl CP.n2 (pv 0) (A8 "tuple" (Aa (evv 2) Ad) DU rfl T.b_tuple (by decide +kernel)) (Pe ps) (by walk_at "nk") (by walk_at "nk") (by decide) (by walk_at "nk")) ?_
 refine Bg (Ej CP.cl CP.n3 (pv 0) (A8 "tuple" (Aa (evv 3) Ad) DU rfl T.b_tuple (by decide +kernel)) nr (by walk_at "nk") (by walk_at "nk") (by decide) (by walk_at "nk")) ?_
 exact Bg (Ej CP.cl CP.n4 (pv 0) (A8 "tuple" (Aa (evv 4) Ad) DU rfl T.b_tuple (by decide +kernel)) nw (by walk_at "nk") (by walk_at "nk") (by decide) (by walk_at "nk")) L3
end
section
variable {P:Program} {w:World} {K:PySem.W.Frag} {mg:Str→Option Value} {base:Heap}
def JH (c:Int) (k:Nat):Bool:=((c + 48271 * (0 + (k:Int)) * (0 + (k:Int))) / 7 % 5==0)
def tIt (cs:List Int) (c:Int):Nat→List (Int×Int)
 | 0=>[]
 | k + 1=>if JH c k=true∧(tIt cs c k).length < 60 then tIt cs c k++[((k:Int),cs.getD k 0)] else tIt cs c k
def textOf (cs:List Int) (c:Int):List (Int×Int):=if (tIt cs c cs.length).length=0 then [(0,cs.getD 0 0)] else tIt cs c cs.length
theorem NC {cs:List Int} (hc:∀c∈cs,0≤c∧c < 4096) (h128:cs.length≤128) (c:Int):∀k,k≤cs.length→Bw 4096 0 (-1) (tIt cs c k)∧FL (-1) (tIt cs c k) < (k:Int)∧(tIt cs c k).length≤60
 | 0,_=>⟨trivial,(by decide:(-1:Int) < ((0:Nat):Int)),(by decide:0≤60)⟩
 | k + 1,hk=>by
   obtain ⟨h1,h2,h3⟩:=NC hc h128 c k (by omega)
   have hg:0≤cs.getD k 0∧cs.getD k 0 < 4096:=by
    have hl:k < cs.length:=by omega
    rw [List.getD_eq_getElem?_getD,List.getElem?_eq_getElem hl]
    exact hc _ (List.getElem_mem hl)
   unfold tIt
   split
   ·refine ⟨C4 (by show (k:Int) < 4096;omega) hg.1 hg.2 _ _ h1 h2,?_,by rw [List.length_append];show _ + 1≤_;omega⟩
    rw [CW]
    show (k:Int) < ((k + 1:Nat):Int)
    omega
   ·exact ⟨h1,by omega,h3⟩
theorem MB {cs:List Int} (hc:∀c∈cs,0≤c∧c < 4096) (h16:16≤cs.length) (h128:cs.length≤128) (c:Int):Bw 4096 0 (-1) (textOf cs c)∧1≤(textOf cs c).length∧(textOf cs c).length≤60:=by
 obtain ⟨h1,_,h3⟩:=NC hc h128 c cs.length (Nat.le_refl _)
 unfold textOf
 split
 ·have hg:0≤cs.getD 0 0∧cs.getD 0 0 < 4096:=by
   have hl:0 < cs.length:=by omega
   rw [List.getD_eq_getElem?_getD,List.getElem?_eq_getElem hl]
   exact hc _ (List.getElem_mem hl)
  exact ⟨⟨(by decide:(-1:Int) < 0),(by decide:(0:Int) < 4096),hg.1,hg.2,trivial⟩,(by decide:1≤1),(by decide:1≤60)⟩
 ·exact ⟨h1,by omega,h3⟩
def Kr (ds:List PyData) (d:PyData):Prop:=∃(cs:List Int) (c:Int),ds=[.list (cs.map PyData.int),.int c]∧16≤cs.length∧cs.length≤128∧d=.tuple ((textOf cs c).map prD)
theorem IB (cs:List Int) (c:Int):∀k,(tIt cs c k).length≤60
 | 0=>(by decide:0≤60)
 | k + 1=>by
   have h:=IB cs c k
   unfold tIt
   split
   ·rw [List.length_append];show _ + 1≤_;omega
   ·exact h
theorem KH (T:TxtP K mg w.params) {f:Addr} {fd:FuncData} (F:Fun K "_law_text" "_law_text" En f fd) (hm:mg "_law_text"=some (.ref f)):DFn P w K mg base 1 "_law_text" Kr:=by
 refine F.data hm (F.binds fun _ _ _ _ _ _ us hl=>match us,hl with | [_,_],_=>rfl) sc_law_text (fun ds d ⟨_,_,e,_⟩=>by rw [e];rfl) fun cdv A outer s H E ds d hr ⟨cs,c,e,h16,h128,e2⟩=>?_
 subst e e2
 have hlm:((List.map PyData.int cs).length:Int)=cs.length:=by rw [List.length_map]
 refine IR (i:=2) sc_law_text.nd rfl (Or.inl rfl) (by show 2 < 4;decide) fun H0 p=>?_
 refine DH (Mid:=fun G ds=>(∃b,G=[some (.list (cs.map PyData.int)),some (.int c),none,b])∧ds=(tIt cs c cs.length).map prD) ?_ (DH (Mid:=fun G ds=>(∃b,G=[some (.list (cs.map PyData.int)),some (.int c),none,b])∧ds=(textOf cs c).map prD) ?_ (IT ?_))
 ·refine EG (j:=3) (lo:=0) (n:=(cs.length:Int).toNat) (fun k G ds=>(∃b,G=[some (.list (cs.map PyData.int)),some (.int c),none,b])∧ds=(tIt cs c k).map prD) PassesOwn.never rfl (by decide) (Av (i:=3) sc_law_text.nd rfl (Or.inl rfl)) ?_ ?_ fun G ds h=>h
  ·rintro G ds ⟨rfl,rfl⟩
   exact ⟨⟨⟨_,rfl⟩,rfl⟩,Ju (Ap (At "len" (Aa (evv 0) Ad) (by walk_at "cd") rfl T.b_len (by decide +kernel)) (congrArg PyData.int hlm)) (by omega) (by omega) rfl T.b_range⟩
  ·intro k hk
   have hkl:k < cs.length:=by omega
   have hl60:=IB cs c k
   refine Be ?_ (BM fun _ _ h=>h)
   have e0:(0 + (k:Int)).toNat=k:=by omega
   by_cases hcnd:JH c k=true∧(tIt cs c k).length < 60
   ·have en:tIt cs c (k + 1)=tIt cs c k++[((k:Int),cs.getD k 0)]:=by
     show (if JH c k=true∧(tIt cs c k).length < 60 then _ else _)=_
     rw [if_pos hcnd]
    rw [en]
    refine HH (PreA:=fun G ds=>G=[some (.list (cs.map PyData.int)),some (.int c),none,some (.int (0 + (k:Int)))]∧ds=(tIt cs c k).map prD) (PreB:=fun _ _=>False) ?_ (Be (Cl ?_ (pv 2)) (BM fun _ _ h=>h)) (fun pins s σ H D I ⟨⟨_,_,f,_⟩,_⟩=>f.elim)
    ·rintro G ds ⟨G',⟨⟨b,rfl⟩,rfl⟩,rfl⟩
     refine .inl ⟨AX (AF (k:=true) (k':=true) (As (Al (Ae (Ae (Ae (evv 1) (Ae (Ae Ab (evv 3) (by walk_at "od")) (evv 3) (by walk_at "od")) (by walk_at "od")) Ab (by walk_at "od")) Ab (by walk_at "od")) Ab (by walk_at "od") (Ak _)) hcnd.1) (fun _=>Bo (As (Al (At "len" (Aa (evv 2) Ad) (by walk_at "cd") rfl T.b_len (by decide +kernel)) Ab (by walk_at "od") (Ak _)) (by rw [List.length_map];exact decide_eq_true (by omega))))),rfl,rfl⟩
    ·rintro G ds ⟨rfl,rfl⟩
     refine ⟨prD ((k:Int),cs.getD k 0),Ap (AG (Aa (evv 3) (Aa (Ao (evv 0) (evv 3) (AW (by omega) (by omega))) Ad)) (by walk_at "sz")) ?_,rfl,by rw [List.length_map,sizeLine_eq];omega,⟨_,rfl⟩,by rw [List.map_append];rfl⟩
     rw [e0,Int.zero_add]
     rfl
   ·have en:tIt cs c (k + 1)=tIt cs c k:=by
     show (if JH c k=true∧(tIt cs c k).length < 60 then _ else _)=_
     rw [if_neg hcnd]
    rw [en]
    refine HH (PreA:=fun _ _=>False) (PreB:=fun G ds=>(∃b,G=[some (.list (cs.map PyData.int)),some (.int c),none,b])∧ds=(tIt cs c k).map prD) ?_ (fun pins s σ H D I ⟨⟨_,_,f,_⟩,_⟩=>f.elim) (BM fun _ _ h=>h)
    rintro G ds ⟨G',⟨⟨b,rfl⟩,rfl⟩,rfl⟩
    refine .inr ⟨?_,⟨_,rfl⟩,rfl⟩
    cases ht:JH c k with
    | true=>exact AX (AF (k:=true) (k':=false) (As (Al (Ae (Ae (Ae (evv 1) (Ae (Ae Ab (evv 3) (by walk_at "od")) (evv 3) (by walk_at "od")) (by walk_at "od")) Ab (by walk_at "od")) Ab (by walk_at "od")) Ab (by walk_at "od") (Ak _)) ht) (fun _=>Bo (As (Al (At "len" (Aa (evv 2) Ad) (by walk_at "cd") rfl T.b_len (by decide +kernel)) Ab (by walk_at "od") (Ak _)) (by rw [List.length_map];exact decide_eq_false (fun z=>hcnd ⟨ht,by omega⟩)))))
    | false=>exact AX (AF (k:=false) (k':=false) (As (Al (Ae (Ae (Ae (evv 1) (Ae (Ae Ab (evv 3) (by walk_at "od")) (evv 3) (by walk_at "od")) (by walk_at "od")) Ab (by walk_at "od")) Ab (by walk_at "od")) Ab (by walk_at "od") (Ak _)) ht) (fun h=>by cases h))
 ·have hl60:=IB cs c cs.length
  by_cases h0:(tIt cs c cs.length).length=0
  ·have en:textOf cs c=[(0,cs.getD 0 0)]:=by unfold textOf;rw [if_pos h0]
   have e0:tIt cs c cs.length=[]:=List.eq_nil_of_length_eq_zero h0
   rw [en,e0]
   refine HH (PreA:=fun G ds=>(∃b,G=[some (.list (cs.map PyData.int)),some (.int c),none,b])∧ds=[]) (PreB:=fun _ _=>False) ?_ (Be (Cl ?_ (pv 2)) (BM fun _ _ h=>h)) (fun pins s σ H D I ⟨⟨_,_,f,_⟩,_⟩=>f.elim)
   ·rintro G ds ⟨⟨b,rfl⟩,rfl⟩
    exact .inl ⟨As (Al (At "len" (Aa (evv 2) Ad) (by walk_at "cd") rfl T.b_len (by decide +kernel)) Ab (by walk_at "od") (Ak _)) rfl,⟨_,rfl⟩,rfl⟩
   ·rintro G ds ⟨⟨b,rfl⟩,rfl⟩
    exact ⟨prD (0,cs.getD 0 0),Ap (AG (Aa Ab (Aa (Ao (evv 0) Ab (AW (by decide) (by omega))) Ad)) (by walk_at "sz")) rfl,rfl,by rw [sizeLine_eq];decide,⟨_,rfl⟩,rfl⟩
  ·have en:textOf cs c=tIt cs c cs.length:=by unfold textOf;rw [if_neg h0]
   rw [en]
   refine HH (PreA:=fun _ _=>False) (PreB:=fun G ds=>(∃b,G=[some (.list (cs.map PyData.int)),some (.int c),none,b])∧ds=(tIt cs c cs.length).map prD) ?_ (fun pins s σ H D I ⟨⟨_,_,f,_⟩,_⟩=>f.elim) (BM fun _ _ h=>h)
   rintro G ds ⟨⟨b,rfl⟩,rfl⟩
   exact .inr ⟨As (Al (At "len" (Aa (evv 2) Ad) (by walk_at "cd") rfl T.b_len (by decide +kernel)) Ab (by walk_at "od") (Ak _)) (by rw [List.length_map];exact beq_eq_false_iff_ne.mpr (by omega)),⟨_,rfl⟩,rfl⟩
 ·rintro G ds ⟨⟨b,rfl⟩,rfl⟩
  exact Ag (Ar (A8 "tuple" (Aa (evv 2) Ad) (by walk_at "cd") rfl T.b_tuple (by decide +kernel)))
def cF4 (a b:Int):Int:=(a * 2147483629 + b) * 2147483587 + (b + a) * (b + 7) % 2147483587
def cF3 (a b:Int):Int:=cF4 a (b * b % 2147483629)
def cF2 (a k:Int):Int:=cF3 a ((a + 69621 * (k + 1)) * 40692 % 998244353)
def cF1 (a k:Int):Int:=cF2 (a * a % 1000000007) k
def cF0 (c k:Int):Int:=cF1 ((c % 2147483647 + 977 * k + 1) * 48271 % 2147483647) k
def cIn (ns:List Int) (k:Nat):Int:=if 0 < ns.length then ns.getD (k % ns.length) 0 % 10 ^ 60 else 0
def Bb (ns:List Int) (k:Nat):Int:=if 10 ^ 18≤cIn ns k∧k < ns.length then cIn ns k else cF0 (cIn ns k) k
theorem M0 (ns:List Int) (k:Nat):0≤cIn ns k∧cIn ns k < 10 ^ 60:=by
 unfold cIn
 split
 ·omega
 ·omega
def G7 (ds:List PyData) (d:PyData):Prop:=∃(ns:List Int) (k:Nat),ds=[.list (ns.map .int),.int (k:Int)]∧ns.length≤63∧k≤1000∧d=.int (Bb ns k)
theorem Kj (T:TxtP K mg w.params) {f:Addr} {fd:FuncData} (F:Fun K "_law_cell" "_law_cell" Ep f fd) (hm:mg "_law_cell"=some (.ref f)):DFn P w K mg base 1 "_law_cell" G7:=by
 refine F.data hm (F.binds fun _ _ _ _ _ _ us hl=>match us,hl with | [_,_],_=>rfl) sc_law_cell (fun ds d ⟨_,_,e,_⟩=>by rw [e];rfl) fun cdv A outer s H E ds d hr ⟨ns,k,e,hns,hk,e2⟩=>?_
 subst e e2
 have hlm:((List.map PyData.int ns).length:Int)=ns.length:=by rw [List.length_map]
 refine Ac (A2 (i:=2) sc_law_cell.nd rfl (by first | exact Or.inl rfl | exact Or.inr rfl) Ab) ?_
 refine Ac (G1:=[some (.list (ns.map PyData.int)),some (.int (k:Int)),some (.int (cIn ns k)),none,none,none]) ?_ ?_
 ·by_cases hz:0 < ns.length
  ·have hp:0 < ((List.map PyData.int ns).length:Int):=by omega
   have i0:0≤(k:Int) % ((List.map PyData.int ns).length:Int):=Int.emod_nonneg _ (by omega)
   have i1:(k:Int) % ((List.map PyData.int ns).length:Int) < ns.length:=by rw [←hlm];exact Int.emod_lt_of_pos _ hp
   have e:cIn ns k=ns.getD ((k:Int) % ((List.map PyData.int ns).length:Int)).toNat 0 % 10 ^ 60:=by
    unfold cIn
    rw [if_pos hz,hlm]
    congr 2
   refine Am (k:=true) (As (Al (At "len" (Aa (evv 0) Ad) (by walk_at "cd") rfl T.b_len (by decide +kernel)) Ab (by walk_at "od") (Ak _)) (by simp;omega)) (fun _=>Ac (A2 (i:=2) (d:=.int (cIn ns k)) sc_law_cell.nd rfl (Or.inl rfl) (Ap (Ae (Ao (evv 0) (Ae (evv 1) (At "len" (Aa (evv 0) Ad) (by walk_at "cd") rfl T.b_len (by decide +kernel)) (by walk_at "od")) (AW i0 i1)) (Ae Ab Ab (by walk_at "od")) (by walk_at "od")) (by rw [e];rfl))) Af) (fun h=>by cases h)
  ·have e:cIn ns k=0:=by unfold cIn;rw [if_neg hz]
   rw [e]
   exact Am (k:=false) (As (Al (At "len" (Aa (evv 0) Ad) (by walk_at "cd") rfl T.b_len (by decide +kernel)) Ab (by walk_at "od") (Ak _)) (by simp;exact List.eq_nil_of_length_eq_zero (by omega))) (fun h=>by cases h) (fun _=>Af)
 have hc:=M0 ns k
 unfold Bb
 generalize cIn ns k=c at hc
 by_cases hb:10 ^ 18≤c∧k < ns.length
 ·rw [if_pos hb]
  refine Ag (Am (k:=true) (As (AX (AF (Al (evv 2) (Ae Ab Ab (by walk_at "od")) (by walk_at "od") (Ak _)) (fun _=>(Bo (Al (evv 1) (At "len" (Aa (evv 0) Ad) (by walk_at "cd") rfl T.b_len (by decide +kernel)) (by walk_at "od") (Ak _)))))) ?_) (fun _=>Ag (Ar (evv 2))) (fun h=>by cases h))
  rw [hlm,decide_eq_true (show (k:Int) < ns.length by omega)]
  show (decide ((10:Int) ^ 18≤c) && true)=true
  rw [decide_eq_true hb.1]
  rfl
 ·rw [if_neg hb]
  refine Ac (Am (k:=false) (As (AX (AF (Al (evv 2) (Ae Ab Ab (by walk_at "od")) (by walk_at "od") (Ak _)) (fun _=>(Bo (Al (evv 1) (At "len" (Aa (evv 0) Ad) (by walk_at "cd") rfl T.b_len (by decide +kernel)) (by walk_at "od") (Ak _)))))) ?_) (fun h=>by cases h) (fun _=>Af)) ?_
  ·rw [hlm]
   show (decide ((10:Int) ^ 18≤c) && decide ((k:Int) < ns.length))=false
   by_cases h1:(10:Int) ^ 18≤c
   ·rw [decide_eq_false (show ¬(k:Int) < ns.length by omega),Bool.and_false]
   ·rw [decide_eq_false h1,Bool.false_and]
  unfold cF0
  refine Ac (A2 (i:=3) (d:=.int ((c % 2147483647 + 977 * (k:Int) + 1) * 48271 % 2147483647)) sc_law_cell.nd rfl (Or.inl rfl) (Ap (Ae (Ae (Ae (Ae (Ae (evv 2) Ab (by walk_at "od")) (Ae Ab (evv 1) (by walk_at "od")) (by walk_at "od")) Ab (by walk_at "od")) Ab (by walk_at "od")) Ab (by walk_at "od")) rfl)) ?_
  have h1:0≤(c % 2147483647 + 977 * (k:Int) + 1) * 48271 % 2147483647∧(c % 2147483647 + 977 * (k:Int) + 1) * 48271 % 2147483647 < 2147483647:=by omega
  generalize (c % 2147483647 + 977 * (k:Int) + 1) * 48271 % 2147483647=a at h1
  unfold cF1
  refine Ac (A2 (i:=3) (d:=.int (a * a % 1000000007)) sc_law_cell.nd rfl (Or.inl rfl) (Ap (Ae (Ae (evv 3) (evv 3) (by walk_at "od")) Ab (by walk_at "od")) rfl)) ?_
  have h2:0≤a * a % 1000000007∧a * a % 1000000007 < 1000000007:=by omega
  generalize a * a % 1000000007=a2 at h2
  unfold cF2
  refine Ac (A2 (i:=4) (d:=.int ((a2 + 69621 * ((k:Int) + 1)) * 40692 % 998244353)) sc_law_cell.nd rfl (Or.inl rfl) (Ap (Ae (Ae (Ae (evv 3) (Ae Ab (Ae (evv 1) Ab (by walk_at "od")) (by walk_at "od")) (by walk_at "od")) Ab (by walk_at "od")) Ab (by walk_at "od")) rfl)) ?_
  have h3:0≤(a2 + 69621 * ((k:Int) + 1)) * 40692 % 998244353∧(a2 + 69621 * ((k:Int) + 1)) * 40692 % 998244353 < 998244353:=by omega
  generalize (a2 + 69621 * ((k:Int) + 1)) * 40692 % 998244353=b at h3
  unfold cF3
  refine Ac (A2 (i:=4) (d:=.int (b * b % 2147483629)) sc_law_cell.nd rfl (Or.inl rfl) (Ap (Ae (Ae (evv 4) (evv 4) (by walk_at "od")) Ab (by walk_at "od")) rfl)) ?_
  have h4:0≤b * b % 2147483629∧b * b % 2147483629 < 2147483629:=by omega
  generalize b * b % 2147483629=b2 at h4
  unfold cF4
  refine Ac (A2 (i:=5) (d:=.int ((b2 + a2) * (b2 + 7) % 2147483587)) sc_law_cell.nd rfl (Or.inl rfl) (Ap (Ae (Ae (Ae (evv 4) (evv 3) (by walk_at "od")) (Ae (evv 4) Ab (by walk_at "od")) (by walk_at "od")) Ab (by walk_at "od")) rfl)) ?_
  exact Ag (Ar (Ap (Ae (Ae (Ae (Ae (evv 3) Ab (by walk_at "od")) (evv 4) (by walk_at "od")) Ab (by walk_at "od")) (evv 5) (by walk_at "od")) rfl))
theorem RW {x:Str} {a:Nat} {i:Int} (e:x.cps.toList=[a]) (h1:0≤i∧i < BZ a):Fv x [i]:=by
 intro z hz
 rw [e] at hz
 simp only [List.zip_cons_cons,List.zip_nil_right,List.mem_cons,List.not_mem_nil,or_false] at hz
 subst hz
 exact h1
theorem Np {x:Str} {a b:Nat} {i j:Int} (e:x.cps.toList=[a,b]) (h1:0≤i∧i < BZ a) (h2:0≤j∧j < BZ b):Fv x [i,j]:=by
 intro z hz
 rw [e] at hz
 simp only [List.zip_cons_cons,List.zip_nil_right,List.mem_cons,List.not_mem_nil,or_false] at hz
 rcases hz with rfl | rfl
 ·exact h1
 ·exact h2
theorem FG {x:Str} {a b c:Nat} {i j k:Int} (e:x.cps.toList=[a,b,c]) (h1:0≤i∧i < BZ a) (h2:0≤j∧j < BZ b) (h3:0≤k∧k < BZ c):Fv x [i,j,k]:=by
 intro z hz
 rw [e] at hz
 simp only [List.zip_cons_cons,List.zip_nil_right,List.mem_cons,List.not_mem_nil,or_false] at hz
 rcases hz with rfl | rfl | rfl
 ·exact h1
 ·exact h2
 ·exact h3
theorem Pz {j:Nat} {r s t n c:Int} (hr:0≤r∧r < 12) (hs:0≤s∧s < 12) (ht:0≤t∧t < 12) (hn:0≤n∧n < 4096):RowOk (rowJ j r s t n c):=by
 have h16:0≤c / 5 % 16∧c / 5 % 16 < 4096:=by omega
 match j with
 | 0=>exact .inr ⟨("set","rn"),[r,n],List.mem_of_getElem? (i:=0) rfl,rfl,Np (a:=114) (b:=110) rfl hr hn,rfl⟩
 | 1=>exact .inr ⟨("copy","rs"),[r,s],List.mem_of_getElem? (i:=1) rfl,rfl,Np (a:=114) (b:=115) rfl hr hs,rfl⟩
 | 2=>exact .inr ⟨("cut","rs"),[r,s],List.mem_of_getElem? (i:=2) rfl,rfl,Np (a:=114) (b:=115) rfl hr hs,rfl⟩
 | 3=>exact .inr ⟨("add","rst"),[r,s,t],List.mem_of_getElem? (i:=3) rfl,rfl,FG (a:=114) (b:=115) (c:=116) rfl hr hs ht,rfl⟩
 | 4=>exact .inr ⟨("sub","rst"),[r,s,t],List.mem_of_getElem? (i:=4) rfl,rfl,FG (a:=114) (b:=115) (c:=116) rfl hr hs ht,rfl⟩
 | 5=>exact .inr ⟨("mul","rst"),[r,s,t],List.mem_of_getElem? (i:=5) rfl,rfl,FG (a:=114) (b:=115) (c:=116) rfl hr hs ht,rfl⟩
 | 6=>exact .inr ⟨("and","rst"),[r,s,t],List.mem_of_getElem? (i:=6) rfl,rfl,FG (a:=114) (b:=115) (c:=116) rfl hr hs ht,rfl⟩
 | 7=>exact .inr ⟨("xor","rst"),[r,s,t],List.mem_of_getElem? (i:=7) rfl,rfl,FG (a:=114) (b:=115) (c:=116) rfl hr hs ht,rfl⟩
 | 8=>exact .inr ⟨("addn","rsn"),[r,s,n],List.mem_of_getElem? (i:=8) rfl,rfl,FG (a:=114) (b:=115) (c:=110) rfl hr hs hn,rfl⟩
 | 9=>exact .inr ⟨("load","rsn"),[r,s,c / 5 % 16],List.mem_of_getElem? (i:=9) rfl,rfl,FG (a:=114) (b:=115) (c:=110) rfl hr hs h16,rfl⟩
 | 10=>exact .inr ⟨("store","snt"),[s,c / 5 % 16,t],List.mem_of_getElem? (i:=10) rfl,rfl,FG (a:=115) (b:=110) (c:=116) rfl hs h16 ht,rfl⟩
 | 11=>exact .inr ⟨("out","s"),[s],List.mem_of_getElem? (i:=11) rfl,rfl,RW (a:=115) rfl hs,rfl⟩
 | m + 12=>
   refine .inl ⟨tj (c % 3),s,(if c % 3=2 then 0 else t),_,_,⟨?_,?_,hs,?_,?_⟩,Jz (c / 6),rfl⟩
   ·unfold tj;split
    ·decide
    ·split <;> decide
   ·unfold tj;split
    ·decide
    ·split <;> decide
   ·split
    ·decide
    ·exact ht
   ·intro h
    unfold tj at h
    by_cases h0:c % 3=0
    ·rw [if_pos h0] at h;cases h
    ·rw [if_neg h0] at h
     by_cases h1:c % 3=1
     ·rw [if_pos h1] at h;cases h
     ·rw [if_pos (by omega)]
theorem P0 (ms:List Nat) (c:Int):RowOk (rowM ms c):=Pz (by unfold rr;omega) (O6 c) (Oe c) (LY _)
def stD (pg:List (Bool×Bool×Bool)) (cs bx:List Int) (b1 b2:Bool) (pl:Int):PyData:=.list [.list (pg.map A6),.list (cs.map PyData.int),.list (bx.map PyData.int),.tuple [.bool b1,.bool b2],.int pl]
structure StOk (pg:List (Bool×Bool×Bool)) (cs bx:List Int) (pl:Int):Prop where
 g1:1≤pg.length
 g8:pg.length≤8
 cl:cs.length=16 * pg.length
 cr:∀c∈cs,0≤c∧c < 4096
 bl:bx.length=4
 br:∀c∈bx,0≤c∧c < 4096
 p0:0≤pl
 p1:pl < 4096
def Ni (ds ws:List PyData):Prop:=∃(pg:List (Bool×Bool×Bool)) (cs bx:List Int) (b1 b2:Bool) (pl:Int),StOk pg cs bx pl∧ws=[.list (pg.map A6),.list (cs.map PyData.int),.list (bx.map PyData.int),.tuple [.bool b1,.bool b2],.int pl]
def JW (ds:List PyData):Prop:=∃ns:List Int,ds=[.list (ns.map PyData.int)]∧ns.length≤63
theorem IN (T:TxtP K mg w.params) {f:Addr} {fd:FuncData} (D_law_cell:DFn P w K mg base 1 "_law_cell" G7) (F:Fun K "_law_state" "_law_state" DK f fd) (hm:mg "_law_state"=some (.ref f)):RNFn P w K mg base 2 "_law_state" Ni JW:=by
 refine F.dataRN hm (F.binds fun _ _ _ _ _ _ us hl=>match us,hl with | [_],_=>rfl) sc_law_state (fun ds ⟨_,e,_⟩=>by rw [e];rfl) fun cdv A outer s H E ds hr ⟨ns,e,hns⟩=>?_
 subst e
 refine Gf (A2 (i:=1) (d:=.int (Bb ns 0)) sc_law_state.nd rfl (Or.inl rfl) (An D_law_cell (by walk_at "rm") rfl (Aa (evv 0) (Aa Ab Ad)) ⟨ns,0,rfl,hns,by decide,rfl⟩)) ?_
 generalize Bb ns 0=c0
 obtain ⟨m,hm8,hme⟩:∃m:Int,(1≤m∧m≤8)∧atI [PyData.int 1,PyData.int 2,PyData.int 3,PyData.int 8] (c0 % 4)=some (PyData.int m):=by
  have h:c0 % 4=0∨c0 % 4=1∨c0 % 4=2∨c0 % 4=3:=by omega
  rcases h with h | h | h | h <;> rw [h]
  ·exact ⟨1,by decide,rfl⟩
  ·exact ⟨2,by decide,rfl⟩
  ·exact ⟨3,by decide,rfl⟩
  ·exact ⟨8,by decide,rfl⟩
 refine Gf (A2 (i:=2) (d:=.int m) sc_law_state.nd rfl (Or.inl rfl) (Ao (Ay (Aa Ab (Aa Ab (Aa Ab (Aa Ab Ad)))) (by walk_at "sz")) (Ae (evv 1) Ab (by walk_at "od")) hme)) ?_
 refine NG (i:=3) sc_law_state.nd rfl (Or.inl rfl) (by show 3 < 7;decide) fun H0 p=>?_
 refine LK (Mid:=fun G ds=>(∃a b,G=[some (.list (ns.map PyData.int)),a,some (.int m),none,b,none,none])∧∃pq:List (Bool×Bool×Bool),ds=pq.map A6∧pq.length=m.toNat) ?_ (Ol ?_)
 ·refine EG (j:=4) (lo:=0) (n:=m.toNat) (fun k G ds=>(∃c b,G=[some (.list (ns.map PyData.int)),some (.int c),some (.int m),none,b,none,none])∧∃pq:List (Bool×Bool×Bool),ds=pq.map A6∧pq.length=k) PassesOwn.never rfl (by decide) (Av (i:=4) sc_law_state.nd rfl (Or.inl rfl)) ?_ ?_ ?_
  ·rintro G ds ⟨rfl,rfl⟩
   exact ⟨⟨⟨_,_,rfl⟩,[],rfl,rfl⟩,Ju (evv 2) (by omega) (by omega) rfl T.b_range⟩
  ·intro k hk
   have hk8:k < 8:=by omega
   refine Be (Mid:=fun G ds=>(∃c b,G=[some (.list (ns.map PyData.int)),some (.int c),some (.int m),none,b,none,none])∧∃pq:List (Bool×Bool×Bool),ds=pq.map A6∧pq.length=k + 1) (Cl ?_ (pv 3)) (Be (Ey (j:=1) sc_law_state.nd rfl (by decide) (Or.inl rfl) ?_) (BM fun _ _ h=>h))
   ·rintro G ds ⟨G',⟨⟨c,b,rfl⟩,pq,rfl,hl⟩,rfl⟩
    refine ⟨A6 (decide (c / 4 % 5 > 0),decide (c / 20 % 5 > 0),decide (c / 100 % 5 > 0)),Ap (AG (Aa (AC (Ae (Ae (evv 1) Ab (by walk_at "od")) Ab (by walk_at "od")) Ab (by walk_at "od") (Ak _)) (Aa (AC (Ae (Ae (evv 1) Ab (by walk_at "od")) Ab (by walk_at "od")) Ab (by walk_at "od") (Ak _)) (Aa (AC (Ae (Ae (evv 1) Ab (by walk_at "od")) Ab (by walk_at "od")) Ab (by walk_at "od") (Ak _)) Ad))) (by walk_at "sz")) rfl,rfl,by rw [List.length_map,sizeLine_eq];omega,⟨_,_,rfl⟩,pq++[(decide (c / 4 % 5 > 0),decide (c / 20 % 5 > 0),decide (c / 100 % 5 > 0))],?_,by rw [List.length_append,hl];rfl⟩
    rw [List.map_append]
    rfl
   ·rintro G ds ⟨⟨c,b,rfl⟩,hl⟩
    exact ⟨_,(Ae (evv 1) Ab (by walk_at "od")),rfl,⟨_,_,rfl⟩,hl⟩
  ·rintro G ds ⟨⟨c,b,e⟩,hl⟩
   exact ⟨⟨_,_,e⟩,hl⟩
 rintro G pg0 ⟨⟨a,b,rfl⟩,pg,rfl,hpg⟩
 obtain ⟨n16,hn16⟩:∃n:Nat,16 * m=(n:Int):=⟨(16 * m).toNat,by omega⟩
 refine Gf (Kg (ix:=[0]) (N:=["k","script"]) (B:=bind1) (as:=List.range (n16:Int).toNat) (D:=fun (i:Nat)=>PyData.int (0 + (i:Int))) (fun _=>true) (fun (k:Nat)=>PyData.int (Bb ns (k % 7) / (1 + 77 * (k:Int) * (k:Int)) % 4096)) rfl sc_law_state.nd (i:=5) rfl rfl (of_decide_eq_true (by kernel_rfl)) (AI (by decide))
  (Fu (Ap (Ae Ab (evv 2) (by walk_at "od")) (congrArg PyData.int hn16)) (by omega) (by omega) rfl T.b_range) (by rw [List.length_range,sizeLine_eq];omega) (fun _ _=>BF _) (fun _ _ _ _ _=>Av (i:=0) (show List.Nodup (["k","script"]:List Str) by decide +kernel) rfl (Or.inl rfl)) (fun a ha cl C s H fp=>BU) ?el) ?_
 case el=>
  intro k hk hP cl C s H fp
  have hk':k < 128:=by have:=List.mem_range.mp hk;omega
  have hsq:0≤77 * (k:Int) * (k:Int)∧77 * (k:Int) * (k:Int)≤77 * 128 * 128:=by
   refine ⟨Int.mul_nonneg (by omega) (by omega),?_⟩
   exact Int.mul_le_mul (by omega) (by omega) (by omega) (by decide)
  refine Ap (Ae (Ae (An D_law_cell (by walk_at "rm") rfl (Aa (evv 1) (Aa (Ae (evv 0) Ab (by walk_at "od")) Ad)) ⟨ns,k % 7,by rw [Int.zero_add];rfl,hns,by omega,rfl⟩) (Ap (Ae Ab (Ae (Ae Ab (evv 0) (El (.inl ⟨by decide,by decide⟩))) (evv 0) (El (.inr ⟨by omega,by omega⟩))) Bk) (show _=PyData.int (1 + 77 * (k:Int) * (k:Int)) by rw [Int.zero_add])) (EQ ⟨by omega,by omega⟩)) Ab (Bp (by decide))) rfl
 rw [AA]
 have ez:(List.range (n16:Int).toNat).map (fun (k:Nat)=>PyData.int (Bb ns (k % 7) / (1 + 77 * (k:Int) * (k:Int)) % 4096))=((List.range n16).map fun k=>Bb ns (k % 7) / (1 + 77 * (k:Int) * (k:Int)) % 4096).map PyData.int:=by rw [List.map_map];rfl
 rw [ez]
 have hcl:((List.range n16).map fun k=>Bb ns (k % 7) / (1 + 77 * (k:Int) * (k:Int)) % 4096).length=n16:=by rw [List.length_map,List.length_range]
 have hcr:∀c∈((List.range n16).map fun k=>Bb ns (k % 7) / (1 + 77 * (k:Int) * (k:Int)) % 4096),0≤c∧c < 4096:=fun c hc=>by
  obtain ⟨k,_,rfl⟩:=List.mem_map.mp hc
  exact ⟨Int.emod_nonneg _ (by decide),Int.emod_lt_of_pos _ (by decide)⟩
 generalize ((List.range n16).map fun k=>Bb ns (k % 7) / (1 + 77 * (k:Int) * (k:Int)) % 4096)=cs at hcl hcr
 refine Gf (A2 (i:=1) (d:=.int (Bb ns 1)) sc_law_state.nd rfl (Or.inl rfl) (An D_law_cell (by walk_at "rm") rfl (Aa (evv 0) (Aa Ab Ad)) ⟨ns,1,rfl,hns,by decide,rfl⟩)) ?_
 generalize Bb ns 1=c1
 refine NG (i:=6) sc_law_state.nd rfl (Or.inl rfl) (by show 6 < 7;decide) fun H1 p1=>?_
 refine LK (Mid:=fun G ds=>(∃c b,G=[some (.list (ns.map PyData.int)),some (.int c),some (.int m),some (.list (pg.map A6)),b,some (.list (cs.map PyData.int)),none])∧∃bx:List Int,ds=bx.map PyData.int∧bx.length=4∧∀c∈bx,0≤c∧c < 4096) ?_ (Ol ?_)
 ·refine EG (j:=4) (lo:=0) (n:=(4:Int).toNat) (fun k G ds=>(∃c b,G=[some (.list (ns.map PyData.int)),some (.int c),some (.int m),some (.list (pg.map A6)),b,some (.list (cs.map PyData.int)),none])∧∃bx:List Int,ds=bx.map PyData.int∧bx.length=k∧∀c∈bx,0≤c∧c < 4096) PassesOwn.never rfl (by decide) (Av (i:=4) sc_law_state.nd rfl (Or.inl rfl)) ?_ ?_ fun G ds h=>h
  ·rintro G ds ⟨rfl,rfl⟩
   exact ⟨⟨⟨_,_,rfl⟩,[],rfl,rfl,fun c h=>by cases h⟩,Ju Ab (by decide) (by decide) rfl T.b_range⟩
  ·intro k hk
   have hk4:k < 4:=hk
   refine Be (Mid:=fun G ds=>(∃c b,G=[some (.list (ns.map PyData.int)),some (.int c),some (.int m),some (.list (pg.map A6)),b,some (.list (cs.map PyData.int)),none])∧∃bx:List Int,ds=bx.map PyData.int∧bx.length=k + 1∧∀c∈bx,0≤c∧c < 4096) (Cl ?_ (pv 6)) (Be (Ey (j:=1) sc_law_state.nd rfl (by decide) (Or.inl rfl) ?_) (BM fun _ _ h=>h))
   ·rintro G ds ⟨G',⟨⟨c,b,rfl⟩,bx,rfl,hl,hr'⟩,rfl⟩
    have hb:0≤[c / 4 % (16 * m),c / 4 % 16,c / 4 % 4096,4095].getD (c % 4).toNat 0∧[c / 4 % (16 * m),c / 4 % 16,c / 4 % 4096,4095].getD (c % 4).toNat 0 < 4096:=by
     have h1:=Int.emod_nonneg (c / 4) (show 16 * m≠0 by omega)
     have h2:=Int.emod_lt_of_pos (c / 4) (show 0 < 16 * m by omega)
     have h:c % 4=0∨c % 4=1∨c % 4=2∨c % 4=3:=by omega
     rcases h with h | h | h | h <;> rw [h]
     ·exact ⟨h1,by show c / 4 % (16 * m) < 4096;omega⟩
     ·show 0≤c / 4 % 16∧c / 4 % 16 < 4096;omega
     ·show 0≤c / 4 % 4096∧c / 4 % 4096 < 4096;omega
     ·exact (by decide:(0:Int)≤4095∧(4095:Int) < 4096)
    refine ⟨.int ([c / 4 % (16 * m),c / 4 % 16,c / 4 % 4096,4095].getD (c % 4).toNat 0),Ao (Ay (Aa (Ae (Ae (evv 1) Ab (by walk_at "od")) (Ae Ab (evv 2) (by walk_at "od")) (by walk_at "od")) (Aa (Ae (Ae (evv 1) Ab (by walk_at "od")) Ab (by walk_at "od")) (Aa (Ae (Ae (evv 1) Ab (by walk_at "od")) Ab (by walk_at "od")) (Aa Ab Ad)))) (by walk_at "sz")) (Ae (evv 1) Ab (by walk_at "od")) (AW (zs:=[c / 4 % (16 * m),c / 4 % 16,c / 4 % 4096,4095]) (by omega) (show c % 4 < (4:Int) by omega)),rfl,by rw [List.length_map,sizeLine_eq];omega,⟨_,_,rfl⟩,bx++[[c / 4 % (16 * m),c / 4 % 16,c / 4 % 4096,4095].getD (c % 4).toNat 0],by rw [List.map_append];rfl,by rw [List.length_append,hl];rfl,fun z hz=>?_⟩
    rcases List.mem_append.mp hz with h | h
    ·exact hr' z h
    ·rw [List.mem_singleton.mp h];exact hb
   ·rintro G ds ⟨⟨c,b,rfl⟩,hl⟩
    exact ⟨_,(Ae (evv 1) Ab (by walk_at "od")),rfl,⟨_,_,rfl⟩,hl⟩
 ·rintro G ds ⟨⟨c,b,rfl⟩,bx,rfl,hbl,hbr⟩
  exact Ro (ds:=[.list (pg.map A6),.list (cs.map PyData.int),.list (bx.map PyData.int),.tuple [.bool (c % 2==1),.bool (c / 2 % 2==1)],.int (c / 4 % 4096)]) (Aa (evv 3) (Aa (evv 5) (Aa (evv 6) (Aa (Ap (AG (Aa (AC (Ae (evv 1) Ab (by walk_at "od")) Ab (by walk_at "od") (Ak _)) (Aa (AC (Ae (Ae (evv 1) Ab (by walk_at "od")) Ab (by walk_at "od")) Ab (by walk_at "od") (Ak _)) Ad)) (by walk_at "sz")) rfl) (Aa (Ae (Ae (evv 1) Ab (by walk_at "od")) Ab (by walk_at "od")) Ad))))) (by rw [sizeLine_eq];show 5≤16777216;decide) ⟨pg,cs,bx,(c % 2==1),(c / 2 % 2==1),c / 4 % 4096,⟨by omega,by omega,by omega,hcr,hbl,hbr,by omega,by omega⟩,rfl⟩
def IS (m:Nat) (ps:List (Int×Int)):Prop:=∀q∈ps,0≤q.1∧q.1 < m∧0≤q.2∧q.2 < 4096
def sumR (ps:List (Int×Int)) (sp:List Int):Int:=(ps.map fun q=>q.2 * sp.getD q.1.toNat 0).sum
def Cs (ds:List PyData) (d:PyData):Prop:=∃n ps sp,ds=[recD n ps,.list (sp.map PyData.int)]∧IS sp.length ps∧ps.length≤100∧d=.int ((n + sumR ps sp) % 4096)
theorem G9 (T:Txt mg) {f:Addr} {fd:FuncData} (F:Fun K "recipe_worth" "recipe_worth" Cu f fd) (hm:mg "recipe_worth"=some (.ref f)):DFn P w K mg base 1 "recipe_worth" Cs:=by
 refine F.data hm (F.binds fun _ _ _ _ _ _ us hl=>match us,hl with | [_,_],_=>rfl) sc_recipe_worth (fun ds d ⟨_,_,_,e,_⟩=>by rw [e];rfl) fun cdv A outer s H E ds d hr ⟨n,ps,sp,e,hps,hl,e2⟩=>?_
 subst e e2
 refine Ac (G1:=[some (recD n ps),some (.list (sp.map PyData.int)),some (.int n),some (.tuple (ps.map prD))]) (Ei (k:=0) (B:=EF [2,3]) (evv 0) (BK rfl (Az (Av (i:=2) sc_recipe_worth.nd rfl (by first | exact Or.inl rfl | exact Or.inr rfl)) (Az (Av (i:=3) sc_recipe_worth.nd rfl (by first | exact Or.inl rfl | exact Or.inr rfl)) Bu))) (DM [2,3] _ rfl) rfl) ?_
 refine Ag (Ar (Ap (Ae (Ae (evv 2) (At "sum" (ds:=[.list ((ps.map fun q=>q.2 * sp.getD q.1.toNat 0).map PyData.int)]) (Aa (Ap (Bi (ix:=[1]) (N:=["spot","many","spots"]) (B:=JZ) (as:=ps) (D:=prD) (fun _=>true) (fun q=>PyData.int (q.2 * sp.getD q.1.toNat 0)) rfl (of_decide_eq_true (by kernel_rfl)) (Gb (Ce (AI (by decide)) (Ce (AI (by decide)) Gg))) (BW (evv 3)) (by rw [sizeLine_eq];omega) (fun _ _=>IO _ _)
  (fun _ _ _ _ _=>BK rfl (Az (Av (i:=0) (show List.Nodup (["spot","many","spots"]:List Str) by decide +kernel) rfl (Or.inl rfl)) (Az (Av (i:=1) (show List.Nodup (["spot","many","spots"]:List Str) by decide +kernel) rfl (Or.inl rfl)) Bu))) (fun a ha cl C s H fp=>BU) ?el) ?eq) Ad) (K3 rfl) rfl T.b_sum (by decide +kernel)) Bk) Ab (Bp (by decide))) rfl))
 case eq=>rw [AA,List.map_map];rfl
 case el=>
  intro a ha hP cl C s H fp
  obtain ⟨h1,h2,h3,h4⟩:=hps a ha
  exact Ae (evv 1) (Ao (evv 2) (evv 0) (AW h1 h2)) (El (.inl ⟨by omega,by omega⟩))
def Jx (j:Nat) (a b:Int):Bool:=match j with
 | 0=>true
 | 1=>a != 0
 | 2=>a==b
 | _=>decide (a < b)
def C3 (ds:List PyData) (d:PyData):Prop:=∃j a b,1≤j∧j < 4∧ds=[.str (kindS j),.int a,.int b]∧d=.bool (Jx j a b)
theorem IJ {f:Addr} {fd:FuncData} (F:Fun K "kind_tells" "kind_tells" De f fd) (hm:mg "kind_tells"=some (.ref f)):DFn P w K mg base 1 "kind_tells" C3:=by
 refine F.data hm (F.binds fun _ _ _ _ _ _ us hl=>match us,hl with | [_,_,_],_=>rfl) Hj (fun ds d ⟨_,_,_,_,_,e,_⟩=>by rw [e];rfl) fun cdv A outer s H E ds d hr ⟨j,a,b,j1,j4,e,e2⟩=>?_
 subst e e2
 have hj:j=1∨j=2∨j=3:=by omega
 rcases hj with rfl | rfl | rfl
 ·refine Ac (Am (k:=false) (As (Al (evv 0) Ah (by walk_at "od") (Ak _)) (by decide +kernel)) (fun h=>by cases h) (fun _=>Af)) ?_
  refine Ac (Am (k:=false) (As (Al (evv 0) Ah (by walk_at "od") (Ak _)) (by decide +kernel)) (fun h=>by cases h) (fun _=>Af)) ?_
  exact Ag (Ar (Ap (AC (evv 1) Ab (by walk_at "od") (Ak _)) rfl))
 ·exact Ag (Am (k:=true) (As (Al (evv 0) Ah (by walk_at "od") (Ak _)) (by decide +kernel)) (fun _=>Ag (Ar (Ap (AC (evv 1) (evv 2) (by walk_at "od") (Ak _)) rfl))) (fun h=>by cases h))
 ·refine Ac (Am (k:=false) (As (Al (evv 0) Ah (by walk_at "od") (Ak _)) (by decide +kernel)) (fun h=>by cases h) (fun _=>Af)) ?_
  exact Ag (Am (k:=true) (As (Al (evv 0) Ah (by walk_at "od") (Ak _)) (by decide +kernel)) (fun _=>Ag (Ar (Ap (AC (evv 1) (evv 2) (by walk_at "od") (Ak _)) rfl))) (fun h=>by cases h))
def NB (yes:Bool) (j:Nat) (s t:Int) (sp:List Int):Bool:=Jx j (sp.getD s.toNat 0) (sp.getD t.toNat 0)==yes
def Of (ds:List PyData) (d:PyData):Prop:=∃yes j s t sp,j < 4∧(0≤s∧s < (sp.length:Int))∧(0≤t∧t < (sp.length:Int))∧ds=[truD yes j s t,.list (sp.map PyData.int)]∧d=.bool (NB yes j s t sp)
theorem Hk {f:Addr} {fd:FuncData} (D_kind_tells:DFn P w K mg base 1 "kind_tells" C3) (F:Fun K "truth_worth" "truth_worth" CG f fd) (hm:mg "truth_worth"=some (.ref f)):DFn P w K mg base 2 "truth_worth" Of:=by
 refine F.data hm (F.binds fun _ _ _ _ _ _ us hl=>match us,hl with | [_,_],_=>rfl) sc_truth_worth (fun ds d ⟨_,_,_,_,_,_,_,_,e,_⟩=>by rw [e];rfl) fun cdv A outer s H E ds d hr ⟨yes,j,s0,t0,sp,j4,hs,ht,e,e2⟩=>?_
 subst e e2
 refine Ac (G1:=[some (truD yes j s0 t0),some (.list (sp.map PyData.int)),some (.bool yes),some (.str (kindS j)),some (.int s0),some (.int t0)]) (Ei (k:=0) (B:=EF [2,3,4,5]) (evv 0) (BK rfl (Az (Av (i:=2) sc_truth_worth.nd rfl (by first | exact Or.inl rfl | exact Or.inr rfl)) (Az (Av (i:=3) sc_truth_worth.nd rfl (by first | exact Or.inl rfl | exact Or.inr rfl)) (Az (Av (i:=4) sc_truth_worth.nd rfl (by first | exact Or.inl rfl | exact Or.inr rfl)) (Az (Av (i:=5) sc_truth_worth.nd rfl (by first | exact Or.inl rfl | exact Or.inr rfl)) Bu))))) (DM [2,3,4,5] _ rfl) rfl) ?_
 by_cases hj:j=0
 ·subst hj
  refine Ag (Am (k:=true) (As (Al (evv 3) Ah (by walk_at "od") (Ak _)) (by decide +kernel)) (fun _=>Ag (Ar (Ap (evv 2) ?_))) (fun h=>by cases h))
  cases yes <;> rfl
 ·refine Ac (Am (k:=false) (Al (evv 3) Ah (BL (by walk_at "un") (DX j) (by decide +kernel) (by walk_at "dp") (Fj (by omega) j4)) (Ak _)) (fun h=>by cases h) (fun _=>Af)) ?_
  refine Ag (Ar (Ap (AC (An D_kind_tells (by walk_at "rm") rfl (Aa (evv 3) (Aa (Ao (evv 1) (evv 4) (AW hs.1 hs.2)) (Aa (Ao (evv 1) (evv 5) (AW ht.1 ht.2)) Ad))) ⟨j,_,_,by omega,j4,rfl,rfl⟩) (evv 2) (by walk_at "od") (Ak _)) rfl))
inductive RR where
 | set (r n:Int)
 | copy (r s:Int)
 | cut (r s:Int)
 | ari (j:Nat) (r s t:Int)
 | addn (r s n:Int)
 | load (r s n:Int)
 | store (s n t:Int)
 | out (s:Int)
 | test (j:Nat) (s t:Int) (goes:Bool) (way:PyData)
def ariS:Nat→Str
 | 0=>"add"
 | 1=>"sub"
 | 2=>"mul"
 | 3=>"and"
 | _=>"xor"
def RR.D:RR→PyData
 | .set r n=>.tuple [.str "set",.int r,.int n]
 | .copy r s=>.tuple [.str "copy",.int r,.int s]
 | .cut r s=>.tuple [.str "cut",.int r,.int s]
 | .ari j r s t=>.tuple [.str (ariS j),.int r,.int s,.int t]
 | .addn r s n=>.tuple [.str "addn",.int r,.int s,.int n]
 | .load r s n=>.tuple [.str "load",.int r,.int s,.int n]
 | .store s n t=>.tuple [.str "store",.int s,.int n,.int t]
 | .out s=>.tuple [.str "out",.int s]
 | .test j s t g way=>KU j s t g way
def spt (i:Int):Prop:=0≤i∧i < 12
def wrd (i:Int):Prop:=0≤i∧i < 4096
def RR.ok:RR→Prop
 | .set r n=>spt r∧wrd n
 | .copy r s=>spt r∧spt s
 | .cut r s=>spt r∧spt s
 | .ari j r s t=>j < 5∧spt r∧spt s∧spt t
 | .addn r s n=>spt r∧spt s∧wrd n
 | .load r s n=>spt r∧spt s∧wrd n
 | .store s n t=>spt s∧wrd n∧spt t
 | .out s=>spt s
 | .test j s t _ way=>QOk j s t∧WayOk way
theorem len1 {l:List Int} (h:l.length=1):∃a,l=[a]:=by
 match l,h with
 | [a],_=>exact ⟨a,rfl⟩
theorem len2 {l:List Int} (h:l.length=2):∃a b,l=[a,b]:=by
 match l,h with
 | [a,b],_=>exact ⟨a,b,rfl⟩
theorem len3 {l:List Int} (h:l.length=3):∃a b c,l=[a,b,c]:=by
 match l,h with
 | [a,b,c],_=>exact ⟨a,b,c,rfl⟩
theorem OX:∀{q:Str×Str},q∈madeL→∃i,i < 12∧madeL[i]?=some q:=fun {q} h=>by
 obtain ⟨i,hi,e⟩:=List.getElem_of_mem h
 exact ⟨i,hi,by rw [List.getElem?_eq_getElem hi,e]⟩
theorem RA {d:PyData} (h:RowOk d):∃r:RR,d=r.D∧r.ok:=by
 rcases h with ⟨j,s,t,g,way,hq,hw,rfl⟩ | ⟨q,nums,hq,hl,hok,rfl⟩
 ·exact ⟨.test j s t g way,rfl,hq,hw⟩
 ·obtain ⟨i,hi,e⟩:=OX hq
  have at2:∀{a b x y},q.2.cps.toList=[x,y]→nums=[a,b]→(0≤a∧a < BZ x)∧(0≤b∧b < BZ y):=fun {a b x y} e1 e2=>by
   subst e2
   unfold Fv at hok
   rw [e1] at hok
   exact ⟨hok (x,a) List.mem_cons_self,hok (y,b) (List.mem_cons_of_mem _ List.mem_cons_self)⟩
  have at3:∀{a b c x y z},q.2.cps.toList=[x,y,z]→nums=[a,b,c]→(0≤a∧a < BZ x)∧(0≤b∧b < BZ y)∧(0≤c∧c < BZ z):=fun {a b c x y z} e1 e2=>by
   subst e2
   unfold Fv at hok
   rw [e1] at hok
   exact ⟨hok (x,a) List.mem_cons_self,hok (y,b) (List.mem_cons_of_mem _ List.mem_cons_self),hok (z,c) (List.mem_cons_of_mem _ (List.mem_cons_of_mem _ List.mem_cons_self))⟩
  match i,hi,e with
  | 0,_,e=>cases e;obtain ⟨a,b,rfl⟩:=len2 hl;exact ⟨.set a b,rfl,at2 (x:=114) (y:=110) rfl rfl⟩
  | 1,_,e=>cases e;obtain ⟨a,b,rfl⟩:=len2 hl;exact ⟨.copy a b,rfl,at2 (x:=114) (y:=115) rfl rfl⟩
  | 2,_,e=>cases e;obtain ⟨a,b,rfl⟩:=len2 hl;exact ⟨.cut a b,rfl,at2 (x:=114) (y:=115) rfl rfl⟩
  | 3,_,e=>cases e;obtain ⟨a,b,c,rfl⟩:=len3 hl;exact ⟨.ari 0 a b c,rfl,by decide,at3 (x:=114) (y:=115) (z:=116) rfl rfl⟩
  | 4,_,e=>cases e;obtain ⟨a,b,c,rfl⟩:=len3 hl;exact ⟨.ari 1 a b c,rfl,by decide,at3 (x:=114) (y:=115) (z:=116) rfl rfl⟩
  | 5,_,e=>cases e;obtain ⟨a,b,c,rfl⟩:=len3 hl;exact ⟨.ari 2 a b c,rfl,by decide,at3 (x:=114) (y:=115) (z:=116) rfl rfl⟩
  | 6,_,e=>cases e;obtain ⟨a,b,c,rfl⟩:=len3 hl;exact ⟨.ari 3 a b c,rfl,by decide,at3 (x:=114) (y:=115) (z:=116) rfl rfl⟩
  | 7,_,e=>cases e;obtain ⟨a,b,c,rfl⟩:=len3 hl;exact ⟨.ari 4 a b c,rfl,by decide,at3 (x:=114) (y:=115) (z:=116) rfl rfl⟩
  | 8,_,e=>cases e;obtain ⟨a,b,c,rfl⟩:=len3 hl;exact ⟨.addn a b c,rfl,at3 (x:=114) (y:=115) (z:=110) rfl rfl⟩
  | 9,_,e=>cases e;obtain ⟨a,b,c,rfl⟩:=len3 hl;exact ⟨.load a b c,rfl,at3 (x:=114) (y:=115) (z:=110) rfl rfl⟩
  | 10,_,e=>cases e;obtain ⟨a,b,c,rfl⟩:=len3 hl;exact ⟨.store a b c,rfl,at3 (x:=115) (y:=110) (z:=116) rfl rfl⟩
  | 11,_,e=>
    cases e
    obtain ⟨a,rfl⟩:=len1 hl
    exact ⟨.out a,rfl,hok (115,a) List.mem_cons_self⟩
  | n + 12,hi,_=>omega
def nb (i:Int):Prop:=0≤i∧i < 16777216
def SpOk (sp:List Int):Prop:=sp.length=12∧∀v∈sp,nb v
def sAt (sp:List Int) (i:Int):Int:=sp.getD i.toNat 0
theorem SpOk.at {sp:List Int} (h:SpOk sp) {i:Int} (hi:spt i):nb (sAt sp i)∧atI (sp.map PyData.int) i=some (.int (sAt sp i)):=by
 have hl:i.toNat < sp.length:=by rw [h.1];have:=hi.2;have:=hi.1;omega
 refine ⟨?_,AW hi.1 (by rw [h.1];exact hi.2)⟩
 unfold sAt
 rw [List.getD_eq_getElem?_getD,List.getElem?_eq_getElem hl]
 exact h.2 _ (List.getElem_mem hl)
theorem ari5 {j:Nat} (h:j < 5):j=0∨j=1∨j=2∨j=3∨j=4:=by omega
def Kq (ds:List PyData) (d:PyData):Prop:=∃(j:Nat) (x y:Int),j < 5∧nb x∧nb y∧ds=[.str (ariS j),.int x,.int y]∧d=.int (resI (ariS j) x y)
theorem IH {f:Addr} {fd:FuncData} (F:Fun K "result_of" "result_of" Dv f fd) (hm:mg "result_of"=some (.ref f)):DFn P w K mg base 1 "result_of" Kq:=by
 refine F.data hm (F.binds fun _ _ _ _ _ _ us hl=>match us,hl with | [_,_,_],_=>rfl) ID (fun ds d ⟨_,_,_,_,_,_,e,_⟩=>by rw [e];rfl) fun cdv A outer s H E ds d hr ⟨j,x,y,hj,hx,hy,e,e2⟩=>?_
 subst e e2
 have x0:=hx.1
 have x1:=hx.2
 rcases ari5 hj with rfl | rfl | rfl | rfl | rfl
 ·exact Ag (Am (k:=true) (As (Al (evv 0) Ah (by walk_at "od") (Ak _)) (by decide +kernel)) (fun _=>Ag (Ar (Ap (Ae (evv 1) (evv 2) Bk) (congrArg PyData.int (by unfold resI;rw [if_pos (by decide +kernel)]))))) (fun h=>by cases h))
 ·refine Ac (Am (k:=false) (As (Al (evv 0) Ah (by walk_at "od") (Ak _)) (by decide +kernel)) (fun h=>by cases h) (fun _=>Af)) ?_
  refine Ac (Am (k:=false) (As (Al (evv 0) Ah (by walk_at "od") (Ak _)) (by decide +kernel)) (fun h=>by cases h) (fun _=>Af)) ?_
  refine Ac (Am (k:=false) (As (Al (evv 0) Ah (by walk_at "od") (Ak _)) (by decide +kernel)) (fun h=>by cases h) (fun _=>Af)) ?_
  refine Ac (Am (k:=false) (As (Al (evv 0) Ah (by walk_at "od") (Ak _)) (by decide +kernel)) (fun h=>by cases h) (fun _=>Af)) ?_
  exact Ag (Ar (Ap (Ae (evv 1) (evv 2) IU) (congrArg PyData.int (by unfold resI;rw [if_neg (by decide +kernel),if_neg (by decide +kernel),if_neg (by decide +kernel),if_neg (by decide +kernel)]))))
 ·refine Ac (Am (k:=false) (As (Al (evv 0) Ah (by walk_at "od") (Ak _)) (by decide +kernel)) (fun h=>by cases h) (fun _=>Af)) ?_
  exact Ag (Am (k:=true) (As (Al (evv 0) Ah (by walk_at "od") (Ak _)) (by decide +kernel)) (fun _=>Ag (Ar (Ap (Ae (evv 1) (evv 2) (El (Or.inl ⟨by omega,by omega⟩))) (congrArg PyData.int (by unfold resI;rw [if_neg (by decide +kernel),if_pos (by decide +kernel)]))))) (fun h=>by cases h))
 ·refine Ac (Am (k:=false) (As (Al (evv 0) Ah (by walk_at "od") (Ak _)) (by decide +kernel)) (fun h=>by cases h) (fun _=>Af)) ?_
  refine Ac (Am (k:=false) (As (Al (evv 0) Ah (by walk_at "od") (Ak _)) (by decide +kernel)) (fun h=>by cases h) (fun _=>Af)) ?_
  exact Ag (Am (k:=true) (As (Al (evv 0) Ah (by walk_at "od") (Ak _)) (by decide +kernel)) (fun _=>Ag (Ar (Ap (Ae (evv 1) (evv 2) NY) (congrArg PyData.int (by unfold resI;rw [if_neg (by decide +kernel),if_neg (by decide +kernel),if_pos (by decide +kernel)]))))) (fun h=>by cases h))
 ·refine Ac (Am (k:=false) (As (Al (evv 0) Ah (by walk_at "od") (Ak _)) (by decide +kernel)) (fun h=>by cases h) (fun _=>Af)) ?_
  refine Ac (Am (k:=false) (As (Al (evv 0) Ah (by walk_at "od") (Ak _)) (by decide +kernel)) (fun h=>by cases h) (fun _=>Af)) ?_
  refine Ac (Am (k:=false) (As (Al (evv 0) Ah (by walk_at "od") (Ak _)) (by decide +kernel)) (fun h=>by cases h) (fun _=>Af)) ?_
  exact Ag (Am (k:=true) (As (Al (evv 0) Ah (by walk_at "od") (Ak _)) (by decide +kernel)) (fun _=>Ag (Ar (Ap (Ae (evv 1) (evv 2) K2) (congrArg PyData.int (by unfold resI;rw [if_neg (by decide +kernel),if_neg (by decide +kernel),if_neg (by decide +kernel),if_pos (by decide +kernel)]))))) (fun h=>by cases h))
def JF (sp:List Int):RR→Int
 | .load _ s n=>sAt sp s + n
 | .store s n _=>sAt sp s + n
 | _=>0
def RG:RR→Bool
 | .load _ _ _=>true
 | .store _ _ _=>true
 | _=>false
def Dw (ds:List PyData) (d:PyData):Prop:=∃(r:RR) (sp:List Int),r.ok∧SpOk sp∧RG r=true∧ds=[r.D,.list (sp.map PyData.int)]∧d=.int (JF sp r)
theorem Mf (T:TxtP K mg w.params) {f:Addr} {fd:FuncData} (F:Fun K "cell_of" "cell_of" EZ f fd) (hm:mg "cell_of"=some (.ref f)):DFn P w K mg base 1 "cell_of" Dw:=by
 refine F.data hm (F.binds fun _ _ _ _ _ _ us hl=>match us,hl with | [_,_],_=>rfl) sc_cell_of (fun ds d ⟨_,_,_,_,_,e,_⟩=>by rw [e];rfl) fun cdv A outer s H E ds d hr ⟨r,sp,ok,hs,hme,e,e2⟩=>?_
 subst e e2
 cases r with
 | load r s n=>
   refine Ac (G1:=[some (.tuple [.str "load",.int r,.int s,.int n]),some (.list (sp.map PyData.int)),some (.int s),some (.int n)]) (Ei (k:=0) (d:=.tuple [.int s,.int n]) (B:=EF [2,3]) (Gx (k:=true) (Al (Aq (ds:=[.str "load",.int r,.int s,.int n]) (evv 0) Ab (Aj (by decide) rfl)) Ah (BL (by walk_at "un") (by decide +kernel) (by decide +kernel) (by walk_at "dp") (by decide +kernel)) (Ak _)) (fun _=>Ap (Ha (ds:=[.str "load",.int r,.int s,.int n]) (evv 0) (DT Ab) F_ (fun h=>by have:=h.1;simp [HT.sIx] at this)) rfl) (fun h=>by cases h)) (BK rfl (Az (Av (i:=2) sc_cell_of.nd rfl (by first | exact Or.inl rfl | exact Or.inr rfl)) (Az (Av (i:=3) sc_cell_of.nd rfl (by first | exact Or.inl rfl | exact Or.inr rfl)) Bu))) (DM [2,3] _ rfl) rfl) ?_
   exact Ag (Ar (Ae (Ao (evv 1) (evv 2) (hs.at ok.2.1).2) (evv 3) Bk))
 | store s n t=>
   refine Ac (G1:=[some (.tuple [.str "store",.int s,.int n,.int t]),some (.list (sp.map PyData.int)),some (.int s),some (.int n)]) (Ei (k:=0) (d:=.tuple [.int s,.int n]) (B:=EF [2,3]) (Gx (k:=false) (Al (Aq (ds:=[.str "store",.int s,.int n,.int t]) (evv 0) Ab (Aj (by decide) rfl)) Ah (BL (by walk_at "un") (by decide +kernel) (by decide +kernel) (by walk_at "dp") (by decide +kernel)) (Ak _)) (fun h=>by cases h) (fun _=>Ap (Ha (ds:=[.str "store",.int s,.int n,.int t]) (evv 0) (DT Ab) (DT Ab) (fun h=>by have:=h.1;simp [HT.sIx] at this)) rfl)) (BK rfl (Az (Av (i:=2) sc_cell_of.nd rfl (by first | exact Or.inl rfl | exact Or.inr rfl)) (Az (Av (i:=3) sc_cell_of.nd rfl (by first | exact Or.inl rfl | exact Or.inr rfl)) Bu))) (DM [2,3] _ rfl) rfl) ?_
   exact Ag (Ar (Ae (Ao (evv 1) (evv 2) (hs.at ok.1).2) (evv 3) Bk))
 | set _ _=>cases hme
 | copy _ _=>cases hme
 | cut _ _=>cases hme
 | ari _ _ _ _=>cases hme
 | addn _ _ _=>cases hme
 | out _=>cases hme
 | test _ _ _ _ _=>cases hme
structure TxtN (mg:Str→Option Value):Prop where
 c_numbers:∃t,mg "NUMBERS"=some (.int 16777216 t)
theorem TxtN.g_numbers {X:Cx} {G:Gam} {pos:Pos} (T:TxtN X.mg) (hg:Gl X "NUMBERS"):EV X G (.Name "NUMBERS" pos) (.int 16777216):=by
 obtain ⟨t,h⟩:=T.c_numbers
 exact CJ hg h
theorem AY (j:Nat):PyData.canLay0 (.str (ariS j))=true:=by
 match j with
 | 0=>decide +kernel
 | 1=>decide +kernel
 | 2=>decide +kernel
 | 3=>decide +kernel
 | _ + 4=>exact (by decide +kernel:PyData.canLay0 (.str "xor")=true)
theorem Bn (j:Nat) {m:Str} (h:(decide (("add":Str)=m) || decide (("sub":Str)=m) || decide (("mul":Str)=m) || decide (("and":Str)=m) || decide (("xor":Str)=m))=false):decide (ariS j=m)=false:=by
 simp only [Bool.or_eq_false_iff] at h
 obtain ⟨⟨⟨⟨h1,h2⟩,h3⟩,h4⟩,h5⟩:=h
 match j with
 | 0=>exact h1
 | 1=>exact h2
 | 2=>exact h3
 | 3=>exact h4
 | _ + 4=>exact h5
theorem A3 {X:Cx} {G:Gam} {e:Expr} {nm m:Str} {rest:List PyData} {k:Bool} {p2 p3 p4 pos:Pos} {k0 ci:Nat} (hu:X.A.units + 64 < cLine) (he:EV X G e (.tuple (.str nm::rest))) (hcl:PyData.canLay0 (.str nm)=true) (hm:PyData.canLay0 (.str m)=true) (hk:decide (nm=m)=k):TV X G (.Compare (.Subscript e (.Constant (.int 0) k0 p2) p3) [.Eq] [.Constant (.str m) ci p4] pos) k:=
 Al (Aq (ds:=.str nm::rest) he Ab (Aj (by decide) rfl)) Ah (BL hu hcl hm (by walk_at "dp") ((FF nm m).trans hk)) (Ak _)
theorem JI {X:Cx} {G:Gam} {e:Expr} {nm:Str} {rest:List PyData} {p2 p3:Pos} {k0:Nat} (he:EV X G e (.tuple (.str nm::rest))):EV X G (.Subscript e (.Constant (.int 0) k0 p2) p3) (.str nm):=Aq (ds:=.str nm::rest) he Ab (Aj (by decide) rfl)
theorem KK {X:Cx} {G:Gam} {e:Expr} {nm m:Str} {rest:List PyData} {k:Bool} {p2 p3 p4 pos:Pos} {k0 ci:Nat} (hu:X.A.units + 64 < cLine) (he:EV X G e (.tuple (.str nm::rest))) (hcl:PyData.canLay0 (.str nm)=true) (hm:PyData.canLay0 (.str m)=true) (hk:decide (nm=m)=k):EV X G (.Compare (.Subscript e (.Constant (.int 0) k0 p2) p3) [.Eq] [.Constant (.str m) ci p4] pos) (.bool k):=
 AC (Aq (ds:=.str nm::rest) he Ab (Aj (by decide) rfl)) Ah (BL hu hcl hm (by walk_at "dp") ((FF nm m).trans hk)) (Ak _)
theorem Jb (a b:Bool):PyData.eqv (.bool a) (.bool b)=(a==b):=by cases a <;> cases b <;> rfl
theorem Cd {X:Cx} {G:Gam} {e:Expr} {nm m:Str} {k:Bool} {p4 pos:Pos} {ci:Nat} (hu:X.A.units + 64 < cLine) (he:EV X G e (.str nm)) (hcl:PyData.canLay0 (.str nm)=true) (hm:PyData.canLay0 (.str m)=true) (hk:decide (nm=m)=k):TV X G (.Compare e [.Eq] [.Constant (.str m) ci p4] pos) k:=
 Al he Ah (BL hu hcl hm (by walk_at "dp") ((FF nm m).trans hk)) (Ak _)
def RR.nm:RR→Str
 | .set _ _=>"set"
 | .copy _ _=>"copy"
 | .cut _ _=>"cut"
 | .ari j _ _ _=>ariS j
 | .addn _ _ _=>"addn"
 | .load _ _ _=>"load"
 | .store _ _ _=>"store"
 | .out _=>"out"
 | .test _ _ _ _ _=>"test"
def RR.rest:RR→List PyData
 | .set r n=>[.int r,.int n]
 | .copy r s=>[.int r,.int s]
 | .cut r s=>[.int r,.int s]
 | .ari _ r s t=>[.int r,.int s,.int t]
 | .addn r s n=>[.int r,.int s,.int n]
 | .load r s n=>[.int r,.int s,.int n]
 | .store s n t=>[.int s,.int n,.int t]
 | .out s=>[.int s]
 | .test j s t g way=>[.str (kindS j),.int s,.int t,.bool g,way]
theorem RR.D_eq (r:RR):r.D=.tuple (.str r.nm::r.rest):=by cases r <;> rfl
theorem RR.lay (r:RR):PyData.canLay0 (.str r.nm)=true:=by
 cases r with
 | ari j _ _ _=>exact AY j
 | set _ _=>exact (by decide +kernel:PyData.canLay0 (.str "set")=true)
 | copy _ _=>exact (by decide +kernel:PyData.canLay0 (.str "copy")=true)
 | cut _ _=>exact (by decide +kernel:PyData.canLay0 (.str "cut")=true)
 | addn _ _ _=>exact (by decide +kernel:PyData.canLay0 (.str "addn")=true)
 | load _ _ _=>exact (by decide +kernel:PyData.canLay0 (.str "load")=true)
 | store _ _ _=>exact (by decide +kernel:PyData.canLay0 (.str "store")=true)
 | out _=>exact (by decide +kernel:PyData.canLay0 (.str "out")=true)
 | test _ _ _ _ _=>exact (by decide +kernel:PyData.canLay0 (.str "test")=true)
noncomputable def numR (sp:List Int):RR→Int
 | .set _ n=>n
 | .copy _ s=>sAt sp s
 | .cut _ s=>sAt sp s % 4096
 | .ari j _ s t=>resI (ariS j) (sAt sp s) (sAt sp t) % 16777216
 | .addn _ s n=>(sAt sp s + n) % 16777216
 | _=>0
def RR.sets:RR→Bool
 | .load _ _ _=>false
 | .store _ _ _=>false
 | .out _=>false
 | .test _ _ _ _ _=>false
 | _=>true
theorem Lg {sp:List Int} (hs:SpOk sp) {r:RR} (ok:r.ok) (h:r.sets=true):nb (numR sp r):=by
 cases r with
 | set r n=>have:=ok.2;unfold wrd at this;unfold nb numR;dsimp only;omega
 | copy r s=>exact (hs.at ok.2).1
 | cut r s=>unfold nb numR;dsimp only;omega
 | ari j r s t=>unfold nb numR;dsimp only;omega
 | addn r s n=>unfold nb numR;dsimp only;omega
 | load _ _ _=>cases h
 | store _ _ _=>cases h
 | out _=>cases h
 | test _ _ _ _ _=>cases h
def G8 (ds:List PyData) (d:PyData):Prop:=∃(r:RR) (sp:List Int),r.ok∧SpOk sp∧r.sets=true∧ds=[r.D,.list (sp.map PyData.int)]∧d=.int (numR sp r)
theorem Ie (T:TxtN mg) (D_res:DFn P w K mg base 1 "result_of" Kq) {f:Addr} {fd:FuncData} (F:Fun K "number_set" "number_set" CT f fd) (hm:mg "number_set"=some (.ref f)):DFn P w K mg base 2 "number_set" G8:=by
 refine F.data hm (F.binds fun _ _ _ _ _ _ us hl=>match us,hl with | [_,_],_=>rfl) sc_number_set (fun ds d ⟨_,_,_,_,_,e,_⟩=>by rw [e];rfl) fun cdv A outer s H E ds d hr ⟨r,sp,ok,hs,hse,e,e2⟩=>?_
 subst e e2
 cases r with
 | load _ _ _=>cases hse
 | store _ _ _=>cases hse
 | out _=>cases hse
 | test _ _ _ _ _=>cases hse
 | set r n=>
   refine Ac (A2 (i:=2) (d:=.str "set") sc_number_set.nd rfl (Or.inl rfl) (JI (evv 0))) ?_
   exact Ag (Am (k:=true) (Cd (by walk_at "un") (evv 2) (by decide +kernel) (by decide +kernel) (by decide +kernel)) (fun _=>Ag (Ar (Aq (ds:=[.str "set",.int r,.int n]) (evv 0) Ab (Aj (by decide) rfl)))) (fun h=>by cases h))
 | copy r s=>
   refine Ac (A2 (i:=2) (d:=.str "copy") sc_number_set.nd rfl (Or.inl rfl) (JI (evv 0))) ?_
   refine Ac (Am (k:=false) (Cd (by walk_at "un") (evv 2) (by decide +kernel) (by decide +kernel) (by decide +kernel)) (fun h=>by cases h) (fun _=>Af)) ?_
   refine Ac (A2 (i:=3) (d:=.int (sAt sp s)) sc_number_set.nd rfl (Or.inl rfl) (Ao (evv 1) (Aq (ds:=[.str "copy",.int r,.int s]) (evv 0) Ab (Aj (by decide) rfl)) (hs.at ok.2).2)) ?_
   exact Ag (Am (k:=true) (Cd (by walk_at "un") (evv 2) (by decide +kernel) (by decide +kernel) (by decide +kernel)) (fun _=>Ag (Ar (evv 3))) (fun h=>by cases h))
 | cut r s=>
   refine Ac (A2 (i:=2) (d:=.str "cut") sc_number_set.nd rfl (Or.inl rfl) (JI (evv 0))) ?_
   refine Ac (Am (k:=false) (Cd (by walk_at "un") (evv 2) (by decide +kernel) (by decide +kernel) (by decide +kernel)) (fun h=>by cases h) (fun _=>Af)) ?_
   refine Ac (A2 (i:=3) (d:=.int (sAt sp s)) sc_number_set.nd rfl (Or.inl rfl) (Ao (evv 1) (Aq (ds:=[.str "cut",.int r,.int s]) (evv 0) Ab (Aj (by decide) rfl)) (hs.at ok.2).2)) ?_
   refine Ac (Am (k:=false) (Cd (by walk_at "un") (evv 2) (by decide +kernel) (by decide +kernel) (by decide +kernel)) (fun h=>by cases h) (fun _=>Af)) ?_
   exact Ag (Am (k:=true) (Cd (by walk_at "un") (evv 2) (by decide +kernel) (by decide +kernel) (by decide +kernel)) (fun _=>Ag (Ar (Ae (evv 3) Ab (Bp (by decide))))) (fun h=>by cases h))
 | addn r s n=>
   refine Ac (A2 (i:=2) (d:=.str "addn") sc_number_set.nd rfl (Or.inl rfl) (JI (evv 0))) ?_
   refine Ac (Am (k:=false) (Cd (by walk_at "un") (evv 2) (by decide +kernel) (by decide +kernel) (by decide +kernel)) (fun h=>by cases h) (fun _=>Af)) ?_
   refine Ac (A2 (i:=3) (d:=.int (sAt sp s)) sc_number_set.nd rfl (Or.inl rfl) (Ao (evv 1) (Aq (ds:=[.str "addn",.int r,.int s,.int n]) (evv 0) Ab (Aj (by decide) rfl)) (hs.at ok.2.1).2)) ?_
   refine Ac (Am (k:=false) (Cd (by walk_at "un") (evv 2) (by decide +kernel) (by decide +kernel) (by decide +kernel)) (fun h=>by cases h) (fun _=>Af)) ?_
   refine Ac (Am (k:=false) (Cd (by walk_at "un") (evv 2) (by decide +kernel) (by decide +kernel) (by decide +kernel)) (fun h=>by cases h) (fun _=>Af)) ?_
   exact Ag (Am (k:=true) (Cd (by walk_at "un") (evv 2) (by decide +kernel) (by decide +kernel) (by decide +kernel)) (fun _=>Ag (Ar (Ae (Ae (evv 3) (Aq (ds:=[.str "addn",.int r,.int s,.int n]) (evv 0) Ab (Aj (by decide) rfl)) Bk) (T.g_numbers rfl) (Bp (by decide))))) (fun h=>by cases h))
 | ari j r s t=>
   refine Ac (A2 (i:=2) (d:=.str (ariS j)) sc_number_set.nd rfl (Or.inl rfl) (JI (evv 0))) ?_
   refine Ac (Am (k:=false) (Cd (by walk_at "un") (evv 2) (AY j) (by decide +kernel) (Bn j (by decide +kernel))) (fun h=>by cases h) (fun _=>Af)) ?_
   refine Ac (A2 (i:=3) (d:=.int (sAt sp s)) sc_number_set.nd rfl (Or.inl rfl) (Ao (evv 1) (Aq (ds:=[.str (ariS j),.int r,.int s,.int t]) (evv 0) Ab (Aj (by decide) rfl)) (hs.at ok.2.2.1).2)) ?_
   refine Ac (Am (k:=false) (Cd (by walk_at "un") (evv 2) (AY j) (by decide +kernel) (Bn j (by decide +kernel))) (fun h=>by cases h) (fun _=>Af)) ?_
   refine Ac (Am (k:=false) (Cd (by walk_at "un") (evv 2) (AY j) (by decide +kernel) (Bn j (by decide +kernel))) (fun h=>by cases h) (fun _=>Af)) ?_
   refine Ac (Am (k:=false) (Cd (by walk_at "un") (evv 2) (AY j) (by decide +kernel) (Bn j (by decide +kernel))) (fun h=>by cases h) (fun _=>Af)) ?_
   exact Ag (Ar (Ae (An D_res (by walk_at "rm") rfl (Aa (evv 2) (Aa (evv 3) (Aa (Ao (evv 1) (Aq (ds:=[.str (ariS j),.int r,.int s,.int t]) (evv 0) Ab (Aj (by decide) rfl)) (hs.at ok.2.2.2).2) Ad))) ⟨j,_,_,ok.1,(hs.at ok.2.2.1).1,(hs.at ok.2.2.2).1,rfl,rfl⟩) (T.g_numbers rfl) (Bp (by decide))))
def whyR (pg:List (Bool×Bool×Bool)) (sp:List Int):RR→Str
 | .load r s n=>if Bq pg (sAt sp s + n) 0=true then "" else "read"
 | .store s n t=>if Bq pg (sAt sp s + n) 1=true then "" else "write"
 | .test j s t g _=>if Jx j (sAt sp s) (sAt sp t)=g then "" else "test"
 | _=>""
def LM (ds:List PyData) (d:PyData):Prop:=∃(pg:List (Bool×Bool×Bool)) (r:RR) (sp:List Int),r.ok∧SpOk sp∧pg.length≤8∧ds=[.list (pg.map A6),r.D,.list (sp.map PyData.int)]∧d=.str (whyR pg sp r)
theorem KN (D_may_read:DFn P w K mg base 3 "may_read" (Lc 0)) (D_may_write:DFn P w K mg base 3 "may_write" (Lc 1)) (D_cell:DFn P w K mg base 1 "cell_of" Dw) (D_tells:DFn P w K mg base 1 "kind_tells" C3) {f:Addr} {fd:FuncData} (F:Fun K "why_left" "why_left" Em f fd) (hm:mg "why_left"=some (.ref f)):DFn P w K mg base 4 "why_left" LM:=by
 refine F.data hm (F.binds fun _ _ _ _ _ _ us hl=>match us,hl with | [_,_,_],_=>rfl) Jk (fun ds d ⟨_,_,_,_,_,_,e,_⟩=>by rw [e];rfl) fun cdv A outer s H E ds d hr ⟨pg,r,sp,ok,hs,p8,e,e2⟩=>?_
 subst e
 cases r with
 | load r s n=>
   cases hb:Bq pg (sAt sp s + n) 0 with
   | false=>
     have e2:d=.str "read":=by rw [e2];unfold whyR;dsimp only;rw [hb];rfl
     subst e2
     exact Ag (Am (k:=true) (As (AX (AF (k:=true) (k':=true) (A3 (by walk_at "un") (evv 1) (by decide +kernel) (by decide +kernel) (by decide +kernel)) (fun _=>Bo (AD (k:=false) (AB (An D_may_read (by walk_at "rm") rfl (Aa (evv 0) (Aa (An D_cell (by walk_at "rm") rfl (Aa (evv 1) (Aa (evv 2) Ad)) ⟨.load r s n,sp,ok,hs,rfl,rfl,rfl⟩) Ad)) ⟨pg,_,rfl,p8,by rw [show JF sp (.load r s n)=sAt sp s + n from rfl,hb]⟩)))))) rfl) (fun _=>Ag (Ar Ah)) (fun h=>by cases h))
   | true=>
     have e2:d=.str "":=by rw [e2];unfold whyR;dsimp only;rw [hb];rfl
     subst e2
     refine Ac (Am (k:=false) (As (AX (AF (k:=true) (k':=false) (A3 (by walk_at "un") (evv 1) (by decide +kernel) (by decide +kernel) (by decide +kernel)) (fun _=>Bo (AD (k:=true) (AB (An D_may_read (by walk_at "rm") rfl (Aa (evv 0) (Aa (An D_cell (by walk_at "rm") rfl (Aa (evv 1) (Aa (evv 2) Ad)) ⟨.load r s n,sp,ok,hs,rfl,rfl,rfl⟩) Ad)) ⟨pg,_,rfl,p8,by rw [show JF sp (.load r s n)=sAt sp s + n from rfl,hb]⟩)))))) rfl) (fun h=>by cases h) (fun _=>Af)) ?_
     refine Ac (Am (k:=false) (As (AX (AF (k:=false) (k':=false) (A3 (by walk_at "un") (evv 1) (by decide +kernel) (by decide +kernel) (by decide +kernel)) (fun h=>by cases h))) rfl) (fun h=>by cases h) (fun _=>Af)) ?_
     exact Ac (Am (k:=false) (As (AX (AF (k:=false) (k':=false) (A3 (by walk_at "un") (evv 1) (by decide +kernel) (by decide +kernel) (by decide +kernel)) (fun h=>by cases h))) rfl) (fun h=>by cases h) (fun _=>Af)) (Ag (Ar Ah))
 | store s n t=>
   refine Ac (Am (k:=false) (As (AX (AF (k:=false) (k':=false) (A3 (by walk_at "un") (evv 1) (by decide +kernel) (by decide +kernel) (by decide +kernel)) (fun h=>by cases h))) rfl) (fun h=>by cases h) (fun _=>Af)) ?_
   cases hb:Bq pg (sAt sp s + n) 1 with
   | false=>
     have e2:d=.str "write":=by rw [e2];unfold whyR;dsimp only;rw [hb];rfl
     subst e2
     exact Ag (Am (k:=true) (As (AX (AF (k:=true) (k':=true) (A3 (by walk_at "un") (evv 1) (by decide +kernel) (by decide +kernel) (by decide +kernel)) (fun _=>Bo (AD (k:=false) (AB (An D_may_write (by walk_at "rm") rfl (Aa (evv 0) (Aa (An D_cell (by walk_at "rm") rfl (Aa (evv 1) (Aa (evv 2) Ad)) ⟨.store s n t,sp,ok,hs,rfl,rfl,rfl⟩) Ad)) ⟨pg,_,rfl,p8,by rw [show JF sp (.store s n t)=sAt sp s + n from rfl,hb]⟩)))))) rfl) (fun _=>Ag (Ar Ah)) (fun h=>by cases h))
   | true=>
     have e2:d=.str "":=by rw [e2];unfold whyR;dsimp only;rw [hb];rfl
     subst e2
     refine Ac (Am (k:=false) (As (AX (AF (k:=true) (k':=false) (A3 (by walk_at "un") (evv 1) (by decide +kernel) (by decide +kernel) (by decide +kernel)) (fun _=>Bo (AD (k:=true) (AB (An D_may_write (by walk_at "rm") rfl (Aa (evv 0) (Aa (An D_cell (by walk_at "rm") rfl (Aa (evv 1) (Aa (evv 2) Ad)) ⟨.store s n t,sp,ok,hs,rfl,rfl,rfl⟩) Ad)) ⟨pg,_,rfl,p8,by rw [show JF sp (.store s n t)=sAt sp s + n from rfl,hb]⟩)))))) rfl) (fun h=>by cases h) (fun _=>Af)) ?_
     exact Ac (Am (k:=false) (As (AX (AF (k:=false) (k':=false) (A3 (by walk_at "un") (evv 1) (by decide +kernel) (by decide +kernel) (by decide +kernel)) (fun h=>by cases h))) rfl) (fun h=>by cases h) (fun _=>Af)) (Ag (Ar Ah))
 | test j s t g way=>
   refine Ac (Am (k:=false) (As (AX (AF (k:=false) (k':=false) (A3 (by walk_at "un") (evv 1) (by decide +kernel) (by decide +kernel) (by decide +kernel)) (fun h=>by cases h))) rfl) (fun h=>by cases h) (fun _=>Af)) ?_
   refine Ac (Am (k:=false) (As (AX (AF (k:=false) (k':=false) (A3 (by walk_at "un") (evv 1) (by decide +kernel) (by decide +kernel) (by decide +kernel)) (fun h=>by cases h))) rfl) (fun h=>by cases h) (fun _=>Af)) ?_
   obtain ⟨⟨j1,j4,hs1,ht1,_⟩,_⟩:=ok
   by_cases hb:Jx j (sAt sp s) (sAt sp t)=g
   ·have e2:d=.str "":=by rw [e2];unfold whyR;dsimp only;rw [if_pos hb]
    subst e2
    exact Ac (Am (k:=false) (As (AX (AF (k:=true) (k':=false) (A3 (by walk_at "un") (evv 1) (by decide +kernel) (by decide +kernel) (by decide +kernel)) (fun _=>Bo (Al (An D_tells (by walk_at "rm") rfl (Aa (Aq (ds:=[.str "test",.str (kindS j),.int s,.int t,.bool g,way]) (evv 1) Ab (Aj (by decide) rfl)) (Aa (Ao (evv 2) (Aq (ds:=[.str "test",.str (kindS j),.int s,.int t,.bool g,way]) (evv 1) Ab (Aj (by decide) rfl)) (hs.at hs1).2) (Aa (Ao (evv 2) (Aq (ds:=[.str "test",.str (kindS j),.int s,.int t,.bool g,way]) (evv 1) Ab (Aj (by decide) rfl)) (hs.at ht1).2) Ad))) ⟨j,_,_,j1,j4,rfl,rfl⟩) (Aq (ds:=[.str "test",.str (kindS j),.int s,.int t,.bool g,way]) (evv 1) Ab (Aj (by decide) rfl)) (BI (by walk_at "un") rfl rfl (by walk_at "dp") (by rw [Jb,hb];simp)) (Ak _))))) rfl) (fun h=>by cases h) (fun _=>Af)) (Ag (Ar Ah))
   ·have e2:d=.str "test":=by rw [e2];unfold whyR;dsimp only;rw [if_neg hb]
    subst e2
    exact Ag (Am (k:=true) (As (AX (AF (k:=true) (k':=true) (A3 (by walk_at "un") (evv 1) (by decide +kernel) (by decide +kernel) (by decide +kernel)) (fun _=>Bo (Al (An D_tells (by walk_at "rm") rfl (Aa (Aq (ds:=[.str "test",.str (kindS j),.int s,.int t,.bool g,way]) (evv 1) Ab (Aj (by decide) rfl)) (Aa (Ao (evv 2) (Aq (ds:=[.str "test",.str (kindS j),.int s,.int t,.bool g,way]) (evv 1) Ab (Aj (by decide) rfl)) (hs.at hs1).2) (Aa (Ao (evv 2) (Aq (ds:=[.str "test",.str (kindS j),.int s,.int t,.bool g,way]) (evv 1) Ab (Aj (by decide) rfl)) (hs.at ht1).2) Ad))) ⟨j,_,_,j1,j4,rfl,rfl⟩) (Aq (ds:=[.str "test",.str (kindS j),.int s,.int t,.bool g,way]) (evv 1) Ab (Aj (by decide) rfl)) (BI (by walk_at "un") rfl rfl (by walk_at "dp") (by rw [Jb];simp [hb])) (Ak _))))) rfl) (fun _=>Ag (Ar Ah)) (fun h=>by cases h))
 | ari j r s t=>
   subst e2
   refine Ac (Am (k:=false) (As (AX (AF (k:=false) (k':=false) (A3 (by walk_at "un") (evv 1) (AY j) (by decide +kernel) (Bn j (by decide +kernel))) (fun h=>by cases h))) rfl) (fun h=>by cases h) (fun _=>Af)) ?_
   refine Ac (Am (k:=false) (As (AX (AF (k:=false) (k':=false) (A3 (by walk_at "un") (evv 1) (AY j) (by decide +kernel) (Bn j (by decide +kernel))) (fun h=>by cases h))) rfl) (fun h=>by cases h) (fun _=>Af)) ?_
   exact Ac (Am (k:=false) (As (AX (AF (k:=false) (k':=false) (A3 (by walk_at "un") (evv 1) (AY j) (by decide +kernel) (Bn j (by decide +kernel))) (fun h=>by cases h))) rfl) (fun h=>by cases h) (fun _=>Af)) (Ag (Ar Ah))
 | _=>
   subst e2
   refine Ac (Am (k:=false) (As (AX (AF (k:=false) (k':=false) (A3 (by walk_at "un") (evv 1) (by decide +kernel) (by decide +kernel) (by decide +kernel)) (fun h=>by cases h))) rfl) (fun h=>by cases h) (fun _=>Af)) ?_
   refine Ac (Am (k:=false) (As (AX (AF (k:=false) (k':=false) (A3 (by walk_at "un") (evv 1) (by decide +kernel) (by decide +kernel) (by decide +kernel)) (fun h=>by cases h))) rfl) (fun h=>by cases h) (fun _=>Af)) ?_
   exact Ac (Am (k:=false) (As (AX (AF (k:=false) (k':=false) (A3 (by walk_at "un") (evv 1) (by decide +kernel) (by decide +kernel) (by decide +kernel)) (fun h=>by cases h))) rfl) (fun h=>by cases h) (fun _=>Af)) (Ag (Ar Ah))
def Do (tx:List (Int×Int)) (sp:List Int):RR→Bool
 | .store s n _=>tx.any fun q=>decide (q.1=sAt sp s + n)
 | _=>false
def MV (ds:List PyData) (d:PyData):Prop:=∃(tx:List (Int×Int)) (r:RR) (sp:List Int),r.ok∧SpOk sp∧tx.length≤100∧ds=[.tuple (tx.map prD),r.D,.list (sp.map PyData.int)]∧d=.bool (Do tx sp r)
theorem Mn (D_cell:DFn P w K mg base 1 "cell_of" Dw) {f:Addr} {fd:FuncData} (F:Fun K "is_into" "is_into" Ft f fd) (hm:mg "is_into"=some (.ref f)):DFn P w K mg base 2 "is_into" MV:=by
 refine F.data hm (F.binds fun _ _ _ _ _ _ us hl=>match us,hl with | [_,_,_],_=>rfl) Kl (fun ds d ⟨_,_,_,_,_,_,e,_⟩=>by rw [e];rfl) fun cdv A outer s H E ds d hr ⟨tx,r,sp,ok,hs,hl,e,e2⟩=>?_
 subst e
 cases r with
 | store s n t=>
   subst e2
   refine Ag (Ar (AZ (k:=true) (KK (by walk_at "un") (evv 1) (by decide +kernel) (by decide +kernel) (by decide +kernel)) (fun _=>BA (AC (An D_cell (by walk_at "rm") rfl (Aa (evv 1) (Aa (evv 2) Ad)) ⟨.store s n t,sp,ok,hs,rfl,rfl,rfl⟩) (Ap (Bi (ix:=[]) (N:=["cell","word"]) (B:=JZ) (as:=tx) (D:=prD) (fun _=>true) (fun q=>PyData.int q.1) rfl (of_decide_eq_true (by kernel_rfl)) (Gb (Ce (AI (by decide)) (Ce (AI (by decide)) Gg))) (BW (evv 0)) (by rw [sizeLine_eq];omega) (fun _ _=>IO _ _)
    (fun _ _ _ _ _=>BK rfl (Az (Av (i:=0) (show List.Nodup (["cell","word"]:List Str) by decide +kernel) rfl (Or.inl rfl)) (Az (Av (i:=1) (show List.Nodup (["cell","word"]:List Str) by decide +kernel) rfl (Or.inl rfl)) Bu))) (fun a ha cl C s H fp=>BU) (fun a ha hP cl C s H fp=>(evv 0))) (show _=PyData.list (tx.map fun q=>.int q.1) by rw [AA])) (JS (.inl rfl) rfl (by rw [List.all_map,List.all_eq_true];intro x _;rfl) (by rw [List.any_map];exact congrArg (List.any tx) (funext fun q=>ED _ _))) (by rfl))) (fun h=>by cases h)))
 | ari j r s t=>
   subst e2
   exact Ag (Ar (AZ (k:=false) (KK (by walk_at "un") (evv 1) (AY j) (by decide +kernel) (Bn j (by decide +kernel))) (fun h=>by cases h) (fun _=>rfl)))
 | _=>
   subst e2
   exact Ag (Ar (AZ (k:=false) (KK (by walk_at "un") (evv 1) (by decide +kernel) (by decide +kernel) (by decide +kernel)) (fun h=>by cases h) (fun _=>rfl)))
theorem Jf (T:Txt mg) {f:Addr} {fd:FuncData} (F:Fun K "_law_worth" "_law_worth" DE f fd) (hm:mg "_law_worth"=some (.ref f)):DFn P w K mg base 1 "_law_worth" Cs:=by
 refine F.data hm (F.binds fun _ _ _ _ _ _ us hl=>match us,hl with | [_,_],_=>rfl) IW (fun ds d ⟨_,_,_,e,_⟩=>by rw [e];rfl) fun cdv A outer s H E ds d hr ⟨n,ps,sp,e,hps,hl,e2⟩=>?_
 subst e e2
 refine Ag (Ar (Ap (Ae (Ae (Aq (ds:=[.int n,.tuple (ps.map prD)]) (evv 0) Ab (Aj (by decide) rfl)) (At "sum" (ds:=[.list ((ps.map fun q=>q.2 * sp.getD q.1.toNat 0).map PyData.int)]) (Aa (Ap (Bi (ix:=[1]) (N:=["spot","many","spots"]) (B:=JZ) (as:=ps) (D:=prD) (fun _=>true) (fun q=>PyData.int (q.2 * sp.getD q.1.toNat 0)) rfl (of_decide_eq_true (by kernel_rfl)) (Gb (Ce (AI (by decide)) (Ce (AI (by decide)) Gg))) (BW (Aq (ds:=[.int n,.tuple (ps.map prD)]) (evv 0) Ab (Aj (by decide) rfl))) (by rw [sizeLine_eq];omega) (fun _ _=>IO _ _)
  (fun _ _ _ _ _=>BK rfl (Az (Av (i:=0) (show List.Nodup (["spot","many","spots"]:List Str) by decide +kernel) rfl (Or.inl rfl)) (Az (Av (i:=1) (show List.Nodup (["spot","many","spots"]:List Str) by decide +kernel) rfl (Or.inl rfl)) Bu))) (fun a ha cl C s H fp=>BU) ?el) ?eq) Ad) (K3 rfl) rfl T.b_sum (by decide +kernel)) Bk) Ab (Bp (by decide))) rfl))
 case eq=>rw [AA,List.map_map];rfl
 case el=>
  intro a ha hP cl C s H fp
  obtain ⟨h1,h2,h3,h4⟩:=hps a ha
  exact Ae (evv 1) (Ao (evv 2) (evv 0) (AW h1 h2)) (El (.inl ⟨by omega,by omega⟩))
theorem hol2:∀m,m < 2→(["same","less","truth"]:List Str)[m]?≠some ("truth":Str):=by decide +kernel
theorem hol1:∀m,m < 1→(["same","less","truth"]:List Str)[m]?≠some ("less":Str):=by decide +kernel
theorem Jo {f:Addr} {fd:FuncData} (F:Fun K "_law_holds" "_law_holds" Dz f fd) (hm:mg "_law_holds"=some (.ref f)):DFn P w K mg base 1 "_law_holds" C3:=by
 refine F.data hm (F.binds fun _ _ _ _ _ _ us hl=>match us,hl with | [_,_,_],_=>rfl) Iz (fun ds d ⟨_,_,_,_,_,e,_⟩=>by rw [e];rfl) fun cdv A outer s H E ds d hr ⟨j,a,b,j1,j4,e,e2⟩=>?_
 subst e e2
 have hj:j=1∨j=2∨j=3:=by omega
 rcases hj with rfl | rfl | rfl
 ·exact Ag (Ar (Ao (ds:=[.bool (a==b),.bool (decide (a < b)),.bool (a != 0)]) (Ap (Ay (Aa (AC (evv 1) (evv 2) (by walk_at "od") (Ak _)) (Aa (AC (evv 1) (evv 2) (by walk_at "od") (Ak _)) (Aa (AC (evv 1) Ab (by walk_at "od") (Ak _)) Ad))) (by walk_at "sz")) rfl) (DQ (ss:=["same","less","truth"]) (j:=2) (Ay (Aa Ah (Aa Ah (Aa Ah Ad))) (by walk_at "sz")) (evv 0) rfl hol2) rfl))
 ·exact Ag (Ar (Ao (ds:=[.bool (a==b),.bool (decide (a < b)),.bool (a != 0)]) (Ap (Ay (Aa (AC (evv 1) (evv 2) (by walk_at "od") (Ak _)) (Aa (AC (evv 1) (evv 2) (by walk_at "od") (Ak _)) (Aa (AC (evv 1) Ab (by walk_at "od") (Ak _)) Ad))) (by walk_at "sz")) rfl) (DQ (ss:=["same","less","truth"]) (j:=0) (Ay (Aa Ah (Aa Ah (Aa Ah Ad))) (by walk_at "sz")) (evv 0) rfl (by intro m hm;omega)) rfl))
 ·exact Ag (Ar (Ao (ds:=[.bool (a==b),.bool (decide (a < b)),.bool (a != 0)]) (Ap (Ay (Aa (AC (evv 1) (evv 2) (by walk_at "od") (Ak _)) (Aa (AC (evv 1) (evv 2) (by walk_at "od") (Ak _)) (Aa (AC (evv 1) Ab (by walk_at "od") (Ak _)) Ad))) (by walk_at "sz")) rfl) (DQ (ss:=["same","less","truth"]) (j:=1) (Ay (Aa Ah (Aa Ah (Aa Ah Ad))) (by walk_at "sz")) (evv 0) rfl hol1) rfl))
theorem Fa {f:Addr} {fd:FuncData} (D_holds:DFn P w K mg base 1 "_law_holds" C3) (F:Fun K "_law_told_truth" "_law_told_truth" BX f fd) (hm:mg "_law_told_truth"=some (.ref f)):DFn P w K mg base 2 "_law_told_truth" Of:=by
 refine F.data hm (F.binds fun _ _ _ _ _ _ us hl=>match us,hl with | [_,_],_=>rfl) EN (fun ds d ⟨_,_,_,_,_,_,_,_,e,_⟩=>by rw [e];rfl) fun cdv A outer s H E ds d hr ⟨yes,j,s0,t0,sp,j4,hs,ht,e,e2⟩=>?_
 subst e e2
 have at1:∀{i:Int} {x:PyData},0≤i→[PyData.bool yes,.str (kindS j),.int s0,.int t0][i.toNat]?=some x→atI [PyData.bool yes,.str (kindS j),.int s0,.int t0] i=some x:=fun h0 h=>Aj h0 h
 by_cases hj:j=0
 ·subst hj
  refine Ag (Am (k:=true) (Al (Aq (ds:=[.bool yes,.str (kindS 0),.int s0,.int t0]) (evv 0) Ab (at1 (by decide) rfl)) Ah (BL (by walk_at "un") (DX 0) (by decide +kernel) (by walk_at "dp") (by decide +kernel)) (Ak _)) (fun _=>Ag (Ar (Ap (Aq (ds:=[.bool yes,.str (kindS 0),.int s0,.int t0]) (evv 0) Ab (at1 (by decide) rfl)) ?_))) (fun h=>by cases h))
  cases yes <;> rfl
 ·refine Ac (Am (k:=false) (Al (Aq (ds:=[.bool yes,.str (kindS j),.int s0,.int t0]) (evv 0) Ab (at1 (by decide) rfl)) Ah (BL (by walk_at "un") (DX j) (by decide +kernel) (by walk_at "dp") (Fj (by omega) j4)) (Ak _)) (fun h=>by cases h) (fun _=>Af)) ?_
  refine Ag (Ar (Ap (AC (An D_holds (by walk_at "rm") rfl (Aa (Aq (ds:=[.bool yes,.str (kindS j),.int s0,.int t0]) (evv 0) Ab (at1 (by decide) rfl)) (Aa (Ao (evv 1) (Aq (ds:=[.bool yes,.str (kindS j),.int s0,.int t0]) (evv 0) Ab (at1 (by decide) rfl)) (AW hs.1 hs.2)) (Aa (Ao (evv 1) (Aq (ds:=[.bool yes,.str (kindS j),.int s0,.int t0]) (evv 0) Ab (at1 (by decide) rfl)) (AW ht.1 ht.2)) Ad))) ⟨j,_,_,by omega,j4,rfl,rfl⟩) (Aq (ds:=[.bool yes,.str (kindS j),.int s0,.int t0]) (evv 0) Ab (at1 (by decide) rfl)) (BL (by walk_at "un") rfl rfl (by walk_at "dp") (Jb _ _)) (Ak _)) rfl))
def ariL:List Str:=["add","sub","mul","and","xor"]
theorem Lb {j:Nat} (h:j < 5):ariL[j]?=some (ariS j)∧∀m,m < j→ariL[m]?≠some (ariS j):=by
 rcases ari5 h with rfl | rfl | rfl | rfl | rfl <;> decide +kernel
theorem PB {j:Nat} (h:j < 5) (x y:Int):atI [PyData.int (x + y),.int (x - y),.int (x * y),.int (resI "and" x y),.int (resI "xor" x y)] j=some (.int (resI (ariS j) x y)):=by
 rcases ari5 h with rfl | rfl | rfl | rfl | rfl
 ·exact congrArg (fun z=>some (PyData.int z)) (by unfold resI;rw [if_pos (by decide +kernel)])
 ·exact congrArg (fun z=>some (PyData.int z)) (by unfold resI;rw [if_neg (by decide +kernel),if_neg (by decide +kernel),if_neg (by decide +kernel),if_neg (by decide +kernel)])
 ·exact congrArg (fun z=>some (PyData.int z)) (by unfold resI;rw [if_neg (by decide +kernel),if_pos (by decide +kernel)])
 ·rfl
 ·rfl
theorem II (T:Txt mg) {f:Addr} {fd:FuncData} (F:Fun K "_law_number" "_law_number" CS f fd) (hm:mg "_law_number"=some (.ref f)):DFn P w K mg base 1 "_law_number" G8:=by
 refine F.data hm (F.binds fun _ _ _ _ _ _ us hl=>match us,hl with | [_,_],_=>rfl) sc_law_number (fun ds d ⟨_,_,_,_,_,e,_⟩=>by rw [e];rfl) fun cdv A outer s H E ds d hr ⟨r,sp,ok,hs,hse,e,e2⟩=>?_
 subst e e2
 cases r with
 | load _ _ _=>cases hse
 | store _ _ _=>cases hse
 | out _=>cases hse
 | test _ _ _ _ _=>cases hse
 | set r n=>
   exact Ag (Am (k:=true) (A3 (by walk_at "un") (evv 0) (by decide +kernel) (by decide +kernel) (by decide +kernel)) (fun _=>Ag (Ar (Aq (ds:=[.str "set",.int r,.int n]) (evv 0) Ab (Aj (by decide) rfl)))) (fun h=>by cases h))
 | copy r s=>
   refine Ac (Am (k:=false) (A3 (by walk_at "un") (evv 0) (by decide +kernel) (by decide +kernel) (by decide +kernel)) (fun h=>by cases h) (fun _=>Af)) ?_
   refine Ac (A2 (i:=2) (d:=.int (sAt sp s)) sc_law_number.nd rfl (Or.inl rfl) (Ao (evv 1) (Aq (ds:=[.str "copy",.int r,.int s]) (evv 0) Ab (Aj (by decide) rfl)) (hs.at ok.2).2)) ?_
   exact Ag (Am (k:=true) (A3 (by walk_at "un") (evv 0) (by decide +kernel) (by decide +kernel) (by decide +kernel)) (fun _=>Ag (Ar (evv 2))) (fun h=>by cases h))
 | cut r s=>
   refine Ac (Am (k:=false) (A3 (by walk_at "un") (evv 0) (by decide +kernel) (by decide +kernel) (by decide +kernel)) (fun h=>by cases h) (fun _=>Af)) ?_
   refine Ac (A2 (i:=2) (d:=.int (sAt sp s)) sc_law_number.nd rfl (Or.inl rfl) (Ao (evv 1) (Aq (ds:=[.str "cut",.int r,.int s]) (evv 0) Ab (Aj (by decide) rfl)) (hs.at ok.2).2)) ?_
   refine Ac (Am (k:=false) (A3 (by walk_at "un") (evv 0) (by decide +kernel) (by decide +kernel) (by decide +kernel)) (fun h=>by cases h) (fun _=>Af)) ?_
   exact Ag (Am (k:=true) (A3 (by walk_at "un") (evv 0) (by decide +kernel) (by decide +kernel) (by decide +kernel)) (fun _=>Ag (Ar (Ae (evv 2) Ab (Bp (by decide))))) (fun h=>by cases h))
 | addn r s n=>
   refine Ac (Am (k:=false) (A3 (by walk_at "un") (evv 0) (by decide +kernel) (by decide +kernel) (by decide +kernel)) (fun h=>by cases h) (fun _=>Af)) ?_
   refine Ac (A2 (i:=2) (d:=.int (sAt sp s)) sc_law_number.nd rfl (Or.inl rfl) (Ao (evv 1) (Aq (ds:=[.str "addn",.int r,.int s,.int n]) (evv 0) Ab (Aj (by decide) rfl)) (hs.at ok.2.1).2)) ?_
   refine Ac (Am (k:=false) (A3 (by walk_at "un") (evv 0) (by decide +kernel) (by decide +kernel) (by decide +kernel)) (fun h=>by cases h) (fun _=>Af)) ?_
   refine Ac (Am (k:=false) (A3 (by walk_at "un") (evv 0) (by decide +kernel) (by decide +kernel) (by decide +kernel)) (fun h=>by cases h) (fun _=>Af)) ?_
   exact Ag (Am (k:=true) (A3 (by walk_at "un") (evv 0) (by decide +kernel) (by decide +kernel) (by decide +kernel)) (fun _=>Ag (Ar (Ae (Ae (evv 2) (Aq (ds:=[.str "addn",.int r,.int s,.int n]) (evv 0) Ab (Aj (by decide) rfl)) Bk) Ab (Bp (by decide))))) (fun h=>by cases h))
 | ari j r s t=>
   refine Ac (Am (k:=false) (A3 (by walk_at "un") (evv 0) (AY j) (by decide +kernel) (Bn j (by decide +kernel))) (fun h=>by cases h) (fun _=>Af)) ?_
   refine Ac (A2 (i:=2) (d:=.int (sAt sp s)) sc_law_number.nd rfl (Or.inl rfl) (Ao (evv 1) (Aq (ds:=[.str (ariS j),.int r,.int s,.int t]) (evv 0) Ab (Aj (by decide) rfl)) (hs.at ok.2.2.1).2)) ?_
   refine Ac (Am (k:=false) (A3 (by walk_at "un") (evv 0) (AY j) (by decide +kernel) (Bn j (by decide +kernel))) (fun h=>by cases h) (fun _=>Af)) ?_
   refine Ac (Am (k:=false) (A3 (by walk_at "un") (evv 0) (AY j) (by decide +kernel) (Bn j (by decide +kernel))) (fun h=>by cases h) (fun _=>Af)) ?_
   refine Ac (Am (k:=false) (A3 (by walk_at "un") (evv 0) (AY j) (by decide +kernel) (Bn j (by decide +kernel))) (fun h=>by cases h) (fun _=>Af)) ?_
   have x0:=(hs.at ok.2.2.1).1
   have y0:=(hs.at ok.2.2.2).1
   obtain ⟨x,hx⟩:∃x,x=sAt sp s:=⟨_,rfl⟩
   obtain ⟨y,hy⟩:∃y,y=sAt sp t:=⟨_,rfl⟩
   refine Ac (A2 (i:=3) (d:=.int (sAt sp t)) sc_law_number.nd rfl (Or.inl rfl) (Ao (evv 1) (Aq (ds:=[.str (ariS j),.int r,.int s,.int t]) (evv 0) Ab (Aj (by decide) rfl)) (hs.at ok.2.2.2).2)) ?_
   rw [show numR sp (.ari j r s t)=resI (ariS j) (sAt sp s) (sAt sp t) % 16777216 from rfl,←hx,←hy]
   rw [←hx] at x0
   rw [←hy] at y0
   have x1:=x0.1
   have x2:=x0.2
   refine Ac (A2 (i:=4) (d:=.list [.int (x + y),.int (x - y),.int (x * y),.int (resI "and" x y),.int (resI "xor" x y)]) sc_law_number.nd rfl (Or.inl rfl) (Ay (Aa (Ae (evv 2) (evv 3) Bk) (Aa (Ae (evv 2) (evv 3) IU) (Aa (Ae (evv 2) (evv 3) (El (Or.inl ⟨by omega,by omega⟩))) (Aa (Ap (Ae (evv 2) (evv 3) NY) (congrArg PyData.int (by unfold resI;rw [if_neg (by decide +kernel),if_neg (by decide +kernel),if_pos (by decide +kernel)]))) (Aa (Ap (Ae (evv 2) (evv 3) K2) (congrArg PyData.int (by unfold resI;rw [if_neg (by decide +kernel),if_neg (by decide +kernel),if_neg (by decide +kernel),if_pos (by decide +kernel)]))) Ad))))) (by walk_at "sz"))) ?_
   exact Ag (Ar (Ae (Ao (evv 4) (DQ (ss:=ariL) (j:=j) (Ap (Ay (Aa Ah (Aa Ah (Aa Ah (Aa Ah (Aa Ah Ad))))) (by walk_at "sz")) rfl) (Aq (ds:=[.str (ariS j),.int r,.int s,.int t]) (evv 0) Ab (Aj (by decide) rfl)) (Lb ok.1).1 (Lb ok.1).2) (PB ok.1 x y)) Ab (Bp (by decide))))
theorem right_of {pg:List (Bool×Bool×Bool)} {c r:Int} (c0:0≤c):Bq pg c r=(decide (c / 16 < (pg.length:Int)) && Oa (pg.getD (c / 16).toNat (false,false,false)) r):=by
 unfold Bq
 rw [decide_eq_true c0,Bool.true_and]
 congr 1
 exact decide_eq_decide.mpr ⟨fun h=>by omega,fun h=>by omega⟩
def K6 (ds:List PyData) (d:PyData):Prop:=∃pg c r,0≤c∧0≤r∧r < 3∧pg.length≤8∧ds=[.list (pg.map A6),.int c,.int r]∧d=.bool (Bq pg c r)
theorem Ms (T:Txt mg) {f:Addr} {fd:FuncData} (F:Fun K "_law_may" "_law_may" Fw f fd) (hm:mg "_law_may"=some (.ref f)):DFn P w K mg base 1 "_law_may" K6:=by
 refine F.data hm (F.binds fun _ _ _ _ _ _ us hl=>match us,hl with | [_,_,_],_=>rfl) K8 (fun ds d ⟨_,_,_,_,_,_,_,e,_⟩=>by rw [e];rfl) fun cdv A outer s H E ds d hr ⟨pg,c,r,c0,r0,r3,p8,e,e2⟩=>?_
 subst e e2
 rw [right_of c0]
 refine Ag (Ar (AZ (k:=decide (c / 16 < (pg.length:Int))) (Ap (AC (Ae (evv 1) Ab (EQ ⟨by decide,by decide⟩)) (At "len" (Aa (evv 0) Ad) Gm rfl T.b_len (by decide +kernel)) OA (Ak _)) (by rw [List.length_map])) (fun h=>?_) (fun h=>by rw [h];rfl)))
 rw [h,Bool.true_and]
 have h1:=of_decide_eq_true h
 exact BA (Aq (Ao (evv 0) (Ae (evv 1) Ab (EQ ⟨by decide,by decide⟩)) (JT (by omega) h1)) (evv 2) (Ln r0 r3))
theorem IE (D_may:DFn P w K mg base 1 "_law_may" K6) (D_holds:DFn P w K mg base 1 "_law_holds" C3) {f:Addr} {fd:FuncData} (F:Fun K "_law_barred" "_law_barred" Db f fd) (hm:mg "_law_barred"=some (.ref f)):DFn P w K mg base 2 "_law_barred" LM:=by
 refine F.data hm (F.binds fun _ _ _ _ _ _ us hl=>match us,hl with | [_,_,_],_=>rfl) sc_law_barred (fun ds d ⟨_,_,_,_,_,_,e,_⟩=>by rw [e];rfl) fun cdv A outer s H E ds d hr ⟨pg,r,sp,ok,hs,p8,e,e2⟩=>?_
 subst e
 cases r with
 | load r s n=>
   have c0:0≤sAt sp s + n:=by have:=(hs.at ok.2.1).1.1;have:=ok.2.2.1;omega
   cases hb:Bq pg (sAt sp s + n) 0 with
   | false=>
     have e2:d=.str "read":=by rw [e2];unfold whyR;dsimp only;rw [hb];rfl
     subst e2
     exact Ag (Am (k:=true) (As (AX (AF (k:=true) (k':=true) (A3 (by walk_at "un") (evv 1) (by decide +kernel) (by decide +kernel) (by decide +kernel)) (fun _=>Bo (AD (k:=false) (AB (An D_may (by walk_at "rm") rfl (Aa (evv 0) (Aa (Ae (Ao (evv 2) (Aq (ds:=[.str "load",.int r,.int s,.int n]) (evv 1) Ab (Aj (by decide) rfl)) (hs.at ok.2.1).2) (Aq (ds:=[.str "load",.int r,.int s,.int n]) (evv 1) Ab (Aj (by decide) rfl)) Bk) (Aa Ab Ad))) ⟨pg,_,0,c0,by decide,by decide,p8,rfl,by rw [hb]⟩)))))) rfl) (fun _=>Ag (Ar Ah)) (fun h=>by cases h))
   | true=>
     have e2:d=.str "":=by rw [e2];unfold whyR;dsimp only;rw [hb];rfl
     subst e2
     refine Ac (Am (k:=false) (As (AX (AF (k:=true) (k':=false) (A3 (by walk_at "un") (evv 1) (by decide +kernel) (by decide +kernel) (by decide +kernel)) (fun _=>Bo (AD (k:=true) (AB (An D_may (by walk_at "rm") rfl (Aa (evv 0) (Aa (Ae (Ao (evv 2) (Aq (ds:=[.str "load",.int r,.int s,.int n]) (evv 1) Ab (Aj (by decide) rfl)) (hs.at ok.2.1).2) (Aq (ds:=[.str "load",.int r,.int s,.int n]) (evv 1) Ab (Aj (by decide) rfl)) Bk) (Aa Ab Ad))) ⟨pg,_,0,c0,by decide,by decide,p8,rfl,by rw [hb]⟩)))))) rfl) (fun h=>by cases h) (fun _=>Af)) ?_
     refine Ac (Am (k:=false) (As (AX (AF (k:=false) (k':=false) (A3 (by walk_at "un") (evv 1) (by decide +kernel) (by decide +kernel) (by decide +kernel)) (fun h=>by cases h))) rfl) (fun h=>by cases h) (fun _=>Af)) ?_
     exact Ac (Am (k:=false) (A3 (by walk_at "un") (evv 1) (by decide +kernel) (by decide +kernel) (by decide +kernel)) (fun h=>by cases h) (fun _=>Af)) (Ag (Ar Ah))
 | store s n t=>
   have c0:0≤sAt sp s + n:=by have:=(hs.at ok.1).1.1;have:=ok.2.1.1;omega
   refine Ac (Am (k:=false) (As (AX (AF (k:=false) (k':=false) (A3 (by walk_at "un") (evv 1) (by decide +kernel) (by decide +kernel) (by decide +kernel)) (fun h=>by cases h))) rfl) (fun h=>by cases h) (fun _=>Af)) ?_
   cases hb:Bq pg (sAt sp s + n) 1 with
   | false=>
     have e2:d=.str "write":=by rw [e2];unfold whyR;dsimp only;rw [hb];rfl
     subst e2
     exact Ag (Am (k:=true) (As (AX (AF (k:=true) (k':=true) (A3 (by walk_at "un") (evv 1) (by decide +kernel) (by decide +kernel) (by decide +kernel)) (fun _=>Bo (AD (k:=false) (AB (An D_may (by walk_at "rm") rfl (Aa (evv 0) (Aa (Ae (Ao (evv 2) (Aq (ds:=[.str "store",.int s,.int n,.int t]) (evv 1) Ab (Aj (by decide) rfl)) (hs.at ok.1).2) (Aq (ds:=[.str "store",.int s,.int n,.int t]) (evv 1) Ab (Aj (by decide) rfl)) Bk) (Aa Ab Ad))) ⟨pg,_,1,c0,by decide,by decide,p8,rfl,by rw [hb]⟩)))))) rfl) (fun _=>Ag (Ar Ah)) (fun h=>by cases h))
   | true=>
     have e2:d=.str "":=by rw [e2];unfold whyR;dsimp only;rw [hb];rfl
     subst e2
     refine Ac (Am (k:=false) (As (AX (AF (k:=true) (k':=false) (A3 (by walk_at "un") (evv 1) (by decide +kernel) (by decide +kernel) (by decide +kernel)) (fun _=>Bo (AD (k:=true) (AB (An D_may (by walk_at "rm") rfl (Aa (evv 0) (Aa (Ae (Ao (evv 2) (Aq (ds:=[.str "store",.int s,.int n,.int t]) (evv 1) Ab (Aj (by decide) rfl)) (hs.at ok.1).2) (Aq (ds:=[.str "store",.int s,.int n,.int t]) (evv 1) Ab (Aj (by decide) rfl)) Bk) (Aa Ab Ad))) ⟨pg,_,1,c0,by decide,by decide,p8,rfl,by rw [hb]⟩)))))) rfl) (fun h=>by cases h) (fun _=>Af)) ?_
     exact Ac (Am (k:=false) (A3 (by walk_at "un") (evv 1) (by decide +kernel) (by decide +kernel) (by decide +kernel)) (fun h=>by cases h) (fun _=>Af)) (Ag (Ar Ah))
 | test j s t g way=>
   refine Ac (Am (k:=false) (As (AX (AF (k:=false) (k':=false) (A3 (by walk_at "un") (evv 1) (by decide +kernel) (by decide +kernel) (by decide +kernel)) (fun h=>by cases h))) rfl) (fun h=>by cases h) (fun _=>Af)) ?_
   refine Ac (Am (k:=false) (As (AX (AF (k:=false) (k':=false) (A3 (by walk_at "un") (evv 1) (by decide +kernel) (by decide +kernel) (by decide +kernel)) (fun h=>by cases h))) rfl) (fun h=>by cases h) (fun _=>Af)) ?_
   obtain ⟨⟨j1,j4,hs1,ht1,_⟩,_⟩:=ok
   by_cases hb:Jx j (sAt sp s) (sAt sp t)=g
   ·have e2:d=.str "":=by rw [e2];unfold whyR;dsimp only;rw [if_pos hb]
    subst e2
    refine Ac (G1:=[some (.list (pg.map A6)),some (KU j s t g way),some (.list (sp.map PyData.int)),some (.int (sAt sp s))]) (Am (k:=true) (A3 (by walk_at "un") (evv 1) (by decide +kernel) (by decide +kernel) (by decide +kernel)) (fun _=>?_) (fun h=>by cases h)) (Ag (Ar Ah))
    refine Ac (A2 (i:=3) (d:=.int (sAt sp s)) sc_law_barred.nd rfl (Or.inl rfl) (Ao (evv 2) (Aq (ds:=[.str "test",.str (kindS j),.int s,.int t,.bool g,way]) (evv 1) Ab (Aj (by decide) rfl)) (hs.at hs1).2)) ?_
    exact Ac (Am (k:=false) (Al (An D_holds (by walk_at "rm") rfl (Aa (Aq (ds:=[.str "test",.str (kindS j),.int s,.int t,.bool g,way]) (evv 1) Ab (Aj (by decide) rfl)) (Aa (evv 3) (Aa (Ao (evv 2) (Aq (ds:=[.str "test",.str (kindS j),.int s,.int t,.bool g,way]) (evv 1) Ab (Aj (by decide) rfl)) (hs.at ht1).2) Ad))) ⟨j,_,_,j1,j4,rfl,rfl⟩) (Aq (ds:=[.str "test",.str (kindS j),.int s,.int t,.bool g,way]) (evv 1) Ab (Aj (by decide) rfl)) (BI (by walk_at "un") rfl rfl (by walk_at "dp") (by rw [Jb,hb];simp)) (Ak _)) (fun h=>by cases h) (fun _=>Af)) Af
   ·have e2:d=.str "test":=by rw [e2];unfold whyR;dsimp only;rw [if_neg hb]
    subst e2
    refine Ag (Am (k:=true) (A3 (by walk_at "un") (evv 1) (by decide +kernel) (by decide +kernel) (by decide +kernel)) (fun _=>?_) (fun h=>by cases h))
    refine Ac (A2 (i:=3) (d:=.int (sAt sp s)) sc_law_barred.nd rfl (Or.inl rfl) (Ao (evv 2) (Aq (ds:=[.str "test",.str (kindS j),.int s,.int t,.bool g,way]) (evv 1) Ab (Aj (by decide) rfl)) (hs.at hs1).2)) ?_
    exact Ag (Am (k:=true) (Al (An D_holds (by walk_at "rm") rfl (Aa (Aq (ds:=[.str "test",.str (kindS j),.int s,.int t,.bool g,way]) (evv 1) Ab (Aj (by decide) rfl)) (Aa (evv 3) (Aa (Ao (evv 2) (Aq (ds:=[.str "test",.str (kindS j),.int s,.int t,.bool g,way]) (evv 1) Ab (Aj (by decide) rfl)) (hs.at ht1).2) Ad))) ⟨j,_,_,j1,j4,rfl,rfl⟩) (Aq (ds:=[.str "test",.str (kindS j),.int s,.int t,.bool g,way]) (evv 1) Ab (Aj (by decide) rfl)) (BI (by walk_at "un") rfl rfl (by walk_at "dp") (by rw [Jb];simp [hb])) (Ak _)) (fun _=>Ag (Ar Ah)) (fun h=>by cases h))
 | ari j r s t=>
   subst e2
   refine Ac (Am (k:=false) (As (AX (AF (k:=false) (k':=false) (A3 (by walk_at "un") (evv 1) (AY j) (by decide +kernel) (Bn j (by decide +kernel))) (fun h=>by cases h))) rfl) (fun h=>by cases h) (fun _=>Af)) ?_
   refine Ac (Am (k:=false) (As (AX (AF (k:=false) (k':=false) (A3 (by walk_at "un") (evv 1) (AY j) (by decide +kernel) (Bn j (by decide +kernel))) (fun h=>by cases h))) rfl) (fun h=>by cases h) (fun _=>Af)) ?_
   exact Ac (Am (k:=false) (A3 (by walk_at "un") (evv 1) (AY j) (by decide +kernel) (Bn j (by decide +kernel))) (fun h=>by cases h) (fun _=>Af)) (Ag (Ar Ah))
 | _=>
   subst e2
   refine Ac (Am (k:=false) (As (AX (AF (k:=false) (k':=false) (A3 (by walk_at "un") (evv 1) (by decide +kernel) (by decide +kernel) (by decide +kernel)) (fun h=>by cases h))) rfl) (fun h=>by cases h) (fun _=>Af)) ?_
   refine Ac (Am (k:=false) (As (AX (AF (k:=false) (k':=false) (A3 (by walk_at "un") (evv 1) (by decide +kernel) (by decide +kernel) (by decide +kernel)) (fun h=>by cases h))) rfl) (fun h=>by cases h) (fun _=>Af)) ?_
   exact Ac (Am (k:=false) (A3 (by walk_at "un") (evv 1) (by decide +kernel) (by decide +kernel) (by decide +kernel)) (fun h=>by cases h) (fun _=>Af)) (Ag (Ar Ah))
abbrev RcT:=Int×List (Int×Int)
structure TrT where
 yes:Bool
 j:Nat
 s:Int
 t:Int
structure WW where
 dn:Int
 bs:List RcT
 t1:TrT
 t2:TrT
 pl:RcT
def rcD (r:RcT):PyData:=recD r.1 r.2
def trD (t:TrT):PyData:=truD t.yes t.j t.s t.t
def WW.D (w:WW):PyData:=.tuple [.int w.dn,.tuple (w.bs.map rcD),.tuple [trD w.t1,trD w.t2],rcD w.pl]
def okRc (r:RcT):Prop:=IS 12 r.2∧r.2.length≤100
def okTr (t:TrT):Prop:=t.j < 4∧spt t.s∧spt t.t
structure WW.ok (w:WW):Prop where
 d:0≤w.dn∧w.dn < 100
 bl:w.bs.length=4
 b:∀r∈w.bs,okRc r
 t1:okTr w.t1
 t2:okTr w.t2
 p:okRc w.pl
theorem EO:∀(ps:List (Int×Int)) (a:Int),-1≤a→Bw 12 1 a ps→IS 12 ps
 | [],_,_,_=>fun q hq=>by cases hq
 | p::ps,a,ha,⟨x1,x2,x3,x4,x5⟩=>fun q hq=>by
   rcases List.mem_cons.mp hq with rfl | hq
   ·exact ⟨by omega,x2,by omega,x4⟩
   ·exact EO ps p.1 (by omega) x5 q hq
theorem MY {d:PyData} (h:RecOk d):∃r:RcT,d=rcD r∧okRc r:=by
 obtain ⟨n,ps,_,_,h3,h4,rfl⟩:=h
 exact ⟨(n,ps),rfl,EO ps _ (by decide) h3,by show ps.length≤100;omega⟩
theorem LI:∀bs:List PyData,(∀b∈bs,RecOk b)→∃rs:List RcT,bs=rs.map rcD∧∀r∈rs,okRc r
 | [],_=>⟨[],rfl,fun r h=>by cases h⟩
 | b::bs,h=>by
   obtain ⟨rs,e,hr⟩:=LI bs fun b hb=>h b (List.mem_cons_of_mem _ hb)
   obtain ⟨r,e1,h1⟩:=MY (h b List.mem_cons_self)
   exact ⟨r::rs,by rw [List.map_cons,e,e1],fun q hq=>by
    rcases List.mem_cons.mp hq with rfl | hq
    ·exact h1
    ·exact hr q hq⟩
theorem Jw {d:PyData} (h:TruthOk d):∃t:TrT,d=trD t∧okTr t:=by
 obtain ⟨yes,j,s,t,h1,h2,h3,_,_,rfl⟩:=h
 exact ⟨⟨yes,j,s,t⟩,rfl,h1,h2,h3⟩
theorem Rq {d:PyData} (h:WayOk d):∃w:WW,d=w.D∧w.ok:=by
 obtain ⟨dn,bs,t1,t2,pl,d0,d1,bl,hb,ht1,ht2,hp,rfl⟩:=h
 obtain ⟨rs,rfl,hr⟩:=LI bs hb
 obtain ⟨a,rfl,ha⟩:=Jw ht1
 obtain ⟨b,rfl,hb⟩:=Jw ht2
 obtain ⟨p,rfl,hp2⟩:=MY hp
 exact ⟨⟨dn,rs,a,b,p⟩,rfl,⟨d0,d1⟩,by rw [←bl,List.length_map],hr,ha,hb,hp2⟩
theorem OF (r:RcT):noL (rcD r)=true:=by
 show (true && (noLs (r.2.map prD) && true))=true
 rw [EA];rfl
theorem WW.noL (w:WW):noL w.D=true:=by
 show (true && (noLs (w.bs.map rcD) && (true && (L2.noL (rcD w.pl) && true))))=true
 rw [Ck fun d hd=>by obtain ⟨r,_,rfl⟩:=List.mem_map.mp hd;exact OF r,OF]
 rfl
def Bz (sp:List Int) (r:RcT):Int:=(r.1 + sumR r.2 sp) % 4096
def A_ (sp:List Int) (t:TrT):Bool:=NB t.yes t.j t.s t.t sp
def BH (S:MS) (w:WW) (sp:List Int):MS:=putM S (w.bs.map (Bz sp)) (A_ sp w.t1) (A_ sp w.t2) (Bz sp w.pl) w.dn
structure RD where
 sp:List Int
 mem:List Int
 told:List Int
 sto:List Int
 late:Option (Int×Int)
def RR.tgt:RR→Int
 | .set r _=>r
 | .copy r _=>r
 | .cut r _=>r
 | .ari _ r _ _=>r
 | .addn r _ _=>r
 | .load r _ _=>r
 | _=>0
noncomputable def doR (x:RD):RR→RD
 | .load r s n=>{x with late:=some (r,FK x.mem (sAt x.sp s + n))}
 | .store s n t=>{x with mem:=x.mem.set (sAt x.sp s + n).toNat (sAt x.sp t % 4096),sto:=x.sto++[sAt x.sp s + n],late:=none}
 | .out s=>{x with told:=x.told++[sAt x.sp s % 4096],late:=none}
 | .test _ _ _ _ _=>{x with late:=none}
 | r=>{x with sp:=x.sp.set r.tgt.toNat (numR x.sp r),late:=none}
def HU (l:Option (Int×Int)) (sp:List Int):List Int:=match l with
 | none=>sp
 | some q=>sp.set q.1.toNat q.2
noncomputable def AR (x:RD) (r:RR):RD:={doR x r with sp:=HU x.late (doR x r).sp}
def whyL (pg:List (Bool×Bool×Bool)) (last:Option Int) (k:Nat) (sp:List Int) (r:RR):Str:=if last=some (k:Int) then "break" else whyR pg sp r
def wayT (why:Str) (r:RR) (w:PyData):PyData:=if why="test" then (match r with | .test _ _ _ _ way=>way | _=>w) else w
def atW (ways:List PyData) (k:Nat):PyData:=ways.getD k .none
structure OutR where
 k:Nat
 why:Str
 way:PyData
 x:RD
noncomputable def Dk (pg:List (Bool×Bool×Bool)) (tx:List (Int×Int)) (ways:List PyData) (last:Option Int):List RR→Nat→RD→OutR
 | [],k,x=>⟨k,"end",atW ways k,x⟩
 | r::rs,k,x=>if whyL pg last k x.sp r="" then (if Do tx x.sp r=true then ⟨k,"text",atW ways (k + 1),AR x r⟩ else Dk pg tx ways last rs (k + 1) (AR x r)) else ⟨k,whyL pg last k x.sp r,wayT (whyL pg last k x.sp r) r (atW ways k),x⟩
theorem DC {x:RD} {r:RR} (h:r.sets=true):doR x r={x with sp:=x.sp.set r.tgt.toNat (numR x.sp r),late:=none}:=by
 cases r <;> first | rfl | cases h
structure RDok (pg:List (Bool×Bool×Bool)) (k:Nat) (x:RD):Prop where
 sp:SpOk x.sp
 ml:x.mem.length=16 * pg.length
 mw:∀z∈x.mem,0≤z∧z < 4096
 told:x.told.length≤k
 sto:x.sto.length≤k
 late:∀q,x.late=some q→spt q.1∧nb q.2
theorem JO {sp:List Int} (h:SpOk sp) {n:Nat} {v:Int} (hv:nb v):SpOk (sp.set n v):=⟨by rw [List.length_set];exact h.1,fun z hz=>by
 rcases List.mem_or_eq_of_mem_set hz with h1 | h1
 ·exact h.2 z h1
 ·rw [h1];exact hv⟩
theorem RR.tgt_ok {r:RR} (ok:r.ok) (h:r.sets=true):spt r.tgt:=by
 cases r with
 | set _ _=>exact ok.1
 | copy _ _=>exact ok.1
 | cut _ _=>exact ok.1
 | ari _ _ _ _=>exact ok.2.1
 | addn _ _ _=>exact ok.1
 | load _ _ _=>cases h
 | store _ _ _=>cases h
 | out _=>cases h
 | test _ _ _ _ _=>cases h
theorem Nt {m:List Int} (h:∀z∈m,0≤z∧z < 4096) (p:Int):nb (FK m p):=by
 unfold FK nb
 rw [List.getD_eq_getElem?_getD]
 cases e:m[p.toNat]? with
 | none=>exact show (0:Int)≤0∧(0:Int) < 16777216 by decide
 | some z=>
   have:=h z (List.mem_of_getElem? e)
   show 0≤z∧z < 16777216
   omega
theorem KP {pg:List (Bool×Bool×Bool)} {k:Nat} {x:RD} (h:RDok pg k x) {r:RR} (ok:r.ok):RDok pg (k + 1) (doR x r):=by
 have t1:=Nat.le_succ_of_le h.told
 have t2:=Nat.le_succ_of_le h.sto
 by_cases hs:r.sets=true
 ·rw [DC hs]
  exact ⟨JO h.sp (Lg h.sp ok hs),h.ml,h.mw,t1,t2,fun q e=>by cases e⟩
 ·cases r with
  | load r s n=>exact ⟨h.sp,h.ml,h.mw,t1,t2,fun q e=>by cases e;exact ⟨ok.1,Nt h.mw _⟩⟩
  | store s n t=>
    refine ⟨h.sp,by show (x.mem.set _ _).length=_;rw [List.length_set];exact h.ml,fun z hz=>?_,t1,?_,fun q e=>by cases e⟩
    ·rcases List.mem_or_eq_of_mem_set hz with h1 | h1
     ·exact h.mw z h1
     ·rw [h1];omega
    ·show (x.sto++[_]).length≤_
     rw [List.length_append];exact Nat.succ_le_succ h.sto
  | out s=>
    refine ⟨h.sp,h.ml,h.mw,?_,t2,fun q e=>by cases e⟩
    show (x.told++[_]).length≤_
    rw [List.length_append];exact Nat.succ_le_succ h.told
  | test _ _ _ _ _=>exact ⟨h.sp,h.ml,h.mw,t1,t2,fun q e=>by cases e⟩
  | set _ _=>exact (hs rfl).elim
  | copy _ _=>exact (hs rfl).elim
  | cut _ _=>exact (hs rfl).elim
  | ari _ _ _ _=>exact (hs rfl).elim
  | addn _ _ _=>exact (hs rfl).elim
theorem EE {pg:List (Bool×Bool×Bool)} {k:Nat} {x:RD} (h:RDok pg k x) {r:RR} (ok:r.ok):RDok pg (k + 1) (AR x r):=by
 have d:=KP h ok
 refine ⟨?_,d.ml,d.mw,d.told,d.sto,d.late⟩
 show SpOk (HU x.late (doR x r).sp)
 cases e:x.late with
 | none=>exact d.sp
 | some q=>exact JO d.sp (h.late q e).2
def D_ (l:Option (Int×Int)):PyData:=match l with
 | none=>.none
 | some q=>.tuple [.int q.1,.int q.2]
def B0 (l:Option (Int×Int)):List PyData:=match l with
 | none=>[]
 | some q=>[.int q.1,.int q.2]
def AQ (l:Option Int):PyData:=match l with
 | none=>.none
 | some i=>.int i
abbrev mOf (S:MS) (x:RD):MS:={S with mem:=x.mem,told:=x.told,sto:=x.sto}
def AS (S:MS):List Int:=S.bx++[if S.tz=true then 1 else 0,if S.tl=true then 1 else 0]++List.replicate 6 0
theorem Mu {S:MS} (ok:MsOk S):SpOk (AS S):=by
 unfold AS
 refine ⟨by rw [List.length_append,List.length_append,ok.bl];rfl,fun z hz=>?_⟩
 have b1:∀b:Bool,nb (if b=true then 1 else 0):=fun b=>by unfold nb;cases b <;> decide
 rcases List.mem_append.mp hz with hz | hz
 ·rcases List.mem_append.mp hz with hz | hz
  ·have:=ok.bw z hz;unfold nb;omega
  ·simp only [List.mem_cons,List.not_mem_nil,or_false] at hz
   rcases hz with rfl | rfl
   ·exact b1 _
   ·exact b1 _
 ·rw [List.eq_of_mem_replicate hz];exact (by decide:(0:Int)≤0∧(0:Int) < 16777216)
theorem JU {pg:List (Bool×Bool×Bool)} {sp:List Int} {r s n:Int} (h:whyR pg sp (.load r s n)=""):Bq pg (sAt sp s + n) 0=true:=by
 unfold whyR at h
 dsimp only at h
 by_cases hb:Bq pg (sAt sp s + n) 0=true
 ·exact hb
 ·rw [if_neg hb] at h;exact absurd h (by decide)
theorem HL {pg:List (Bool×Bool×Bool)} {sp:List Int} {s n t:Int} (h:whyR pg sp (.store s n t)=""):Bq pg (sAt sp s + n) 1=true:=by
 unfold whyR at h
 dsimp only at h
 by_cases hb:Bq pg (sAt sp s + n) 1=true
 ·exact hb
 ·rw [if_neg hb] at h;exact absurd h (by decide)
theorem NN (T:Txt mg) {C:Addr} (CM:ClsM K mg C) {f:Addr} {fd:FuncData} (F:Fun K "pages" "Machine.pages" BE f fd) (hm:Meth K C "pages" f):FMFn P w K mg base 1 C "pages" (fun ds ws=>∃S:MS,ds=[mcD C S]∧ws=S.pg.map A6):=by
 refine F.dataMF hm (F.binds fun _ _ _ _ _ _ us hl=>match us,hl with | [_],_=>rfl) CI (fun ds d ⟨_,e,_⟩=>by rw [e];rfl) fun cdv A outer s H E ds ws hr ⟨S,e,e2⟩=>?_
 subst e e2
 exact Le (AT (Bh CM.cl CM.n0 (evv 0) (PN S)) rfl T.b_list)
theorem Bj {K:PySem.W.Frag} {R:OR} {S:MS}:Gd (R.L,MZ K R S):=S6 fun q hq=>by
 have hq:q∈[(("here":Str),PyData.int S.here),("truth_pair",.tuple [.bool S.tz,.bool S.tl]),("done_count",.int S.done)]:=hq
 simp only [List.mem_cons,List.not_mem_nil,or_false] at hq
 rcases hq with rfl | rfl | rfl <;> rfl
theorem A1 {it:Zt} {its:List Zt} (h:Gd it) (hs:Gds its):Gds (it::its):=fun z hz=>by
 rcases List.mem_cons.mp hz with rfl | hz
 ·exact h
 ·exact hs z hz
theorem AE:Gds []:=fun z hz=>by cases hz
def Qc (C:Addr) (ds ws:List PyData):Prop:=∃S:MS,MsOk S∧ds=[mcD C S]∧ws=(AS S).map PyData.int
theorem Hi (T:TxtP K mg w.params) {C:Addr} (CM:ClsM K mg C) (M_boxes:MFn P w K mg base 1 C "boxes" (fun ds d=>∃S:MS,ds=[mcD C S]∧d=.list (S.bx.map PyData.int))) (M_truths:MFn P w K mg base 1 C "truths" (fun ds d=>∃S:MS,ds=[mcD C S]∧d=.tuple [.bool S.tz,.bool S.tl])) {f:Addr} {fd:FuncData} (F:Fun K "first_spots" "first_spots" CF f fd) (hm:mg "first_spots"=some (.ref f)):FFn P w K mg base 2 "first_spots" (Qc C):=by
 refine F.dataF hm (F.binds fun _ _ _ _ _ _ us hl=>match us,hl with | [_],_=>rfl) sc_first_spots (fun ds d ⟨_,_,e,_⟩=>by rw [e];rfl) fun cdv A outer s H E ds ws hr ⟨S,ok,e,e2⟩=>?_
 subst e e2
 have bl:=ok.bl
 refine Pi (G1:=[some (mcD C S),some (.list ((S.bx++[if S.tz=true then 1 else 0,if S.tl=true then 1 else 0]).map PyData.int))]) (A2 (i:=1) (d:=.list ((S.bx++[if S.tz=true then 1 else 0,if S.tl=true then 1 else 0]).map PyData.int)) sc_first_spots.nd rfl (Or.inl rfl) (Ap (Ae (AJ CM.cl M_boxes (by walk_at "rm") (evv 0) ⟨S,rfl,rfl⟩) (Bi (ix:=[]) (N:=["truth"]) (B:=bind1) (as:=[S.tz,S.tl]) (D:=PyData.bool) (fun _=>true) (fun b=>PyData.int (if b=true then 1 else 0)) rfl (of_decide_eq_true (by kernel_rfl)) (AI (by decide)) (BW (AJ CM.cl M_truths (by walk_at "rm") (evv 0) ⟨S,rfl,rfl⟩)) (by rw [sizeLine_eq];show 2≤16777216;decide) (fun _ _=>BF _) (fun _ _ _ _ _=>Av (i:=0) (show List.Nodup (["truth"]:List Str) by decide +kernel) rfl (Or.inl rfl)) (fun a ha cl C s H fp=>BU) ?el) (IA ?sz)) ?eq)) ?_
 case el=>
  intro b hb hP cl C s H fp
  refine Gx (k:=b) (AB (evv 0)) (fun h=>?_) (fun h=>?_)
  ·subst h;exact Ab
  ·subst h;exact Ab
 case sz=>rw [List.length_map,AA,List.length_map,sizeLine_eq];show _ + 2≤_;omega
 case eq=>rw [AA,List.map_append];rfl
 have h12:(12:Int) - (((S.bx++[if S.tz=true then (1:Int) else 0,if S.tl=true then 1 else 0]).map PyData.int).length:Int)=6:=by
  rw [List.length_map,List.length_append];show (12:Int) - ((S.bx.length + 2:Nat):Int)=6;omega
 have ew:(AS S).map PyData.int=(S.bx++[if S.tz=true then 1 else 0,if S.tl=true then 1 else 0]).map PyData.int++(List.replicate 6 (0:Int)).map PyData.int:=by unfold AS;rw [List.map_append]
 rw [ew]
 refine Le (Lm (ys:=(List.replicate 6 (0:Int)).map PyData.int) (evv 1) (Ap (Ae (Ay (Aa Ab Ad) (by walk_at "sz")) (Ap (Ae (T.g_spots rfl) (At "len" (Aa (evv 1) Ad) (by walk_at "cd") rfl T.b_len (by decide +kernel)) IU) (congrArg PyData.int h12)) (Lr (by decide) (by decide) (by rw [sizeLine_eq];decide))) rfl) ?_)
 rw [List.length_map,List.length_append,sizeLine_eq]
 show (S.bx.length + 2) + 6≤_
 omega
abbrev its2 (K:PySem.W.Frag) (R:OR) (p:Addr) (S:MS) (sp:List Int):List Zt:=[(R.L,MZ K R S),([p],Kz K p (sp.map PyData.int))]
theorem gds2 {K:PySem.W.Frag} {R:OR} {p:Addr} {S:MS} {sp:List Int}:Gds (its2 K R p S sp):=A1 Bj (A1 Gz AE)
def spDo (K:PySem.W.Frag) (C:Addr):Sp:=fun vs H Q _=>∃(R:OR) (p:Addr) (S:MS) (x:RD) (r:RR) (k:Nat) (v:V),R.C=C∧vs=[.ref R.a,v,.ref p]∧RDok S.pg k x∧k < 90000∧r.ok∧whyR S.pg x.sp r=""∧TZ (its2 K R p (mOf S x) x.sp) H∧DV K (lef (LZ (its2 K R p (mOf S x) x.sp)) H) v r.D∧
 ∀v' H',TZ (its2 K R p (mOf S (doR x r)) (doR x r).sp) H'→Same (lef (LZ (its2 K R p (mOf S x) x.sp)) H) (lef (LZ (its2 K R p (mOf S x) x.sp)) H')→DV K (lef (LZ (its2 K R p (mOf S x) x.sp)) H') v' (D_ (doR x r).late)→Q v' H'
def DoFn (P:Program) (w:World) (K:PySem.W.Frag) (mg:Str→Option Value) (base:Heap) (k:Nat) (C:Addr):Prop:=
 ∃f fd ps,FnOk P w K mg base CX0 k f fd ps (spDo K C)∧mg "do_row"=some (.ref f)∧PySem.W.keepIn K (.ref f)=true∧Binds K fd ps []
theorem Is {X:Cx} {G:Gam} {e:Expr} {nm m:Str} {rest:List PyData} {k:Bool} {p2 p3 p4 pos:Pos} {k0 ci:Nat} (hu:X.A.units + 64 < cLine) (he:EV X G e (.tuple (.str nm::rest))) (hcl:PyData.canLay0 (.str nm)=true) (hm:PyData.canLay0 (.str m)=true) (hk:(!decide (nm=m))=k):TV X G (.Compare (.Subscript e (.Constant (.int 0) k0 p2) p3) [.NotEq] [.Constant (.str m) ci p4] pos) k:=
 Al (Aq (ds:=.str nm::rest) he Ab (Aj (by decide) rfl)) Ah (BI hu hcl hm (by walk_at "dp") (by rw [FF];exact hk)) (Ak _)
theorem RR.rest_sets {r:RR} (h:r.sets=true):∃l,r.rest=.int r.tgt::l:=by
 cases r <;> first | exact ⟨_,rfl⟩ | cases h
theorem RR.nm_sets {r:RR} (h:r.sets=true):decide (r.nm="load")=false∧decide (r.nm="store")=false∧decide (r.nm="out")=false∧decide (r.nm="test")=false:=by
 cases r with
 | ari j _ _ _=>exact ⟨Bn j (by decide +kernel),Bn j (by decide +kernel),Bn j (by decide +kernel),Bn j (by decide +kernel)⟩
 | load _ _ _=>cases h
 | store _ _ _=>cases h
 | out _=>cases h
 | test _ _ _ _ _=>cases h
 | set _ _=>exact (by decide +kernel:decide (("set":Str)="load")=false∧decide (("set":Str)="store")=false∧decide (("set":Str)="out")=false∧decide (("set":Str)="test")=false)
 | copy _ _=>exact (by decide +kernel:decide (("copy":Str)="load")=false∧decide (("copy":Str)="store")=false∧decide (("copy":Str)="out")=false∧decide (("copy":Str)="test")=false)
 | cut _ _=>exact (by decide +kernel:decide (("cut":Str)="load")=false∧decide (("cut":Str)="store")=false∧decide (("cut":Str)="out")=false∧decide (("cut":Str)="test")=false)
 | addn _ _ _=>exact (by decide +kernel:decide (("addn":Str)="load")=false∧decide (("addn":Str)="store")=false∧decide (("addn":Str)="out")=false∧decide (("addn":Str)="test")=false)
theorem AN {X:Cx} {L:List Addr} {I:Hp→Prop} {rs:List (Nat×Addr)} {G:Gam} {c:Expr} {k:Bool} (ok:ZOk L I) (h:TV X G c k):ZTI X L I rs G c k I:=Rb (Sn ok h)
theorem Mc {C:Addr} (CM:ClsM K mg C) (O_poke:OFn P w K mg base 1 C "poke" (HC MU)) (O_tell:OFn P w K mg base 1 C "tell" (HC N9)) (M_peek:MFn P w K mg base 1 C "peek" (Nk C)) (D_cell:DFn P w K mg base 1 "cell_of" Dw) (D_nset:DFn P w K mg base 2 "number_set" G8) {f:Addr} {fd:FuncData} (F:Fun K "do_row" "do_row" GC f fd) (hm:mg "do_row"=some (.ref f)):DoFn P w K mg base 3 C:=by
 refine ⟨f,fd,["machine","row","spots"],F.ok Mt (fun vs H Q E ⟨R,p,S,x,r,k,v,_,e,_⟩=>by rw [e];rfl) ?_,hm,F.kp,F.binds fun _ _ _ _ _ _ us hl=>match us,hl with | [_,_,_],_=>rfl⟩
 rintro cdv A outer s H vs Q E hr ⟨R,p,S,x,r,k,v,hC,e,okx,k9,okr,hwhy,tz,dv,q⟩
 subst hC e
 have h0:((0:Nat),R.a)∈[(0,R.a),(2,p)]:=List.mem_cons_self
 have h2:((2:Nat),p)∈[(0,R.a),(2,p)]:=List.mem_cons_of_mem _ List.mem_cons_self
 have ok2:∀(S1:MS) (sp:List Int),ZOk (LZ (its2 K R p (mOf S x) x.sp)) (TZ (its2 K R p S1 sp)):=fun S1 sp=>show ZOk (LZ (its2 K R p S1 sp)) _ from gds2.ok
 have see:∀(S:MS) (sp:List Int) (G:Gam),Sees K (LZ (its2 K R p S sp)) (TZ (its2 K R p S sp)) [(0,R.a),(2,p)] G ((G.set 0 (some (mcD R.C S))).set 2 (some (.list (sp.map PyData.int)))):=fun S sp G=>Oj h0 h2 (fun H t=>(tz_two.mp t).2.1.dv) (fun H t=>(tz_two.mp t).2.2.dv)
 have hs:=okx.sp
 have few:FewM (mOf S x):=⟨by have:=okx.sto;show x.sto.length < _;omega,by have:=okx.told;show x.told.length < _;omega⟩
 refine ⟨zV K (LZ (its2 K R p (mOf S x) x.sp)) (TZ (its2 K R p (mOf S x) x.sp)) [(0,R.a),(2,p)] [none,some (.tuple (.str r.nm::r.rest)),none] (fun _ _ _=>False) (fun L' v' H'=>L'=LZ (its2 K R p (mOf S x) x.sp)∧TZ (its2 K R p (mOf S (doR x r)) (doR x r).sp) H'∧DV K (lef (LZ (its2 K R p (mOf S x) x.sp)) H') v' (D_ (doR x r).late)),?_,⟨fun z hz=>?_,tz,?_⟩,fun _ _ _ f=>f.elim,fun L' v' H' ⟨e,t',dv'⟩ s'=>by subst e;exact q v' H' t' s' dv'⟩
 rotate_left
 ·rcases List.mem_cons.mp hz with rfl | hz
  ·rfl
  ·rw [List.mem_singleton.mp hz];rfl
 ·refine ⟨rfl,fun i d e=>?_⟩
  match i,e with
  | 0,e=>cases e
  | 1,e=>exact ⟨v,rfl,by cases e;rw [←RR.D_eq];exact dv⟩
  | 2,e=>cases e
  | k + 3,e=>cases e
 by_cases hse:r.sets=true
 ·obtain ⟨n1,n2,n3,n4⟩:=RR.nm_sets hse
  obtain ⟨l,el⟩:=RR.rest_sets hse
  have tg:=RR.tgt_ok okr hse
  have nv:=Lg hs okr hse
  refine C_ (AN (ok2 _ _) (A3 (by walk_at "un") (evv 1) r.lay (by decide +kernel) n1)) ?_
  refine AK (G1:=[none,some (.tuple (.str r.nm::r.rest)),none]) (I1:=TZ (its2 K R p (mOf S (doR x r)) (doR x r).sp)) (AU (k:=false) (AN (ok2 _ _) (A3 (by walk_at "un") (evv 1) r.lay (by decide +kernel) n2)) (fun h=>by cases h) (fun _=>?_)) (Fb (Dh (ok2 _ _) (Ap Fx (by rw [DC hse];rfl)) (by rw [DC hse];rfl)) fun v' H' i' dv'=>⟨rfl,i',dv'⟩)
  refine A9 (AU (k:=false) (AN (ok2 _ _) (A3 (by walk_at "un") (evv 1) r.lay (by decide +kernel) n3)) (fun h=>by cases h) (fun _=>?_)) AL
  refine A9 (AU (k:=true) (AN (ok2 _ _) (Is (by walk_at "un") (evv 1) r.lay (by decide +kernel) (by rw [n4];rfl))) (fun _=>?_) (fun h=>by cases h)) AL
  refine A9 (CL (Gq (A:=[(R.L,MZ K R (mOf S x))]) (B:=[]) (S:=x.sp.map PyData.int) (d:=.int (numR x.sp r)) (z:=r.tgt) rfl gds2 h2 (pv 2) (see (mOf S x) x.sp _) (An D_nset (by walk_at "rm") rfl (Aa (evv 1) (Aa (evv 2) Ad)) ⟨r,x.sp,okr,hs,hse,by rw [RR.D_eq],rfl⟩) rfl (Aq (ds:=.str r.nm::r.rest) (evv 1) Ab (Aj (by decide) (by rw [el];rfl))) tg.1 (by rw [List.length_map,hs.1];exact tg.2)) ?_) AL
  rw [DC hse,Cp]
  rfl
 ·cases r with
  | set _ _=>exact (hse rfl).elim
  | copy _ _=>exact (hse rfl).elim
  | cut _ _=>exact (hse rfl).elim
  | ari _ _ _ _=>exact (hse rfl).elim
  | addn _ _ _=>exact (hse rfl).elim
  | load r s n=>
    show PSs _ _ (zV K _ _ _ [none,some (.tuple [.str "load",.int r,.int s,.int n]),none] _ _)
    have hr0:=ER (JU hwhy)
    have hml:=okx.ml
    refine GX (AN (ok2 _ _) (A3 (by walk_at "un") (evv 1) (by decide +kernel) (by decide +kernel) (by decide +kernel))) ?_
    refine Fb (d:=.tuple [.int r,.int (FK x.mem (sAt x.sp s + n))]) (Gy (ok2 _ _) (see (mOf S x) x.sp _) (AG (ds:=[.int r,.int (FK x.mem (sAt x.sp s + n))]) (Aa (Aq (ds:=[.str "load",.int r,.int s,.int n]) (evv 1) Ab (Aj (by decide) rfl)) (Aa (Op CM.cl M_peek (by walk_at "rm") (evv 0) (Aa (An D_cell (by walk_at "rm") rfl (Aa (evv 1) (Aa (evv 2) Ad)) ⟨.load r s n,x.sp,okr,hs,rfl,rfl,rfl⟩) Ad) ⟨mOf S x,_,hr0.1,?_,rfl,rfl⟩) Ad)) (by walk_at "sz")) rfl) fun v' H' i' dv'=>⟨rfl,i',dv'⟩
    show sAt x.sp s + n < (x.mem.length:Int)
    rw [hml];have:=hr0.2;omega
  | store s n t=>
    show PSs _ _ (zV K _ _ _ [none,some (.tuple [.str "store",.int s,.int n,.int t]),none] _ _)
    have hr0:=ER (HL hwhy)
    have hml:=okx.ml
    have c1:sAt x.sp s + n < (x.mem.length:Int):=by rw [hml];have:=hr0.2;omega
    refine C_ (AN (ok2 _ _) (A3 (by walk_at "un") (evv 1) (by decide +kernel) (by decide +kernel) (by decide +kernel))) ?_
    refine AK (G1:=[none,some (.tuple [.str "store",.int s,.int n,.int t]),none]) (I1:=TZ (its2 K R p (mOf S (doR x (.store s n t))) x.sp)) (AU (k:=true) (AN (ok2 _ _) (A3 (by walk_at "un") (evv 1) (by decide +kernel) (by decide +kernel) (by decide +kernel))) (fun _=>?_) (fun h=>by cases h)) (Fb (Dh (ok2 _ _) Fx rfl) fun v' H' i' dv'=>⟨rfl,i',dv'⟩)
    exact A9 (Lq (LH (A:=[]) (B:=[([p],Kz K p (x.sp.map PyData.int))]) (ds:=[.int (sAt x.sp s + n),.int (sAt x.sp t % 4096)]) (d:=.none) rfl gds2 CM.cl O_poke (by walk_at "rm") h0 (pv 0) (see (mOf S x) x.sp _) (Aa (An D_cell (by walk_at "rm") rfl (Aa (evv 1) (Aa (evv 2) Ad)) ⟨.store s n t,x.sp,okr,hs,rfl,rfl,rfl⟩) (Aa (Ae (Ao (evv 2) (Aq (ds:=[.str "store",.int s,.int n,.int t]) (evv 1) Ab (Aj (by decide) rfl)) (hs.at okr.2.2).2) Ab (Bp (by decide))) Ad)) rfl ⟨⟨mOf S x,_,_,hr0.1,c1,few,rfl,rfl,rfl,rfl,rfl⟩,rfl⟩ rfl)) AL
  | out s=>
    show PSs _ _ (zV K _ _ _ [none,some (.tuple [.str "out",.int s]),none] _ _)
    refine C_ (AN (ok2 _ _) (A3 (by walk_at "un") (evv 1) (by decide +kernel) (by decide +kernel) (by decide +kernel))) ?_
    refine AK (G1:=[none,some (.tuple [.str "out",.int s]),none]) (I1:=TZ (its2 K R p (mOf S (doR x (.out s))) x.sp)) (AU (k:=false) (AN (ok2 _ _) (A3 (by walk_at "un") (evv 1) (by decide +kernel) (by decide +kernel) (by decide +kernel))) (fun h=>by cases h) (fun _=>?_)) (Fb (Dh (ok2 _ _) Fx rfl) fun v' H' i' dv'=>⟨rfl,i',dv'⟩)
    refine A9 (AU (k:=true) (AN (ok2 _ _) (A3 (by walk_at "un") (evv 1) (by decide +kernel) (by decide +kernel) (by decide +kernel))) (fun _=>?_) (fun h=>by cases h)) AL
    exact A9 (Lq (LH (A:=[]) (B:=[([p],Kz K p (x.sp.map PyData.int))]) (ds:=[.int (sAt x.sp s % 4096)]) (d:=.none) rfl gds2 CM.cl O_tell (by walk_at "rm") h0 (pv 0) (see (mOf S x) x.sp _) (Aa (Ae (Ao (evv 2) (Aq (ds:=[.str "out",.int s]) (evv 1) Ab (Aj (by decide) rfl)) (hs.at okr).2) Ab (Bp (by decide))) Ad) rfl ⟨⟨mOf S x,_,few,rfl,rfl,rfl,rfl,rfl⟩,rfl⟩ rfl)) AL
  | test j s t g way=>
    show PSs _ _ (zV K _ _ _ [none,some (.tuple [.str "test",.str (kindS j),.int s,.int t,.bool g,way]),none] _ _)
    refine C_ (AN (ok2 _ _) (A3 (by walk_at "un") (evv 1) (by decide +kernel) (by decide +kernel) (by decide +kernel))) ?_
    refine AK (G1:=[none,some (.tuple [.str "test",.str (kindS j),.int s,.int t,.bool g,way]),none]) (I1:=TZ (its2 K R p (mOf S x) x.sp)) (AU (k:=false) (AN (ok2 _ _) (A3 (by walk_at "un") (evv 1) (by decide +kernel) (by decide +kernel) (by decide +kernel))) (fun h=>by cases h) (fun _=>?_)) (Fb (Dh (ok2 _ _) Fx rfl) fun v' H' i' dv'=>⟨rfl,i',dv'⟩)
    refine A9 (AU (k:=false) (AN (ok2 _ _) (A3 (by walk_at "un") (evv 1) (by decide +kernel) (by decide +kernel) (by decide +kernel))) (fun h=>by cases h) (fun _=>?_)) AL
    exact A9 (AU (k:=false) (AN (ok2 _ _) (Is (by walk_at "un") (evv 1) (by decide +kernel) (by decide +kernel) (by decide +kernel))) (fun h=>by cases h) (fun _=>AL)) AL
def MW (lf:LF) (df:DF) (ds:List PyData) (d:PyData) (lf':LF) (df':DF):Prop:=∃(S:MS) (ww:WW) (sp:List Int),ww.ok∧sp.length=12∧lf=lfM S∧df=dfM S∧ds=[ww.D,.list (sp.map PyData.int)]∧d=.int ww.dn∧lf'=lfM (BH S ww sp)∧df'=dfM (BH S ww sp)
theorem Gc {sp:List Int} {r:RcT} (h:okRc r) (hsp:sp.length=12):Cs [rcD r,.list (sp.map PyData.int)] (.int (Bz sp r)):=⟨r.1,r.2,sp,rfl,by rw [hsp];exact h.1,h.2,rfl⟩
theorem Ii {sp:List Int} {t:TrT} (h:okTr t) (hsp:sp.length=12):Of [trD t,.list (sp.map PyData.int)] (.bool (A_ sp t)):=⟨t.yes,t.j,t.s,t.t,sp,h.1,⟨h.2.1.1,by rw [hsp];exact h.2.1.2⟩,⟨h.2.2.1,by rw [hsp];exact h.2.2.2⟩,rfl,rfl⟩
abbrev frW (ww:WW) (sp:List Int) (x7 x8:Option PyData):Gam:=[none,some ww.D,some (.list (sp.map PyData.int)),some (.int ww.dn),some (.tuple (ww.bs.map rcD)),some (.tuple [trD ww.t1,trD ww.t2]),some (rcD ww.pl),x7,x8]
theorem QC {X:Cx} {L:List Addr} {I I1:Hp→Prop} {rs:List (Nat×Addr)} {G G1 G2:Gam} {st:Stmt} (h:PS X st (zN X.K L I rs G G1 I1)) (e:G1=G2):PS X st (zN X.K L I rs G G2 I1):=e ▸ h
theorem J4 (T:TxtP K mg w.params) {C:Addr} (CM:ClsM K mg C) (D_rw:DFn P w K mg base 1 "recipe_worth" Cs) (D_tw:DFn P w K mg base 2 "truth_worth" Of) (D_put:YFn P w K mg base 1 C "put" Ll) {f:Addr} {fd:FuncData} (F:Fun K "lead_back" "lead_back" Dp f fd) (hm:mg "lead_back"=some (.ref f)):YDFn P w K mg base 3 C "lead_back" MW:=by
 refine ydOk (fun a b=>F.ok sc_lead_back a b) hm F.kp (F.binds fun _ _ _ _ _ _ us hl=>match us,hl with | [_,_,_],_=>rfl) (fun lf df ds d lf' df' ⟨_,_,_,_,_,_,_,e,_⟩=>by rw [e];rfl) fun cdv A outer s H E R lf df ds d lf' df' hr hC ⟨S,ww,sp,okw,hsp,e1,e2,e3,e4,e5,e6⟩=>?_
 subst hC e1 e2 e3 e4 e5 e6
 have h0:((0:Nat),R.a)∈[(0,R.a)]:=List.mem_cons_self
 have ni:∀i:Nat,i≠0→i∉[((0:Nat),R.a)].map (·.1):=fun i a1=>by show i∉[0];simp [a1]
 refine AK (G1:=frW ww sp none none) (OJ (is:=[3,4,5,6]) (ds:=[.int ww.dn,.tuple (ww.bs.map rcD),.tuple [trD ww.t1,trD ww.t2],rcD ww.pl]) (BG (pv 1) rfl) (BK rfl (Az (Av (i:=3) sc_lead_back.nd rfl (by first | exact Or.inl rfl | exact Or.inr rfl)) (Az (Av (i:=4) sc_lead_back.nd rfl (by first | exact Or.inl rfl | exact Or.inr rfl)) (Az (Av (i:=5) sc_lead_back.nd rfl (by first | exact Or.inl rfl | exact Or.inr rfl)) (Az (Av (i:=6) sc_lead_back.nd rfl (by first | exact Or.inl rfl | exact Or.inr rfl)) Bu))))) rfl (fun q hq=>by rw [List.mem_singleton.mp hq];show 0∉[3,4,5,6];decide)) ?_
 refine AK (G1:=frW ww sp (some (.list ((ww.bs.map (Bz sp)).map PyData.int))) none) (QC (Kx (i:=7) (ix:=[2]) (N:=["recipe","spots"]) (B:=bind1) (as:=ww.bs) (D:=rcD) PY (ni 7 (by decide)) (fun _=>true) (fun r=>PyData.int (Bz sp r)) rfl sc_lead_back.nd rfl rfl (of_decide_eq_true (by kernel_rfl)) (AI (by decide)) (BW (evv 4)) (by rw [okw.bl,sizeLine_eq];decide) (fun _ _=>BF _) (fun _ _ _ _ _=>Av (i:=0) (show List.Nodup (["recipe","spots"]:List Str) by decide +kernel) rfl (Or.inl rfl)) (fun a ha cl C s H fp=>BU) ?el1) ?eq1) ?_
 case el1=>
  intro r hr1 hP cl C s H fp
  exact An D_rw (by walk_at "rm") rfl (Aa (evv 0) (Aa (evv 1) Ad)) (Gc (okw.b r hr1) hsp)
 case eq1=>rw [AA];show frW ww sp (some (.list (ww.bs.map fun r=>PyData.int (Bz sp r)))) none=_;rw [List.map_map];rfl
 refine AK (G1:=frW ww sp (some (.list ((ww.bs.map (Bz sp)).map PyData.int))) (some (.tuple [.bool (A_ sp ww.t1),.bool (A_ sp ww.t2)]))) (Bs (i:=8) (d:=.tuple [.bool (A_ sp ww.t1),.bool (A_ sp ww.t2)]) sc_lead_back.nd rfl (ni 8 (by decide)) (Or.inl rfl) (Dq (A8 "tuple" (Aa (Bi (ix:=[2]) (N:=["recipe","spots"]) (B:=bind1) (as:=[ww.t1,ww.t2]) (D:=trD) (fun _=>true) (fun t=>PyData.bool (A_ sp t)) rfl (of_decide_eq_true (by kernel_rfl)) (AI (by decide)) (BW (evv 5)) (by rw [sizeLine_eq];show 2≤16777216;decide) (fun _ _=>BF _) (fun _ _ _ _ _=>Av (i:=0) (show List.Nodup (["recipe","spots"]:List Str) by decide +kernel) rfl (Or.inl rfl)) (fun a ha cl C s H fp=>BU) ?el2) Ad) CN rfl T.b_tuple (by decide +kernel)))) ?_
 case el2=>
  intro t ht hP cl C s H fp
  refine An D_tw (by walk_at "rm") rfl (Aa (evv 0) (Aa (evv 1) Ad)) (Ii ?_ hsp)
  simp only [List.mem_cons,List.not_mem_nil,or_false] at ht
  rcases ht with rfl | rfl
  ·exact okw.t1
  ·exact okw.t2
 refine Cb (β:=OR) (Lo:=fun R'=>R'.L) (Io:=fun R'=>MZ K R' (BH S ww sp)) (ro:=fun _=>[(0,R.a)]) (Go:=fun _=>frW ww sp (some (.list ((ww.bs.map (Bz sp)).map PyData.int))) (some (.tuple [.bool (A_ sp ww.t1),.bool (A_ sp ww.t2)]))) (fun R'=>R'.C=R.C∧R'.a=R.a) (Sd (LB (F:=Ll) (ds:=[.list ((ww.bs.map (Bz sp)).map PyData.int),.tuple [.bool (A_ sp ww.t1),.bool (A_ sp ww.t2)],.int (Bz sp ww.pl),.int ww.dn]) CM.cl D_put (by walk_at "rm") (pv 0) (fun R' _=>Bc (BG (pv 7) rfl) (Bc (BG (pv 8) rfl) (Bc (Dh oz_ok (An D_rw (by walk_at "rm") rfl (Aa (evv 6) (Aa (evv 2) Ad)) (Gc okw.p hsp)) rfl) (Bc (BG (pv 3) rfl) Eu)))) ⟨S,ww.bs.map (Bz sp),_,_,_,_,rfl,rfl,rfl,rfl,rfl⟩)) fun R' ⟨eC,eR⟩=>?_
 exact Fb (BG (pv 3) rfl) fun v H' i' dv=>⟨R',⟨eC,eR⟩,rfl,i',dv⟩
theorem RI {X:Cx} {L:List Addr} {R:OR} {p:Addr} {S:MS} {x:RD} {r:RR} {n k i0 i1 i2:Nat} {rs:List (Nat×Addr)} {G:Gam} {x0 x1 x2:Str} {q0 q1 q2 p1 pos:Pos} (hL:L=LZ (its2 X.K R p (mOf S x) x.sp)) (D:DoFn X.prog X.w X.K X.mg X.base k R.C) (hr:Room k X.A) (hg:Gl X "do_row") (h0:(i0,R.a)∈rs) (h2:(i2,p)∈rs) (hv0:PE X (.Name x0 q0) (tVar i0)) (hv1:PE X (.Name x1 q1) (tVar i1)) (hv2:PE X (.Name x2 q2) (tVar i2)) (hG:G[i1]?=some (some r.D)) (okx:RDok S.pg n x) (n9:n < 90000) (okr:r.ok) (hw:whyR S.pg x.sp r="")
  (he1:starEach [.Name x0 q0,.Name x1 q1,.Name x2 q2] X.env=(false,eval (.Name x0 q0) X.env)::starEach [.Name x1 q1,.Name x2 q2] X.env:=by rfl) (he2:starEach [.Name x1 q1,.Name x2 q2] X.env=(false,eval (.Name x1 q1) X.env)::starEach [.Name x2 q2] X.env:=by rfl) (he3:starEach [.Name x2 q2] X.env=(false,eval (.Name x2 q2) X.env)::starEach [] X.env:=by rfl) (hpl:(backTo pos (starEach [.Name x1 q1,.Name x2 q2] X.env)).any (·.1)=false:=by rfl):
  ZE X L (TZ (its2 X.K R p (mOf S x) x.sp)) rs G (.Call (.Name "do_row" p1) [.Name x0 q0,.Name x1 q1,.Name x2 q2] [] pos) (D_ (doR x r).late) (TZ (its2 X.K R p (mOf S (doR x r)) (doR x r).sp)):=by
 subst hL
 obtain ⟨fa,fd,ps,ok,hm,hk,hb⟩:=D
 refine (DW (E:=E0) (dvs:=[]) (ds:=[]) ok hr hg hm hk hb .nil CK (BD hv0 (BD hv1 (BD hv2 pa_nil he3) he2) he1) (by decide) he1 hpl).imp fun σ H Q ⟨rz,q⟩=>?_
 obtain ⟨v,ev,dv⟩:=rz.2.2.2 i1 _ hG
 refine ⟨.ref R.a,rz.1 _ h0,v,ev,.ref p,rz.1 _ h2,?_⟩
 exact ⟨R,p,S,x,r,n,v,rfl,rfl,okx,n9,okr,hw,rz.2.1,dv,fun v' H' t' s' dv'=>q v' H' t' s' dv'⟩
abbrev pcD (CP:Addr) (st:Int) (tx:List (Int×Int)) (rows ways:List PyData):PyData:=objD CP (fldD [] (dfP st tx rows ways))
noncomputable def outR (S:MS) (tx:List (Int×Int)) (ways:List PyData) (last:Option Int) (rows:List RR):OutR:=Dk S.pg tx ways last rows 0 ⟨AS S,S.mem,S.told,S.sto,none⟩
structure RideOk (S:MS) (tx:List (Int×Int)) (ways:List PyData) (rows:List RR):Prop where
 ms:MsOk S
 t0:S.told=[]
 s0:S.sto=[]
 tl:tx.length≤100
 rok:∀r∈rows,r.ok
 rl:rows.length≤60
 wok:∀d∈ways,WayOk d
 wl:ways.length=rows.length + 1
def K0 (CP:Addr) (lf:LF) (df:DF) (ds:List PyData) (d:PyData) (lf':LF) (df':DF):Prop:=∃(S:MS) (st:Int) (tx:List (Int×Int)) (ways:List PyData) (rows:List RR) (last:Option Int) (ww:WW),RideOk S tx ways rows∧lf=lfM S∧df=dfM S∧ds=[pcD CP st tx (rows.map RR.D) ways,AQ last]∧(outR S tx ways last rows).way=ww.D∧ww.ok∧d=.tuple [.int (outR S tx ways last rows).k,.int ww.dn,.str (outR S tx ways last rows).why]∧lf'=lfM (BH (mOf S (outR S tx ways last rows).x) ww (outR S tx ways last rows).x.sp)∧df'=dfM (BH (mOf S (outR S tx ways last rows).x) ww (outR S tx ways last rows).x.sp)
theorem Iq (pg:List (Bool×Bool×Bool)) (last:Option Int) (k:Nat) (sp:List Int) (r:RR):PyData.canLay0 (.str (whyL pg last k sp r))=true:=by
 unfold whyL
 split
 ·decide +kernel
 ·cases r with
  | load r s n=>show PyData.canLay0 (.str (if _ then _ else _))=true;split <;> decide +kernel
  | store s n t=>show PyData.canLay0 (.str (if _ then _ else _))=true;split <;> decide +kernel
  | test j s t g way=>show PyData.canLay0 (.str (if _ then _ else _))=true;split <;> decide +kernel
  | set _ _=>show PyData.canLay0 (.str "")=true;decide +kernel
  | copy _ _=>show PyData.canLay0 (.str "")=true;decide +kernel
  | cut _ _=>show PyData.canLay0 (.str "")=true;decide +kernel
  | ari _ _ _ _=>show PyData.canLay0 (.str "")=true;decide +kernel
  | addn _ _ _=>show PyData.canLay0 (.str "")=true;decide +kernel
  | out _=>show PyData.canLay0 (.str "")=true;decide +kernel
theorem G6 {pg:List (Bool×Bool×Bool)} {last:Option Int} {k:Nat} {sp:List Int} {r:RR} (h:whyL pg last k sp r="test"):∃j s t g way,r=.test j s t g way:=by
 unfold whyL at h
 split at h
 ·exact absurd h (by decide)
 ·cases r with
  | load r s n=>exfalso;unfold whyR at h;dsimp only at h;split at h <;> exact absurd h (by decide)
  | store s n t=>exfalso;unfold whyR at h;dsimp only at h;split at h <;> exact absurd h (by decide)
  | test j s t g way=>exact ⟨j,s,t,g,way,rfl⟩
  | set _ _=>exact absurd (show ("":Str)="test" from h) (by decide)
  | copy _ _=>exact absurd (show ("":Str)="test" from h) (by decide)
  | cut _ _=>exact absurd (show ("":Str)="test" from h) (by decide)
  | ari _ _ _ _=>exact absurd (show ("":Str)="test" from h) (by decide)
  | addn _ _ _=>exact absurd (show ("":Str)="test" from h) (by decide)
  | out _=>exact absurd (show ("":Str)="test" from h) (by decide)
theorem Ji {pg:List (Bool×Bool×Bool)} {last:Option Int} {k:Nat} {sp:List Int} {r:RR} (h:whyL pg last k sp r=""):last≠some (k:Int)∧whyR pg sp r="":=by
 unfold whyL at h
 split at h
 ·exact absurd h (by decide)
 ·rename_i hn;exact ⟨hn,h⟩
theorem Er {ways:List PyData} {k:Nat} (h:k < ways.length):atI ways (k:Int)=some (atW ways k)∧atW ways k∈ways:=by
 unfold atW
 rw [List.getD_eq_getElem?_getD,List.getElem?_eq_getElem h]
 exact ⟨Aj (Int.natCast_nonneg k) (by rw [Int.toNat_natCast,List.getElem?_eq_getElem h];rfl),List.getElem_mem h⟩
theorem L6 {ways:List PyData} {n:Nat} (h:ways.length=n + 1):atI ways (-1)=some (atW ways n):=by
 have e:ixN ways.length (-1)=some n:=by
  unfold ixN
  rw [if_neg (by decide),if_pos (by omega)]
  congr 1
  omega
 unfold atI atW
 rw [e,List.getD_eq_getElem?_getD,List.getElem?_eq_getElem (by omega:n < ways.length)]
 show ways[n]?=_
 rw [List.getElem?_eq_getElem (by omega:n < ways.length)]
 rfl
theorem Pk {pg:List (Bool×Bool×Bool)} {last:Option Int} {k:Nat} {sp:List Int} {r:RR} {w:PyData} (ok:r.ok) (hw:WayOk w):WayOk (wayT (whyL pg last k sp r) r w):=by
 unfold wayT
 split
 ·rename_i h
  obtain ⟨j,s,t,g,way,rfl⟩:=G6 h
  exact ok.2
 ·exact hw
theorem KR {pg:List (Bool×Bool×Bool)} {tx:List (Int×Int)} {ways:List PyData} {last:Option Int} (hwy:∀d∈ways,WayOk d):∀(rows:List RR) (k:Nat) (x:RD),(∀r∈rows,r.ok)→RDok pg k x→ways.length=k + rows.length + 1→WayOk (Dk pg tx ways last rows k x).way∧PyData.canLay0 (.str (Dk pg tx ways last rows k x).why)=true∧∃m,m≤k + rows.length∧RDok pg m (Dk pg tx ways last rows k x).x
 | [],k,x,_,hx,hl=>⟨hwy _ (Er (by rw [hl];exact Nat.lt_succ_of_le (Nat.le_add_right _ _))).2,by show PyData.canLay0 (.str "end")=true;decide +kernel,k,Nat.le_refl _,hx⟩
 | r::rs,k,x,hr,hx,hl=>by
   have hl':ways.length=(k + 1) + rs.length + 1:=by rw [hl,List.length_cons];omega
   have ok:=hr r List.mem_cons_self
   unfold Dk
   split
   ·split
    ·exact ⟨hwy _ (Er (by omega)).2,by show PyData.canLay0 (.str "text")=true;decide +kernel,k + 1,by rw [List.length_cons];omega,EE hx ok⟩
    ·obtain ⟨h1,h2,m,h3,h4⟩:=KR hwy rs (k + 1) (AR x r) (fun r h=>hr r (List.mem_cons_of_mem _ h)) (EE hx ok) hl'
     exact ⟨h1,h2,m,by rw [List.length_cons];omega,h4⟩
   ·exact ⟨Pk ok (hwy _ (Er (by omega)).2),Iq _ _ _ _ _,k,Nat.le_add_right _ _,hx⟩
theorem RideOk.x0 {S:MS} {tx:List (Int×Int)} {ways:List PyData} {rows:List RR} (h:RideOk S tx ways rows):RDok S.pg 0 ⟨AS S,S.mem,S.told,S.sto,none⟩:=⟨Mu h.ms,h.ms.ml,h.ms.mw,by show S.told.length≤0;rw [h.t0];exact Nat.le_refl _,by show S.sto.length≤0;rw [h.s0];exact Nat.le_refl _,fun q e=>by cases e⟩
theorem JB (l:Option Int):PyData.canLay0 (AQ l)=true:=by cases l <;> rfl
theorem JG (k:Nat) (l:Option Int):PyData.eqv (.int (k:Int)) (AQ l)=decide (l=some (k:Int)):=by
 cases l with
 | none=>show PyData.eqv (.int (k:Int)) .none=_;rw [decide_eq_false (by intro h;cases h)];simp [PyData.eqv]
 | some i=>
   show PyData.eqv (.int (k:Int)) (.int i)=_
   rw [ED]
   by_cases h:(k:Int)=i
   ·rw [decide_eq_true h,decide_eq_true (by rw [h])]
   ·rw [decide_eq_false h,decide_eq_false fun e=>h (Option.some.inj e).symm]
theorem Kc {rows:List RR} (h:∀r∈rows,r.ok):noLs (rows.map RR.D)=true:=Ck fun d hd=>by
 obtain ⟨r,hr,rfl⟩:=List.mem_map.mp hd
 have ok:=h r hr
 cases r with
 | test j s t g way=>show (true && (true && (true && (true && (true && (noL way && true))))))=true;rw [ok.2.noL];rfl
 | set _ _=>rfl
 | copy _ _=>rfl
 | cut _ _=>rfl
 | ari _ _ _ _=>rfl
 | addn _ _ _=>rfl
 | load _ _ _=>rfl
 | store _ _ _=>rfl
 | out _=>rfl
theorem drop_cons {α:Type} {l:List α} {k:Nat} {a:α} (h:l[k]?=some a):l.drop k=a::l.drop (k + 1):=by
 obtain ⟨hk,e⟩:=List.getElem?_eq_some_iff.mp h
 rw [←e]
 exact (List.drop_eq_getElem_cons hk)
abbrev frR (pc:PyData) (last:Option Int) (pg:List (Bool×Bool×Bool)) (x4:Option PyData) (late:Option (Int×Int)) (a6 a7 a8 a9 a10 a11:Option PyData):Gam:=[none,some pc,some (AQ last),some (.list (pg.map A6)),x4,some (D_ late),a6,a7,a8,a9,a10,a11]
theorem O9 (T:TxtP K mg w.params) {C:Addr} (CM:ClsM K mg C) {CP:Addr} (CQ:ClsP K mg CP) (FM_pages:FMFn P w K mg base 1 C "pages" (fun ds ws=>∃S:MS,ds=[mcD C S]∧ws=S.pg.map A6)) (D_fsp:FFn P w K mg base 2 "first_spots" (Qc C)) (D_why:DFn P w K mg base 4 "why_left" LM) (D_into:DFn P w K mg base 2 "is_into" MV) (D_do:DoFn P w K mg base 3 C) (D_lead:YDFn P w K mg base 3 C "lead_back" MW) {f:Addr} {fd:FuncData} (F:FunD K #[.none] "ridden" "ridden" GU f fd) (hm:mg "ridden"=some (.ref f)):YDFn P w K mg base 5 C "ridden" (K0 CP):=by
 refine ydOk (fun a b=>F.ok sc_ridden a b) hm F.kp (F.binds fun _ _ _ _ _ _ _ us hl=>match us,hl with | [_,_,_],_=>⟨_,rfl,rfl⟩) (fun lf df ds d lf' df' ⟨_,_,_,_,_,_,_,_,_,_,e,_⟩=>by rw [e];rfl) fun cdv A outer s H E R lf df ds d lf' df' hr hC ⟨S,st,tx,ways,rows,last,ww,ok,e1,e2,e3,hway,okw,e4,e5,e6⟩=>?_
 subst hC e1 e2 e3 e4 e5 e6
 obtain ⟨out,eo⟩:∃out,out=outR S tx ways last rows:=⟨_,rfl⟩
 rw [←eo] at hway ⊢
 have hrl:=ok.rl
 have hwl:=ok.wl
 have nrows:=Kc ok.rok
 have m0:((0:Nat),R.a)∈[(0,R.a)]:=List.mem_cons_self
 refine AK (G1:=[none,some (pcD CP st tx (rows.map RR.D) ways),some (AQ last),some (.list (S.pg.map A6)),none,none,none,none,none,none,none,none]) (Bs (i:=3) (d:=.list (S.pg.map A6)) sc_ridden.nd rfl (by show 3∉[0];decide) (Or.inl rfl) (NM m0 (Ki CM.cl FM_pages (by walk_at "rm") (evv 0) ⟨S,rfl,rfl⟩) (Ck fun d hd=>by obtain ⟨q,_,rfl⟩:=List.mem_map.mp hd;rfl))) ?_
 refine Rl (it:=(R.L,MZ K R S)) ?_
 refine Cb (Lo:=fun p=>LZ (its2 K R p S (AS S))) (Io:=fun p=>TZ (its2 K R p S (AS S))) (ro:=fun p=>[(4,p),(0,R.a)]) (Go:=fun _=>[none,some (pcD CP st tx (rows.map RR.D) ways),some (AQ last),some (.list (S.pg.map A6)),none,none,none,none,none,none,none,none]) (fun _=>True) (EJ (its:=[(R.L,MZ K R S)]) (ws:=(AS S).map PyData.int) (j:=4) (A1 Bj AE) sc_ridden.nd rfl (by show 4∉[0];decide) (Or.inl rfl) rfl (Cq m0 fun H t=>(tz_one.mp t).dv) (Ob D_fsp (by walk_at "rm") rfl (Aa (evv 0) Ad) ⟨S,ok.ms,rfl,rfl⟩) (BQ _)) fun p _=>?_
 obtain ⟨L,eL⟩:∃L,L=LZ (its2 K R p S (AS S)):=⟨_,rfl⟩
 have hL:∀(S:MS) (sp:List Int),L=LZ (its2 K R p S sp):=fun S sp=>by rw [eL];rfl
 rw [←eL]
 have h4:((4:Nat),p)∈[(4,p),(0,R.a)]:=List.mem_cons_self
 have h0:((0:Nat),R.a)∈[(4,p),(0,R.a)]:=List.mem_cons_of_mem _ List.mem_cons_self
 have ni:∀i:Nat,i≠0→i≠4→i∉[((4:Nat),p),(0,R.a)].map (·.1):=fun i a1 a2=>by show i∉[4,0];simp [a1,a2]
 have ok2:∀(S:MS) (sp:List Int),ZOk L (TZ (its2 K R p S sp)):=fun S sp=>by rw [hL S sp];exact gds2.ok
 have see:∀(S:MS) (sp:List Int) (G:Gam),Sees K L (TZ (its2 K R p S sp)) [(4,p),(0,R.a)] G (G.set 4 (some (.list (sp.map PyData.int)))):=fun S sp G=>Cq h4 fun H t=>(tz_two.mp t).2.2.dv
 refine AK (G1:=frR (pcD CP st tx (rows.map RR.D) ways) last S.pg none none none none none none none none) (Bs (i:=5) (d:=.none) sc_ridden.nd rfl (ni 5 (by decide) (by decide)) (Or.inl rfl) (Dh (ok2 _ _) Fx rfl)) ?_
 have hx0:=ok.x0
 refine Og (Iv:=fun x:RD=>TZ (its2 K R p (mOf S x) x.sp)) (T:=⟨AS S,S.mem,S.told,S.sto,none⟩) (fun k G x=>RDok S.pg k x∧Dk S.pg tx ways last (rows.drop k) k x=out∧∃a6 a7 a8 a9 a10 a11,G=frR (pcD CP st tx (rows.map RR.D) ways) last S.pg none x.late a6 a7 a8 a9 a10 a11) (fun x=>ok2 _ _) PassesOwn.never rfl (j1:=6) (j2:=7) ?nj (BK rfl (Az (Av (i:=6) sc_ridden.nd rfl (by first | exact Or.inl rfl | exact Or.inr rfl)) (Az (Av (i:=7) sc_ridden.nd rfl (by first | exact Or.inl rfl | exact Or.inr rfl)) Bu))) Bl (Bh CQ.cl CQ.n3 (evv 1) (List.mem_of_getElem? (i:=2) rfl)) nrows rfl T.b_enumerate ⟨hx0,by rw [List.drop_zero,eo];rfl,_,_,_,_,_,_,rfl⟩ ?body ?done
 case nj=>
  intro q hq
  rcases List.mem_cons.mp hq with rfl | hq
  ·show 4∉[6,7];decide
  ·rw [List.mem_singleton.mp hq];show 0∉[6,7];decide
 case done=>
  rintro G x ⟨okx,ho,a6,a7,a8,a9,a10,a11,rfl⟩
  rw [List.length_map] at okx ho
  rw [List.drop_length] at ho
  subst ho
  have oksp:=okx.sp.1
  refine Gj (A:=[(R.L,MZ K R (mOf S x))]) (B:=[]) (it:=([p],Kz K p ((x).sp.map PyData.int))) (i:=4) (ad:=p) (d:=.list ((x).sp.map PyData.int)) (rs1:=[(0,R.a)]) (hL (mOf S x) (x).sp) gds2 h4 (fun q hq=>by rw [List.mem_singleton.mp hq];exact h0) (fun H i=>i.dv) ?_
  show PSs _ _ (zV K (LZ ([]++(R.L,MZ K R (mOf S x))::[])) (TZ ([]++(R.L,MZ K R (mOf S x))::[])) _ _ _ _)
  refine GH (A:=[]) (B:=[]) (d:=.int ww.dn) (lf':=lfM (BH (mOf S x) ww (x).sp)) (df':=dfM (BH (mOf S x) ww (x).sp)) (A1 Bj AE) (fun R'=>A1 (Bj (S:=BH (mOf S x) ww (x).sp)) AE) (Ap (At "len" (Aa (Bh CQ.cl CQ.n3 (evv 1) (List.mem_of_getElem? (i:=2) rfl)) Ad) Gn rfl T.b_len (by decide +kernel)) (by rw [List.length_map])) rfl (Dm (A:=[]) (B:=[]) (A1 Bj AE) (fun R'=>A1 (Bj (S:=BH (mOf S x) ww (x).sp)) AE) D_lead (by walk_at "rm") rfl m0 (pv 0) (Bc (Dh (A1 (Bj (S:=mOf S x)) AE:Gds [(R.L,MZ K R (mOf S x))]).ok (Ap (Aq (Bh CQ.cl CQ.n4 (evv 1) (List.mem_of_getElem? (i:=3) rfl)) (GZ Ab) (L6 hwl)) hway) ww.noL) (Bc (BG (pv 4) rfl) Eu)) ⟨mOf S x,ww,(x).sp,okw,oksp,rfl,rfl,rfl,rfl,rfl,rfl⟩ rfl) Ah rfl fun v R' H' hC ha t dv=>⟨R'.L,⟨R',⟨hC,ha⟩,rfl,tz_one.mp t,?_⟩,?_⟩
  ·rw [List.nil_append,Eg] at dv;exact dv
  ·rw [List.nil_append,Eg];exact Same.refl _
 case body=>
  rintro k d G x hd ⟨okx,ho,a6,a7,a8,a9,a10,a11,rfl⟩
  obtain ⟨r,hr1,rfl⟩:∃r,rows[k]?=some r∧d=r.D:=by
   rw [List.getElem?_map] at hd
   cases e:rows[k]? with
   | none=>rw [e] at hd;cases hd
   | some r=>rw [e] at hd;exact ⟨r,rfl,(Option.some.inj hd).symm⟩
  have hk:k < rows.length:=(List.getElem?_eq_some_iff.mp hr1).1
  have okr:=ok.rok r (List.mem_of_getElem? hr1)
  rw [drop_cons hr1] at ho
  have hlay:=Iq S.pg last k x.sp r
  have oksp:=okx.sp.1
  refine AK (G1:=frR (pcD CP st tx (rows.map RR.D) ways) last S.pg none x.late (some (.int k)) (some r.D) (some (.str (whyL S.pg last k x.sp r))) a9 a10 a11) (Bs (i:=8) (d:=.str (whyL S.pg last k x.sp r)) sc_ridden.nd rfl (ni 8 (by decide) (by decide)) (Or.inl rfl) (Gy (ok2 _ _) (see _ _ _) (Gx (k:=decide (last=some (k:Int))) (Al (evv 6) (evv 2) (BL (by walk_at "un") rfl (JB last) (Nat.le_trans (Nat.min_le_left _ _) (by simp [PyData.depth])) (JG k last)) (Ak _)) (fun h=>Ap Ah (by unfold whyL;rw [if_pos (of_decide_eq_true h)])) (fun h=>Ap (An D_why (by walk_at "rm") rfl (Aa (evv 3) (Aa (evv 7) (Aa (evv 4) Ad))) ⟨S.pg,r,x.sp,okr,okx.sp,ok.ms.p8,rfl,rfl⟩) (by unfold whyL;rw [if_neg (of_decide_eq_false h)]))) rfl)) ?_
  by_cases hwhy:(whyL S.pg last k x.sp r)=""
  ·unfold Dk at ho
   rw [if_pos hwhy] at ho
   refine C_ (AN (ok2 _ _) (Al (evv 8) Ah (BI (by walk_at "un") hlay (by decide +kernel) (by walk_at "dp") (by rw [FF,decide_eq_true hwhy];rfl)) (Ak _))) ?_
   refine AK (G1:=frR (pcD CP st tx (rows.map RR.D) ways) last S.pg none x.late (some (.int k)) (some r.D) (some (.str (whyL S.pg last k x.sp r))) a9 (some (D_ x.late)) a11) (Bs (i:=10) (d:=D_ x.late) sc_ridden.nd rfl (ni 10 (by decide) (by decide)) (Or.inl rfl) (BG (pv 5) rfl)) ?_
   refine AK (G1:=frR (pcD CP st tx (rows.map RR.D) ways) last S.pg none x.late (some (.int k)) (some r.D) (some (.str (whyL S.pg last k x.sp r))) a9 (some (D_ x.late)) (some (.bool (Do tx x.sp r)))) (Bs (i:=11) (d:=.bool (Do tx x.sp r)) sc_ridden.nd rfl (ni 11 (by decide) (by decide)) (Or.inl rfl) (Gy (ok2 _ _) (see _ _ _) (An D_into (by walk_at "rm") rfl (Aa (Bh CQ.cl CQ.n2 (evv 1) (List.mem_of_getElem? (i:=1) rfl)) (Aa (evv 7) (Aa (evv 4) Ad))) ⟨tx,r,x.sp,okr,okx.sp,ok.tl,rfl,rfl⟩) rfl)) ?_
   refine AK (G1:=frR (pcD CP st tx (rows.map RR.D) ways) last S.pg none (doR x r).late (some (.int k)) (some r.D) (some (.str (whyL S.pg last k x.sp r))) a9 (some (D_ x.late)) (some (.bool (Do tx x.sp r)))) (I1:=TZ (its2 K R p (mOf S (doR x r)) (doR x r).sp)) (Bs (i:=5) (d:=D_ (doR x r).late) sc_ridden.nd rfl (ni 5 (by decide) (by decide)) (Or.inl rfl) (RI (hL (mOf S x) x.sp) D_do (by walk_at "rm") rfl h0 h4 (pv 0) (pv 7) (pv 4) rfl okx (by omega) okr (Ji hwhy).2)) ?_
   have okx1:=EE okx okr
   have oksp:=okx1.sp.1
   refine AK (G1:=frR (pcD CP st tx (rows.map RR.D) ways) last S.pg none (doR x r).late (some (.int k)) (some r.D) (some (.str (whyL S.pg last k x.sp r))) a9 (some (D_ x.late)) (some (.bool (Do tx x.sp r)))) (I1:=TZ (its2 K R p (mOf S (AR x r)) (AR x r).sp)) ?put ?_
   case put=>
    have okd:=KP okx okr
    cases e:x.late with
    | none=>
      have es:(AR x r).sp=(doR x r).sp:=by show HU x.late _=_;rw [e];rfl
      rw [es]
      exact AU (k:=false) (AN (ok2 _ _) (L9 (evv 10) rfl)) (fun h=>by cases h) (fun _=>AL)
    | some q=>
      have es:(AR x r).sp=(doR x r).sp.set q.1.toNat q.2:=by show HU x.late _=_;rw [e];rfl
      have hq:=okx.late q e
      rw [es]
      refine AU (k:=true) (AN (ok2 _ _) (L9 (evv 10) rfl)) (fun _=>?_) (fun h=>by cases h)
      refine A9 (CL (Gq (A:=[(R.L,MZ K R (mOf S (doR x r)))]) (B:=[]) (S:=(doR x r).sp.map PyData.int) (d:=.int q.2) (z:=q.1) (hL _ _) gds2 h4 (pv 4) Bl (Aq (ds:=[.int q.1,.int q.2]) (evv 10) Ab (Aj (by decide) rfl)) rfl (Aq (ds:=[.int q.1,.int q.2]) (evv 10) Ab (Aj (by decide) rfl)) hq.1.1 (by rw [List.length_map,okd.sp.1];exact hq.1.2)) ?_) AL
      rw [Cp]
      rfl
   by_cases hin:Do tx x.sp r=true
   ·rw [if_pos hin] at ho
    subst ho
    have hwk:=Er (ways:=ways) (k:=k + 1) (by omega)
    refine GX (AN (ok2 _ _) (As (AB (evv 11)) hin)) ?_
    refine Gj (A:=[(R.L,MZ K R (mOf S (AR x r)))]) (B:=[]) (it:=([p],Kz K p (((AR x r)).sp.map PyData.int))) (i:=4) (ad:=p) (d:=.list (((AR x r)).sp.map PyData.int)) (rs1:=[(0,R.a)]) (hL (mOf S (AR x r)) ((AR x r)).sp) gds2 h4 (fun q hq=>by rw [List.mem_singleton.mp hq];exact h0) (fun H i=>i.dv) ?_
    show PSs _ _ (zV K (LZ ([]++(R.L,MZ K R (mOf S (AR x r)))::[])) (TZ ([]++(R.L,MZ K R (mOf S (AR x r)))::[])) _ _ _ _)
    refine GH (A:=[]) (B:=[]) (d:=.int ww.dn) (lf':=lfM (BH (mOf S (AR x r)) ww ((AR x r)).sp)) (df':=dfM (BH (mOf S (AR x r)) ww ((AR x r)).sp)) (A1 Bj AE) (fun R'=>A1 (Bj (S:=BH (mOf S (AR x r)) ww ((AR x r)).sp)) AE) (evv 6) rfl (Dm (A:=[]) (B:=[]) (A1 Bj AE) (fun R'=>A1 (Bj (S:=BH (mOf S (AR x r)) ww ((AR x r)).sp)) AE) D_lead (by walk_at "rm") rfl m0 (pv 0) (Bc (Dh (A1 (Bj (S:=mOf S (AR x r))) AE:Gds [(R.L,MZ K R (mOf S (AR x r)))]).ok (Ap (Aq (Bh CQ.cl CQ.n4 (evv 1) (List.mem_of_getElem? (i:=3) rfl)) (Ap (Ae (evv 6) Ab Bk) (show _=PyData.int ((k + 1:Nat):Int) from rfl)) hwk.1) hway) ww.noL) (Bc (BG (pv 4) rfl) Eu)) ⟨mOf S (AR x r),ww,((AR x r)).sp,okw,oksp,rfl,rfl,rfl,rfl,rfl,rfl⟩ rfl) Ah rfl fun v R' H' hC ha t dv=>⟨R'.L,⟨R',⟨hC,ha⟩,rfl,tz_one.mp t,?_⟩,?_⟩
    ·rw [List.nil_append,Eg] at dv;exact dv
    ·rw [List.nil_append,Eg];exact Same.refl _
   ·rw [if_neg hin] at ho
    have hin:Do tx x.sp r=false:=by simpa using hin
    refine C_ (AN (ok2 _ _) (As (AB (evv 11)) hin)) ?_
    exact Nj fun σ H rz=>⟨rfl,_,AR x r,⟨okx1,ho,_,_,_,_,_,_,rfl⟩,rz⟩
  ·unfold Dk at ho
   rw [if_neg hwhy] at ho
   subst ho
   have hwk:=Er (ways:=ways) (k:=k) (by omega)
   have hway:wayT (whyL S.pg last k x.sp r) r (atW ways k)=ww.D:=hway
   refine GX (AN (ok2 _ _) (Al (evv 8) Ah (BI (by walk_at "un") hlay (by decide +kernel) (by walk_at "dp") (by rw [FF,decide_eq_false hwhy];rfl)) (Ak _))) ?_
   refine AK (G1:=frR (pcD CP st tx (rows.map RR.D) ways) last S.pg none x.late (some (.int k)) (some r.D) (some (.str (whyL S.pg last k x.sp r))) (some ww.D) a10 a11) (Bs (i:=9) (d:=ww.D) sc_ridden.nd rfl (ni 9 (by decide) (by decide)) (Or.inl rfl) (Dh (ok2 _ _) (Gx (k:=decide ((whyL S.pg last k x.sp r)="test")) (Cd (by walk_at "un") (evv 8) hlay (by decide +kernel) rfl) (fun h=>?wt) (fun h=>Ap (Aq (Bh CQ.cl CQ.n4 (evv 1) (List.mem_of_getElem? (i:=3) rfl)) (evv 6) hwk.1) ?wf)) ww.noL)) ?_
   case wt=>
    have h:=of_decide_eq_true h
    obtain ⟨j,s1,t1,g1,way1,er⟩:=G6 h
    rw [h,er] at hway
    have hway:way1=ww.D:=hway
    exact Aq (ds:=[.str "test",.str (kindS j),.int s1,.int t1,.bool g1,way1]) (K5 7 (by rw [er];rfl) (pv 7)) Ab (Aj (by decide) (by rw [hway];rfl))
   case wf=>
    have h:=of_decide_eq_false h
    rw [←hway]
    unfold wayT
    rw [if_neg h]
   refine Gj (A:=[(R.L,MZ K R (mOf S x))]) (B:=[]) (it:=([p],Kz K p ((x).sp.map PyData.int))) (i:=4) (ad:=p) (d:=.list ((x).sp.map PyData.int)) (rs1:=[(0,R.a)]) (hL (mOf S x) (x).sp) gds2 h4 (fun q hq=>by rw [List.mem_singleton.mp hq];exact h0) (fun H i=>i.dv) ?_
   show PSs _ _ (zV K (LZ ([]++(R.L,MZ K R (mOf S x))::[])) (TZ ([]++(R.L,MZ K R (mOf S x))::[])) _ _ _ _)
   refine GH (A:=[]) (B:=[]) (d:=.int ww.dn) (lf':=lfM (BH (mOf S x) ww (x).sp)) (df':=dfM (BH (mOf S x) ww (x).sp)) (A1 Bj AE) (fun R'=>A1 (Bj (S:=BH (mOf S x) ww (x).sp)) AE) (evv 6) rfl (Dm (A:=[]) (B:=[]) (A1 Bj AE) (fun R'=>A1 (Bj (S:=BH (mOf S x) ww (x).sp)) AE) D_lead (by walk_at "rm") rfl m0 (pv 0) (Bc (BG (pv 9) rfl) (Bc (BG (pv 4) rfl) Eu)) ⟨mOf S x,ww,(x).sp,okw,oksp,rfl,rfl,rfl,rfl,rfl,rfl⟩ rfl) (evv 8) rfl fun v R' H' hC ha t dv=>⟨R'.L,⟨R',⟨hC,ha⟩,rfl,tz_one.mp t,?_⟩,?_⟩
   ·rw [List.nil_append,Eg] at dv;exact dv
   ·rw [List.nil_append,Eg];exact Same.refl _
def dueD (o:OutR):PyData:=.list [.int o.k,.str o.why,o.way,.list (o.x.sp.map PyData.int),.list (o.x.mem.map PyData.int),.list (o.x.told.map PyData.int),.list (o.x.sto.map PyData.int)]
def KI (ds:List PyData) (d:PyData):Prop:=∃(S:MS) (st:Int) (tx:List (Int×Int)) (ways:List PyData) (rows:List RR) (last:Option Int),RideOk S tx ways rows∧(∀q∈tx,0≤q.1)∧ds=[(stD S.pg S.mem S.bx S.tz S.tl S.here),(.list [.int st,.tuple (tx.map prD),.tuple (rows.map RR.D),.tuple ways]),AQ last]∧d=dueD (outR S tx ways last rows)
def J_ (sp:List Int):RR→Int
 | .store s n _=>sAt sp s + n
 | _=>-1
theorem HE {tx:List (Int×Int)} (h:∀q∈tx,0≤q.1) (sp:List Int) (r:RR):(tx.any fun q=>decide (q.1=J_ sp r))=Do tx sp r:=by
 have no:(tx.any fun q=>decide (q.1=-1))=false:=by
  rw [List.any_eq_false]
  intro q hq
  have:=h q hq
  simp
  omega
 cases r <;> first | rfl | exact no
abbrev its4 (K:PySem.W.Frag) (a b c e:Addr) (sp mem told sto:List Int):List Zt:=[([a],Kz K a (sp.map PyData.int)),([b],Kz K b (mem.map PyData.int)),([c],Kz K c (told.map PyData.int)),([e],Kz K e (sto.map PyData.int))]
theorem gds4 {K:PySem.W.Frag} {a b c e:Addr} {sp mem told sto:List Int}:Gds (its4 K a b c e sp mem told sto):=A1 Gz (A1 Gz (A1 Gz (A1 Gz AE)))
theorem Sm {K:PySem.W.Frag} {L:List Addr} {a b c e:Addr} (sp mem told sto:List Int) (G:Gam):Sees K L (TZ (its4 K a b c e sp mem told sto)) [(6,e),(5,c),(4,b),(3,a)] G ((((G.set 3 (some (.list (sp.map PyData.int)))).set 4 (some (.list (mem.map PyData.int)))).set 5 (some (.list (told.map PyData.int)))).set 6 (some (.list (sto.map PyData.int)))):=
 EX (EX (EX (Cq (List.mem_of_getElem? (i:=3) rfl) fun H t=>(show Kz K a (sp.map PyData.int) H from t.2 ([a],Kz K a (sp.map PyData.int)) (List.mem_of_getElem? (i:=0) rfl)).dv) (List.mem_of_getElem? (i:=2) rfl) fun H t=>(show Kz K b (mem.map PyData.int) H from t.2 ([b],Kz K b (mem.map PyData.int)) (List.mem_of_getElem? (i:=1) rfl)).dv) (List.mem_of_getElem? (i:=1) rfl) fun H t=>(show Kz K c (told.map PyData.int) H from t.2 ([c],Kz K c (told.map PyData.int)) (List.mem_of_getElem? (i:=2) rfl)).dv) (List.mem_of_getElem? (i:=0) rfl) fun H t=>(show Kz K e (sto.map PyData.int) H from t.2 ([e],Kz K e (sto.map PyData.int)) (List.mem_of_getElem? (i:=3) rfl)).dv
theorem MD (r:RR) (h:∃j s t g way,r=.test j s t g way):∃way,(∃a b c e,r.D=.tuple [.str "test",a,b,c,e,way])∧∀w,wayT "test" r w=way:=by
 obtain ⟨j,s,t,g,way,rfl⟩:=h
 exact ⟨way,⟨_,_,_,_,rfl⟩,fun w=>rfl⟩
theorem KD (T:Txt mg) (D_barred:DFn P w K mg base 2 "_law_barred" LM) (D_number:DFn P w K mg base 1 "_law_number" G8) {f:Addr} {fd:FuncData} (F:Fun K "_law_rode" "_law_rode" Eo f fd) (hm:mg "_law_rode"=some (.ref f)):DFn P w K mg base 3 "_law_rode" KI:=by
 refine F.data hm (F.binds fun _ _ _ _ _ _ us hl=>match us,hl with | [_,_,_],_=>rfl) sc_law_rode (fun ds d ⟨_,_,_,_,_,_,_,_,e,_⟩=>by rw [e];rfl) fun cdv A outer s H E ds d hr ⟨S,st,tx,ways,rows,last,ok,htx,e1,e2⟩=>?_
 subst e1 e2
 obtain ⟨out,eo⟩:∃out,out=outR S tx ways last rows:=⟨_,rfl⟩
 rw [←eo]
 have hrl:=ok.rl
 have hwl:=ok.wl
 have hms:=ok.ms
 have bl:=hms.bl
 have ml:=hms.ml
 have p8:=hms.p8
 have ew:(AS S).map PyData.int=(S.bx++[if S.tz=true then 1 else 0,if S.tl=true then 1 else 0]).map PyData.int++(List.replicate 6 (0:Int)).map PyData.int:=by unfold AS;rw [List.map_append]
 refine MO (Lo':=fun a=>LZ [([a],Kz K a ((AS S).map PyData.int))]) (Io':=fun a=>TZ [([a],Kz K a ((AS S).map PyData.int))]) (ro:=fun a=>[(3,a)]) (Go:=fun _=>[some (stD S.pg S.mem S.bx S.tz S.tl S.here),some (.list [.int st,.tuple (tx.map prD),.tuple (rows.map RR.D),.tuple ways]),some (AQ last),none,none,none,none,none,none,none,none,none,none,none]) (fun _=>True) (EJ (its:=[]) (ws:=(AS S).map PyData.int) (j:=3) AE sc_law_rode.nd rfl (by show 3∉[];decide) (Or.inl rfl) rfl Bl ?mk3 (BQ _)) fun a _=>?_
 case mk3=>
  rw [ew]
  refine Lm (Ap (Ae (C8 (AT (Ao (ds:=[.list (S.pg.map A6),.list (S.mem.map PyData.int),.list (S.bx.map PyData.int),.tuple [.bool S.tz,.bool S.tl],.int S.here]) (evv 0) Ab (Aj (by decide) rfl)) rfl T.b_list)) (Ay (ds:=[.int (if S.tz=true then 1 else 0),.int (if S.tl=true then 1 else 0)]) (Aa (A8 "int" (Aa (Aq (ds:=[.bool S.tz,.bool S.tl]) (Ao (ds:=[.list (S.pg.map A6),.list (S.mem.map PyData.int),.list (S.bx.map PyData.int),.tuple [.bool S.tz,.bool S.tl],.int S.here]) (evv 0) Ab (Aj (by decide) rfl)) Ab (Aj (by decide) rfl)) Ad) IZ rfl T.b_int (by decide +kernel)) (Aa (A8 "int" (Aa (Aq (ds:=[.bool S.tz,.bool S.tl]) (Ao (ds:=[.list (S.pg.map A6),.list (S.mem.map PyData.int),.list (S.bx.map PyData.int),.tuple [.bool S.tz,.bool S.tl],.int S.here]) (evv 0) Ab (Aj (by decide) rfl)) Ab (Aj (by decide) rfl)) Ad) IZ rfl T.b_int (by decide +kernel)) Ad)) (by rw [sizeLine_eq];show 2≤16777216;decide)) (IA (by rw [List.length_map,sizeLine_eq];show _ + 2≤_;omega))) (by rw [List.map_append];rfl)) (Ap (Ae (Ay (Aa Ab Ad) (by walk_at "sz")) Ab (Lr (by decide) (by decide) (by rw [sizeLine_eq];decide))) rfl) ?_
  rw [List.length_map,List.length_append,sizeLine_eq]
  show (S.bx.length + 2) + 6≤_
  omega
 refine Cb (Lo:=fun b=>LZ [([a],Kz K a ((AS S).map PyData.int)),([b],Kz K b (S.mem.map PyData.int))]) (Io:=fun b=>TZ [([a],Kz K a ((AS S).map PyData.int)),([b],Kz K b (S.mem.map PyData.int))]) (ro:=fun b=>[(4,b),(3,a)]) (Go:=fun _=>[some (stD S.pg S.mem S.bx S.tz S.tl S.here),some (.list [.int st,.tuple (tx.map prD),.tuple (rows.map RR.D),.tuple ways]),some (AQ last),none,none,none,none,none,none,none,none,none,none,none]) (fun _=>True) (EJ (its:=[([a],Kz K a ((AS S).map PyData.int))]) (ws:=S.mem.map PyData.int) (j:=4) (A1 Gz AE) sc_law_rode.nd rfl (by show 4∉[3];decide) (Or.inl rfl) rfl Bl (AT (Ao (ds:=[.list (S.pg.map A6),.list (S.mem.map PyData.int),.list (S.bx.map PyData.int),.tuple [.bool S.tz,.bool S.tl],.int S.here]) (evv 0) Ab (Aj (by decide) rfl)) rfl T.b_list) (BQ _)) fun b _=>?_
 refine Cb (Lo:=fun c=>LZ [([a],Kz K a ((AS S).map PyData.int)),([b],Kz K b (S.mem.map PyData.int)),([c],Kz K c (S.told.map PyData.int))]) (Io:=fun c=>TZ [([a],Kz K a ((AS S).map PyData.int)),([b],Kz K b (S.mem.map PyData.int)),([c],Kz K c (S.told.map PyData.int))]) (ro:=fun c=>[(5,c),(4,b),(3,a)]) (Go:=fun _=>[some (stD S.pg S.mem S.bx S.tz S.tl S.here),some (.list [.int st,.tuple (tx.map prD),.tuple (rows.map RR.D),.tuple ways]),some (AQ last),none,none,none,none,none,none,none,none,none,none,none]) (fun _=>True) (EJ (its:=[([a],Kz K a ((AS S).map PyData.int)),([b],Kz K b (S.mem.map PyData.int))]) (ws:=S.told.map PyData.int) (j:=5) (A1 Gz (A1 Gz AE)) sc_law_rode.nd rfl (by show 5∉[4,3];decide) (Or.inl rfl) rfl Bl (by rw [ok.t0];exact CV Ad (by rw [sizeLine_eq];show 0≤16777216;decide)) (BQ _)) fun c _=>?_
 refine Cb (Lo:=fun e=>LZ (its4 K a b c e (AS S) S.mem S.told S.sto)) (Io:=fun e=>TZ (its4 K a b c e (AS S) S.mem S.told S.sto)) (ro:=fun e=>[(6,e),(5,c),(4,b),(3,a)]) (Go:=fun _=>[some (stD S.pg S.mem S.bx S.tz S.tl S.here),some (.list [.int st,.tuple (tx.map prD),.tuple (rows.map RR.D),.tuple ways]),some (AQ last),none,none,none,none,none,none,none,none,none,none,none]) (fun _=>True) (EJ (its:=[([a],Kz K a ((AS S).map PyData.int)),([b],Kz K b (S.mem.map PyData.int)),([c],Kz K c (S.told.map PyData.int))]) (ws:=S.sto.map PyData.int) (j:=6) (A1 Gz (A1 Gz (A1 Gz AE))) sc_law_rode.nd rfl (by show 6∉[5,4,3];decide) (Or.inl rfl) rfl Bl (by rw [ok.s0];exact CV Ad (by rw [sizeLine_eq];show 0≤16777216;decide)) (BQ _)) fun e _=>?_
 obtain ⟨L,eL⟩:∃L,L=LZ (its4 K a b c e (AS S) S.mem S.told S.sto):=⟨_,rfl⟩
 have hL:∀(sp mem told sto:List Int),L=LZ (its4 K a b c e sp mem told sto):=fun sp mem told sto=>by rw [eL];rfl
 rw [←eL]
 have m6:((6:Nat),e)∈[(6,e),(5,c),(4,b),(3,a)]:=List.mem_of_getElem? (i:=0) rfl
 have m5:((5:Nat),c)∈[(6,e),(5,c),(4,b),(3,a)]:=List.mem_of_getElem? (i:=1) rfl
 have m4:((4:Nat),b)∈[(6,e),(5,c),(4,b),(3,a)]:=List.mem_of_getElem? (i:=2) rfl
 have m3:((3:Nat),a)∈[(6,e),(5,c),(4,b),(3,a)]:=List.mem_of_getElem? (i:=3) rfl
 have ni:∀i:Nat,i∉[6,5,4,3]→i∉[((6:Nat),e),(5,c),(4,b),(3,a)].map (·.1):=fun i h=>h
 have ok4:∀(sp mem told sto:List Int),ZOk L (TZ (its4 K a b c e sp mem told sto)):=fun sp mem told sto=>by rw [hL sp mem told sto];exact gds4.ok
 have see:∀(sp mem told sto:List Int) (G:Gam),Sees K L (TZ (its4 K a b c e sp mem told sto)) [(6,e),(5,c),(4,b),(3,a)] G ((((G.set 3 (some (.list (sp.map PyData.int)))).set 4 (some (.list (mem.map PyData.int)))).set 5 (some (.list (told.map PyData.int)))).set 6 (some (.list (sto.map PyData.int)))):=fun sp mem told sto G=>Sm sp mem told sto G
 refine AK (G1:=[some (stD S.pg S.mem S.bx S.tz S.tl S.here),some (.list [.int st,.tuple (tx.map prD),.tuple (rows.map RR.D),.tuple ways]),some (AQ last),none,none,none,none,(some (.list [])),none,none,none,none,none,none]) (Bs (i:=7) (d:=.list []) sc_law_rode.nd rfl (ni 7 (by decide)) (Or.inl rfl) (J2 (ok4 _ _ _ _) (CV Ad (by rw [sizeLine_eq];show 0≤16777216;decide)) rfl)) ?_
 have hx0:=ok.x0
 refine MM (n:=rows.length) (j:=8) (Iv:=fun x:RD=>TZ (its4 K a b c e (x).sp (x).mem (x).told (x).sto)) (T:=⟨AS S,S.mem,S.told,S.sto,none⟩) (fun k G x=>RDok S.pg k x∧Dk S.pg tx ways last (rows.drop k) k x=out∧∃a8 a9 a10 a11 a12 a13,G=[some (stD S.pg S.mem S.bx S.tz S.tl S.here),some (.list [.int st,.tuple (tx.map prD),.tuple (rows.map RR.D),.tuple ways]),some (AQ last),none,none,none,none,(some (.list (B0 (x).late))),a8,a9,a10,a11,a12,a13]) (fun x=>ok4 _ _ _ _) PassesOwn.never rfl ?nj (Av (i:=8) sc_law_rode.nd rfl (Or.inl rfl)) Bl (Ap (At "len" (Aa (Ao (ds:=[.int st,.tuple (tx.map prD),.tuple (rows.map RR.D),.tuple ways]) (evv 1) Ab (Aj (by decide) rfl)) Ad) Gn rfl T.b_len (by decide +kernel)) (by rw [List.length_map])) (by omega) rfl T.b_range ⟨hx0,by rw [List.drop_zero,eo];rfl,_,_,_,_,_,_,rfl⟩ ?body ?done
 case nj=>
  intro q hq
  simp only [List.mem_cons,List.not_mem_nil,or_false] at hq
  rcases hq with rfl | rfl | rfl | rfl
  ·show (6:Nat)≠8;decide
  ·show (5:Nat)≠8;decide
  ·show (4:Nat)≠8;decide
  ·show (3:Nat)≠8;decide
 case done=>
  rintro G x ⟨okx,ho,a8,a9,a10,a11,a12,a13,rfl⟩
  rw [List.drop_length] at ho
  subst ho
  refine GB (see (x).sp (x).mem (x).told (x).sto _) ?_
  exact Ag (Ar (Ay (Aa (Ap (At "len" (Aa (Ao (ds:=[.int st,.tuple (tx.map prD),.tuple (rows.map RR.D),.tuple ways]) (evv 1) Ab (Aj (by decide) rfl)) Ad) Gn rfl T.b_len (by decide +kernel)) (by rw [List.length_map];rfl)) (Aa Ah (Aa (Aq (Ao (ds:=[.int st,.tuple (tx.map prD),.tuple (rows.map RR.D),.tuple ways]) (evv 1) Ab (Aj (by decide) rfl)) (GZ Ab) (L6 hwl)) (Aa (evv 3) (Aa (evv 4) (Aa (evv 5) (Aa (evv 6) Ad))))))) (by rw [sizeLine_eq];show 7≤16777216;decide)))
 case body=>
  rintro k G x hk ⟨okx,ho,a8,a9,a10,a11,a12,a13,rfl⟩
  obtain ⟨r,hr1⟩:∃r,rows[k]?=some r:=⟨rows[k],List.getElem?_eq_getElem hk⟩
  have okr:=ok.rok r (List.mem_of_getElem? hr1)
  have hs:=okx.sp
  have nrow:noL r.D=true:=by
   have h:=Kc (rows:=[r]) fun q hq=>by rw [List.mem_singleton.mp hq];exact okr
   have h:(noL r.D && true)=true:=h
   rwa [Bool.and_true] at h
  rw [drop_cons hr1] at ho
  have hlay:=Iq S.pg last k x.sp r
  refine AK (G1:=[some (stD S.pg S.mem S.bx S.tz S.tl S.here),some (.list [.int st,.tuple (tx.map prD),.tuple (rows.map RR.D),.tuple ways]),some (AQ last),none,none,none,none,(some (.list (B0 (x).late))),(some (.int k)),(some r.D),a10,a11,a12,a13]) (Bs (i:=9) (d:=r.D) sc_law_rode.nd rfl (ni 9 (by decide)) (Or.inl rfl) (Dh (ok4 _ _ _ _) (Aq (ds:=rows.map RR.D) (Ao (ds:=[.int st,.tuple (tx.map prD),.tuple (rows.map RR.D),.tuple ways]) (evv 1) Ab (Aj (by decide) rfl)) (evv 8) (Aj (Int.natCast_nonneg k) (by rw [Int.toNat_natCast,List.getElem?_map,hr1];rfl))) nrow)) ?_
  refine AK (G1:=[some (stD S.pg S.mem S.bx S.tz S.tl S.here),some (.list [.int st,.tuple (tx.map prD),.tuple (rows.map RR.D),.tuple ways]),some (AQ last),none,none,none,none,(some (.list (B0 (x).late))),(some (.int k)),(some r.D),(some (.str (whyR S.pg x.sp r))),a11,a12,a13]) (Bs (i:=10) (d:=.str (whyR S.pg x.sp r)) sc_law_rode.nd rfl (ni 10 (by decide)) (Or.inl rfl) (Gy (ok4 _ _ _ _) (see (x).sp (x).mem (x).told (x).sto _) (An D_barred (by walk_at "rm") rfl (Aa (Ao (ds:=[.list (S.pg.map A6),.list (S.mem.map PyData.int),.list (S.bx.map PyData.int),.tuple [.bool S.tz,.bool S.tl],.int S.here]) (evv 0) Ab (Aj (by decide) rfl)) (Aa (evv 9) (Aa (evv 3) Ad))) ⟨S.pg,r,x.sp,okr,hs,p8,rfl,rfl⟩) rfl)) ?_
  refine AK (G1:=[some (stD S.pg S.mem S.bx S.tz S.tl S.here),some (.list [.int st,.tuple (tx.map prD),.tuple (rows.map RR.D),.tuple ways]),some (AQ last),none,none,none,none,(some (.list (B0 (x).late))),(some (.int k)),(some r.D),(some (.str (whyL S.pg last k x.sp r))),a11,a12,a13]) (I1:=TZ (its4 K a b c e (x).sp (x).mem (x).told (x).sto)) (AU (k:=decide (last=some (k:Int))) (AN (ok4 _ _ _ _) (Al (evv 8) (evv 2) (BL (by walk_at "un") rfl (JB last) (Nat.le_trans (Nat.min_le_left _ _) (by simp [PyData.depth])) (JG k last)) (Ak _))) (fun h=>?brk) (fun h=>?nob)) ?_
  case brk=>
   have ew:(whyL S.pg last k x.sp r)="break":=by unfold whyL;rw [if_pos (of_decide_eq_true h)]
   rw [ew]
   exact A9 (Bs (i:=10) (d:=.str "break") sc_law_rode.nd rfl (ni 10 (by decide)) (Or.inl rfl) (Dh (ok4 _ _ _ _) Ah rfl)) AL
  case nob=>
   have ew:(whyL S.pg last k x.sp r)=whyR S.pg x.sp r:=by unfold whyL;rw [if_neg (of_decide_eq_false h)]
   rw [ew]
   exact AL
  by_cases hwhy:(whyL S.pg last k x.sp r)=""
  ·unfold Dk at ho
   rw [if_pos hwhy] at ho
   refine C_ (AN (ok4 _ _ _ _) (Al (evv 10) Ah (BI (by walk_at "un") hlay (by decide +kernel) (by walk_at "dp") (by rw [FF,decide_eq_true hwhy];rfl)) (Ak _))) ?_
   obtain ⟨sw,esw⟩:∃sw:Option PyData,sw=(some (.str (whyL S.pg last k x.sp r))):=⟨_,rfl⟩
   rw [←esw]
   have hwr:=(Ji hwhy).2
   refine AK (G1:=[some (stD S.pg S.mem S.bx S.tz S.tl S.here),some (.list [.int st,.tuple (tx.map prD),.tuple (rows.map RR.D),.tuple ways]),some (AQ last),none,none,none,none,(some (.list (B0 (x).late))),(some (.int k)),(some r.D),sw,a11,(some (.list [])),a13]) (Bs (i:=12) (d:=.list []) sc_law_rode.nd rfl (ni 12 (by decide)) (Or.inl rfl) (J2 (ok4 _ _ _ _) (CV Ad (by rw [sizeLine_eq];show 0≤16777216;decide)) rfl)) ?_
   refine AK (G1:=[some (stD S.pg S.mem S.bx S.tz S.tl S.here),some (.list [.int st,.tuple (tx.map prD),.tuple (rows.map RR.D),.tuple ways]),some (AQ last),none,none,none,none,(some (.list (B0 (x).late))),(some (.int k)),(some r.D),sw,a11,(some (.list [])),(some (.int (-1)))]) (Bs (i:=13) (d:=.int (-1)) sc_law_rode.nd rfl (ni 13 (by decide)) (Or.inl rfl) (Dh (ok4 _ _ _ _) (GZ Ab) rfl)) ?_
   refine AK (G1:=[some (stD S.pg S.mem S.bx S.tz S.tl S.here),some (.list [.int st,.tuple (tx.map prD),.tuple (rows.map RR.D),.tuple ways]),some (AQ last),none,none,none,none,(some (.list (B0 (x).late))),(some (.int k)),(some r.D),sw,a11,(some (.list (B0 (doR x r).late))),(some (.int (J_ x.sp r)))]) (I1:=TZ (its4 K a b c e (doR x r).sp (doR x r).mem (doR x r).told (doR x r).sto)) ?deed ?_
   case deed=>
    by_cases hse:r.sets=true
    ·obtain ⟨n1,n2,n3,n4⟩:=RR.nm_sets hse
     obtain ⟨l,el⟩:=RR.rest_sets hse
     have tg:=RR.tgt_ok okr hse
     have eh:J_ x.sp r=-1:=by cases r <;> first | rfl | cases hse
     rw [eh,DC hse,RR.D_eq]
     refine AU (k:=false) (AN (ok4 _ _ _ _) (A3 (by walk_at "un") (evv 9) r.lay (by decide +kernel) n1)) (fun h=>by cases h) (fun _=>?_)
     refine A9 (AU (k:=false) (AN (ok4 _ _ _ _) (A3 (by walk_at "un") (evv 9) r.lay (by decide +kernel) n2)) (fun h=>by cases h) (fun _=>?_)) AL
     refine A9 (AU (k:=false) (AN (ok4 _ _ _ _) (A3 (by walk_at "un") (evv 9) r.lay (by decide +kernel) n3)) (fun h=>by cases h) (fun _=>?_)) AL
     refine A9 (AU (k:=true) (AN (ok4 _ _ _ _) (Is (by walk_at "un") (evv 9) r.lay (by decide +kernel) (by rw [n4];rfl))) (fun _=>?_) (fun h=>by cases h)) AL
     refine A9 (CL (Gq (A:=[]) (B:=[([b],Kz K b (x.mem.map PyData.int)),([c],Kz K c (x.told.map PyData.int)),([e],Kz K e (x.sto.map PyData.int))]) (S:=x.sp.map PyData.int) (d:=.int (numR x.sp r)) (z:=r.tgt) (hL x.sp x.mem x.told x.sto) gds4 m3 (pv 3) (see (x).sp (x).mem (x).told (x).sto _) (An D_number (by walk_at "rm") rfl (Aa (evv 9) (Aa (evv 3) Ad)) ⟨r,x.sp,okr,hs,hse,by rw [RR.D_eq],rfl⟩) rfl (Aq (ds:=.str r.nm::r.rest) (evv 9) Ab (Aj (by decide) (by rw [el];rfl))) tg.1 (by rw [List.length_map,hs.1];exact tg.2)) ?_) AL
     rw [Cp]
     rfl
    ·cases r with
     | set _ _=>exact (hse rfl).elim
     | copy _ _=>exact (hse rfl).elim
     | cut _ _=>exact (hse rfl).elim
     | ari _ _ _ _=>exact (hse rfl).elim
     | addn _ _ _=>exact (hse rfl).elim
     | load r s n=>
       have hr0:=ER (JU hwr)
       have hml:=okx.ml
       have c1:sAt x.sp s + n < (x.mem.length:Int):=by rw [hml];have:=hr0.2;omega
       show PS _ _ (zN K L _ _ [some (stD S.pg S.mem S.bx S.tz S.tl S.here),some (.list [.int st,.tuple (tx.map prD),.tuple (rows.map RR.D),.tuple ways]),some (AQ last),none,none,none,none,(some (.list (B0 (x).late))),(some (.int k)),(some (.tuple [.str "load",.int r,.int s,.int n])),sw,a11,(some (.list [])),(some (.int (-1)))] [some (stD S.pg S.mem S.bx S.tz S.tl S.here),some (.list [.int st,.tuple (tx.map prD),.tuple (rows.map RR.D),.tuple ways]),some (AQ last),none,none,none,none,(some (.list (B0 (x).late))),(some (.int k)),(some (.tuple [.str "load",.int r,.int s,.int n])),sw,a11,(some (.list [.int r,.int (FK x.mem (sAt x.sp s + n))])),(some (.int (-1)))] _)
       refine AU (k:=true) (AN (ok4 _ _ _ _) (A3 (by walk_at "un") (evv 9) (by decide +kernel) (by decide +kernel) (by decide +kernel))) (fun _=>?_) (fun h=>by cases h)
       exact A9 (Bs (i:=12) (d:=.list [.int r,.int (FK x.mem (sAt x.sp s + n))]) sc_law_rode.nd rfl (ni 12 (by decide)) (Or.inl rfl) (Nf (ok4 _ _ _ _) (see (x).sp (x).mem (x).told (x).sto _) (CV (Aa (Aq (ds:=[.str "load",.int r,.int s,.int n]) (evv 9) Ab (Aj (by decide) rfl)) (Aa (Ao (evv 4) (Ae (Ao (evv 3) (Aq (ds:=[.str "load",.int r,.int s,.int n]) (evv 9) Ab (Aj (by decide) rfl)) (hs.at okr.2.1).2) (Aq (ds:=[.str "load",.int r,.int s,.int n]) (evv 9) Ab (Aj (by decide) rfl)) Bk) (AW hr0.1 c1)) Ad)) (by rw [sizeLine_eq];show 2≤16777216;decide)) rfl)) AL
     | store s n t=>
       have hr0:=ER (HL hwr)
       have hml:=okx.ml
       have c1:sAt x.sp s + n < (x.mem.length:Int):=by rw [hml];have:=hr0.2;omega
       show PS _ _ (zN K L _ _ [some (stD S.pg S.mem S.bx S.tz S.tl S.here),some (.list [.int st,.tuple (tx.map prD),.tuple (rows.map RR.D),.tuple ways]),some (AQ last),none,none,none,none,(some (.list (B0 (x).late))),(some (.int k)),(some (.tuple [.str "store",.int s,.int n,.int t])),sw,a11,(some (.list [])),(some (.int (-1)))] [some (stD S.pg S.mem S.bx S.tz S.tl S.here),some (.list [.int st,.tuple (tx.map prD),.tuple (rows.map RR.D),.tuple ways]),some (AQ last),none,none,none,none,(some (.list (B0 (x).late))),(some (.int k)),(some (.tuple [.str "store",.int s,.int n,.int t])),sw,a11,(some (.list [])),(some (.int (sAt x.sp s + n)))] _)
       refine AU (k:=false) (AN (ok4 _ _ _ _) (A3 (by walk_at "un") (evv 9) (by decide +kernel) (by decide +kernel) (by decide +kernel))) (fun h=>by cases h) (fun _=>?_)
       refine A9 (AU (k:=true) (AN (ok4 _ _ _ _) (A3 (by walk_at "un") (evv 9) (by decide +kernel) (by decide +kernel) (by decide +kernel))) (fun _=>?_) (fun h=>by cases h)) AL
       refine A9 (G1:=[some (stD S.pg S.mem S.bx S.tz S.tl S.here),some (.list [.int st,.tuple (tx.map prD),.tuple (rows.map RR.D),.tuple ways]),some (AQ last),none,none,none,none,(some (.list (B0 (x).late))),(some (.int k)),(some (.tuple [.str "store",.int s,.int n,.int t])),sw,a11,(some (.list [])),(some (.int (sAt x.sp s + n)))]) (Bs (i:=13) (d:=.int (sAt x.sp s + n)) sc_law_rode.nd rfl (ni 13 (by decide)) (Or.inl rfl) (Gy (ok4 _ _ _ _) (see (x).sp (x).mem (x).told (x).sto _) (Ae (Ao (evv 3) (Aq (ds:=[.str "store",.int s,.int n,.int t]) (evv 9) Ab (Aj (by decide) rfl)) (hs.at okr.1).2) (Aq (ds:=[.str "store",.int s,.int n,.int t]) (evv 9) Ab (Aj (by decide) rfl)) Bk) rfl)) ?_
       refine A9 (CL (I2:=TZ (its4 K a b c e x.sp (x.mem.set (sAt x.sp s + n).toNat (sAt x.sp t % 4096)) x.told x.sto)) (Gq (A:=[([a],Kz K a (x.sp.map PyData.int))]) (B:=[([c],Kz K c (x.told.map PyData.int)),([e],Kz K e (x.sto.map PyData.int))]) (S:=x.mem.map PyData.int) (d:=.int (sAt x.sp t % 4096)) (z:=sAt x.sp s + n) (hL x.sp x.mem x.told x.sto) gds4 m4 (pv 4) (see (x).sp (x).mem (x).told (x).sto _) (Ae (Ao (evv 3) (Aq (ds:=[.str "store",.int s,.int n,.int t]) (evv 9) Ab (Aj (by decide) rfl)) (hs.at okr.2.2).2) Ab (Bp (by decide))) rfl (evv 13) hr0.1 (by rw [List.length_map];exact c1)) (by rw [Cp];rfl)) ?_
       exact A9 (CL (HA (A:=[([a],Kz K a (x.sp.map PyData.int)),([b],Kz K b ((x.mem.set (sAt x.sp s + n).toNat (sAt x.sp t % 4096)).map PyData.int)),([c],Kz K c (x.told.map PyData.int))]) (B:=[]) (S:=x.sto.map PyData.int) (d:=.int (sAt x.sp s + n)) (hL x.sp _ x.told x.sto) gds4 m6 (pv 6) Bl (evv 13) rfl (by rw [List.length_map,sizeLine_eq];have:=okx.sto;omega)) (by rw [EK];rfl)) AL
     | out s=>
       show PS _ _ (zN K L _ _ [some (stD S.pg S.mem S.bx S.tz S.tl S.here),some (.list [.int st,.tuple (tx.map prD),.tuple (rows.map RR.D),.tuple ways]),some (AQ last),none,none,none,none,(some (.list (B0 (x).late))),(some (.int k)),(some (.tuple [.str "out",.int s])),sw,a11,(some (.list [])),(some (.int (-1)))] [some (stD S.pg S.mem S.bx S.tz S.tl S.here),some (.list [.int st,.tuple (tx.map prD),.tuple (rows.map RR.D),.tuple ways]),some (AQ last),none,none,none,none,(some (.list (B0 (x).late))),(some (.int k)),(some (.tuple [.str "out",.int s])),sw,a11,(some (.list [])),(some (.int (-1)))] _)
       refine AU (k:=false) (AN (ok4 _ _ _ _) (A3 (by walk_at "un") (evv 9) (by decide +kernel) (by decide +kernel) (by decide +kernel))) (fun h=>by cases h) (fun _=>?_)
       refine A9 (AU (k:=false) (AN (ok4 _ _ _ _) (A3 (by walk_at "un") (evv 9) (by decide +kernel) (by decide +kernel) (by decide +kernel))) (fun h=>by cases h) (fun _=>?_)) AL
       refine A9 (AU (k:=true) (AN (ok4 _ _ _ _) (A3 (by walk_at "un") (evv 9) (by decide +kernel) (by decide +kernel) (by decide +kernel))) (fun _=>?_) (fun h=>by cases h)) AL
       exact A9 (CL (HA (A:=[([a],Kz K a (x.sp.map PyData.int)),([b],Kz K b (x.mem.map PyData.int))]) (B:=[([e],Kz K e (x.sto.map PyData.int))]) (S:=x.told.map PyData.int) (d:=.int (sAt x.sp s % 4096)) (hL x.sp x.mem x.told x.sto) gds4 m5 (pv 5) (see (x).sp (x).mem (x).told (x).sto _) (Ae (Ao (evv 3) (Aq (ds:=[.str "out",.int s]) (evv 9) Ab (Aj (by decide) rfl)) (hs.at okr).2) Ab (Bp (by decide))) rfl (by rw [List.length_map,sizeLine_eq];have:=okx.told;omega)) (by rw [EK];rfl)) AL
     | test j s t g way=>
       show PS _ _ (zN K L _ _ [some (stD S.pg S.mem S.bx S.tz S.tl S.here),some (.list [.int st,.tuple (tx.map prD),.tuple (rows.map RR.D),.tuple ways]),some (AQ last),none,none,none,none,(some (.list (B0 (x).late))),(some (.int k)),(some (.tuple [.str "test",.str (kindS j),.int s,.int t,.bool g,way])),sw,a11,(some (.list [])),(some (.int (-1)))] [some (stD S.pg S.mem S.bx S.tz S.tl S.here),some (.list [.int st,.tuple (tx.map prD),.tuple (rows.map RR.D),.tuple ways]),some (AQ last),none,none,none,none,(some (.list (B0 (x).late))),(some (.int k)),(some (.tuple [.str "test",.str (kindS j),.int s,.int t,.bool g,way])),sw,a11,(some (.list [])),(some (.int (-1)))] _)
       refine AU (k:=false) (AN (ok4 _ _ _ _) (A3 (by walk_at "un") (evv 9) (by decide +kernel) (by decide +kernel) (by decide +kernel))) (fun h=>by cases h) (fun _=>?_)
       refine A9 (AU (k:=false) (AN (ok4 _ _ _ _) (A3 (by walk_at "un") (evv 9) (by decide +kernel) (by decide +kernel) (by decide +kernel))) (fun h=>by cases h) (fun _=>?_)) AL
       refine A9 (AU (k:=false) (AN (ok4 _ _ _ _) (A3 (by walk_at "un") (evv 9) (by decide +kernel) (by decide +kernel) (by decide +kernel))) (fun h=>by cases h) (fun _=>?_)) AL
       exact A9 (AU (k:=false) (AN (ok4 _ _ _ _) (Is (by walk_at "un") (evv 9) (by decide +kernel) (by decide +kernel) (by decide +kernel))) (fun h=>by cases h) (fun _=>AL)) AL
   have okx1:=EE okx okr
   refine AK (G1:=[some (stD S.pg S.mem S.bx S.tz S.tl S.here),some (.list [.int st,.tuple (tx.map prD),.tuple (rows.map RR.D),.tuple ways]),some (AQ last),none,none,none,none,(some (.list (B0 (x).late))),(some (.int k)),(some r.D),sw,a11,(some (.list (B0 (doR x r).late))),(some (.int (J_ x.sp r)))]) (I1:=TZ (its4 K a b c e (AR x r).sp (AR x r).mem (AR x r).told (AR x r).sto)) ?put ?_
   case put=>
    have okd:=KP okx okr
    cases el:x.late with
    | none=>
      have es:(AR x r).sp=(doR x r).sp:=by show HU x.late _=_;rw [el];rfl
      rw [es]
      exact AU (k:=false) (AN (ok4 _ _ _ _) (As (Al (At "len" (Aa (evv 7) Ad) (by walk_at "cd") rfl T.b_len (by decide +kernel)) Ab (by walk_at "od") (Ak _)) rfl)) (fun h=>by cases h) (fun _=>AL)
    | some q=>
      have es:(AR x r).sp=(doR x r).sp.set q.1.toNat q.2:=by show HU x.late _=_;rw [el];rfl
      have hq:=okx.late q el
      rw [es]
      refine AU (k:=true) (AN (ok4 _ _ _ _) (As (Al (At "len" (Aa (evv 7) Ad) (by walk_at "cd") rfl T.b_len (by decide +kernel)) Ab (by walk_at "od") (Ak _)) rfl)) (fun _=>?_) (fun h=>by cases h)
      refine A9 (CL (Gq (A:=[]) (B:=[([b],Kz K b ((doR x r).mem.map PyData.int)),([c],Kz K c ((doR x r).told.map PyData.int)),([e],Kz K e ((doR x r).sto.map PyData.int))]) (S:=(doR x r).sp.map PyData.int) (d:=.int q.2) (z:=q.1) (hL (doR x r).sp (doR x r).mem (doR x r).told (doR x r).sto) gds4 m3 (pv 3) Bl (Ao (ds:=[.int q.1,.int q.2]) (evv 7) Ab (Aj (by decide) rfl)) rfl (Ao (ds:=[.int q.1,.int q.2]) (evv 7) Ab (Aj (by decide) rfl)) hq.1.1 (by rw [List.length_map,okd.sp.1];exact hq.1.2)) ?_) AL
      rw [Cp]
      rfl
   refine AK (G1:=[some (stD S.pg S.mem S.bx S.tz S.tl S.here),some (.list [.int st,.tuple (tx.map prD),.tuple (rows.map RR.D),.tuple ways]),some (AQ last),none,none,none,none,(some (.list (B0 (doR x r).late))),(some (.int k)),(some r.D),sw,a11,(some (.list (B0 (doR x r).late))),(some (.int (J_ x.sp r)))]) (Bs (i:=7) (d:=.list (B0 (doR x r).late)) sc_law_rode.nd rfl (ni 7 (by decide)) (Or.inl rfl) (BG (pv 12) rfl)) ?_
   by_cases hin:Do tx x.sp r=true
   ·rw [if_pos hin] at ho
    subst ho
    have hwk:=Er (ways:=ways) (k:=k + 1) (by omega)
    refine GX (AN (ok4 _ _ _ _) (Al (evv 13) (Ap (Bi (ix:=[]) (N:=["pair"]) (B:=bind1) (as:=tx) (D:=prD) (fun _=>true) (fun q=>PyData.int q.1) rfl (of_decide_eq_true (by kernel_rfl)) (AI (by decide)) (BW (Ao (ds:=[.int st,.tuple (tx.map prD),.tuple (rows.map RR.D),.tuple ways]) (evv 1) Ab (Aj (by decide) rfl))) (by rw [sizeLine_eq];have:=ok.tl;omega) (fun _ _=>BF _) (fun _ _ _ _ _=>Av (i:=0) (show List.Nodup (["pair"]:List Str) by decide +kernel) rfl (Or.inl rfl)) (fun a ha cl C s H fp=>BU) (fun q ha hP cl C s H fp=>Aq (ds:=[.int q.1,.int q.2]) (evv 0) Ab (Aj (by decide) rfl))) (show _=PyData.list (tx.map fun q=>.int q.1) by rw [AA])) (JS (.inl rfl) rfl (by rw [List.all_map,List.all_eq_true];intro x _;rfl) (by rw [List.any_map,←hin,←HE htx];exact congrArg (List.any tx) (funext fun q=>ED _ _))) (by rfl))) ?_
    refine GB (see (AR x r).sp (AR x r).mem (AR x r).told (AR x r).sto _) ?_
    exact Ag (Ar (Ay (Aa (evv 8) (Aa Ah (Aa (Aq (Ao (ds:=[.int st,.tuple (tx.map prD),.tuple (rows.map RR.D),.tuple ways]) (evv 1) Ab (Aj (by decide) rfl)) (Ap (Ae (evv 8) Ab Bk) (show _=PyData.int ((k + 1:Nat):Int) from rfl)) hwk.1) (Aa (evv 3) (Aa (evv 4) (Aa (evv 5) (Aa (evv 6) Ad))))))) (by rw [sizeLine_eq];show 7≤16777216;decide)))
   ·rw [if_neg hin] at ho
    have hin:Do tx x.sp r=false:=by simpa using hin
    refine C_ (AN (ok4 _ _ _ _) (Al (evv 13) (Ap (Bi (ix:=[]) (N:=["pair"]) (B:=bind1) (as:=tx) (D:=prD) (fun _=>true) (fun q=>PyData.int q.1) rfl (of_decide_eq_true (by kernel_rfl)) (AI (by decide)) (BW (Ao (ds:=[.int st,.tuple (tx.map prD),.tuple (rows.map RR.D),.tuple ways]) (evv 1) Ab (Aj (by decide) rfl))) (by rw [sizeLine_eq];have:=ok.tl;omega) (fun _ _=>BF _) (fun _ _ _ _ _=>Av (i:=0) (show List.Nodup (["pair"]:List Str) by decide +kernel) rfl (Or.inl rfl)) (fun a ha cl C s H fp=>BU) (fun q ha hP cl C s H fp=>Aq (ds:=[.int q.1,.int q.2]) (evv 0) Ab (Aj (by decide) rfl))) (show _=PyData.list (tx.map fun q=>.int q.1) by rw [AA])) (JS (.inl rfl) rfl (by rw [List.all_map,List.all_eq_true];intro x _;rfl) (by rw [List.any_map,←hin,←HE htx];exact congrArg (List.any tx) (funext fun q=>ED _ _))) (by rfl))) ?_
    exact Nj fun σ H rz=>⟨rfl,_,AR x r,⟨okx1,ho,_,_,_,_,_,_,rfl⟩,rz⟩
  ·unfold Dk at ho
   rw [if_neg hwhy] at ho
   subst ho
   have hwk:=Er (ways:=ways) (k:=k) (by omega)
   refine GX (AN (ok4 _ _ _ _) (Al (evv 10) Ah (BI (by walk_at "un") hlay (by decide +kernel) (by walk_at "dp") (by rw [FF,decide_eq_false hwhy];rfl)) (Ak _))) ?_
   refine GB (see (x).sp (x).mem (x).told (x).sto _) ?_
   refine Ac (A2 (i:=11) (d:=atW ways k) sc_law_rode.nd rfl (Or.inl rfl) (Aq (Ao (ds:=[.int st,.tuple (tx.map prD),.tuple (rows.map RR.D),.tuple ways]) (evv 1) Ab (Aj (by decide) rfl)) (evv 8) hwk.1)) ?_
   by_cases htest:(whyL S.pg last k x.sp r)="test"
   ·obtain ⟨way,⟨x1,x2,x3,x4,er⟩,hw⟩:=MD r (G6 htest)
    have ewt:wayT (whyL S.pg last k x.sp r) r (atW ways k)=way:=by rw [htest];exact hw _
    rw [ewt]
    refine Ac (Am (k:=true) (Cd (by walk_at "un") (evv 10) hlay (by decide +kernel) (decide_eq_true htest)) (fun _=>Ac (A2 (i:=11) (d:=way) sc_law_rode.nd rfl (Or.inl rfl) (Aq (ds:=[.str "test",x1,x2,x3,x4,way]) (K5 9 (by rw [←er];rfl) (pv 9)) Ab (Aj (by decide) rfl))) Af) (fun h=>by cases h)) ?_
    exact Ag (Ar (Ay (Aa (evv 8) (Aa (evv 10) (Aa (evv 11) (Aa (evv 3) (Aa (evv 4) (Aa (evv 5) (Aa (evv 6) Ad))))))) (by rw [sizeLine_eq];show 7≤16777216;decide)))
   ·have ewt:wayT (whyL S.pg last k x.sp r) r (atW ways k)=atW ways k:=by unfold wayT;rw [if_neg htest]
    rw [ewt]
    refine Ac (Am (k:=false) (Cd (by walk_at "un") (evv 10) hlay (by decide +kernel) (decide_eq_false htest)) (fun h=>by cases h) (fun _=>Af)) ?_
    exact Ag (Ar (Ay (Aa (evv 8) (Aa (evv 10) (Aa (evv 11) (Aa (evv 3) (Aa (evv 4) (Aa (evv 5) (Aa (evv 6) Ad))))))) (by rw [sizeLine_eq];show 7≤16777216;decide)))
def mk0 (S:MS):MS:={S with tz:=false,tl:=false,told:=[],sto:=[],done:=0}
def Oc (ds:List PyData) (lf:LF) (df:DF):Prop:=∃S:MS,MsOk S∧S.told=[]∧S.sto=[]∧S.done=3∧ds=[stD S.pg S.mem S.bx S.tz S.tl S.here]∧lf=lfM S∧df=dfM S
theorem LC {S:MS} (h1:S.told=[]) (h2:S.sto=[]) (h3:S.done=3):putM (mk0 S) S.bx S.tz S.tl S.here 3=S:=by
 cases S
 unfold putM mk0
 simp only at h1 h2 h3 ⊢
 subst h1 h2 h3
 rfl
theorem Mm (T:Txt mg) {C:Addr} (CM:ClsM K mg C) (D0:OIFn P w K mg base 5 C Sq) (D_put:YFn P w K mg base 1 C "put" Ll) {f:Addr} {fd:FuncData} (F:Fun K "_law_machine" "_law_machine" C5 f fd) (hm:mg "_law_machine"=some (.ref f)):NFn P w K mg base 7 C "_law_machine" Oc:=by
 refine F.newD hm (F.binds fun _ _ _ _ _ _ us hl=>match us,hl with | [_],_=>rfl) sc_law_machine (fun ds lf df ⟨_,_,_,_,_,e,_⟩=>by rw [e];rfl) fun cdv A outer s H E ds lf df hr ⟨S,ok,h1,h2,h3,e1,e2,e3⟩=>?_
 subst e1 e2 e3
 have ok0:MsOk (mk0 S):=⟨ok.p1,ok.p8,ok.ml,ok.mw,ok.bl,ok.bw,ok.h⟩
 refine P5 (C:=C) (i:=1) (lf:=lfM (mk0 S)) (df:=dfM (mk0 S)) (NU (ds:=[.list (S.pg.map A6),.list (S.mem.map PyData.int),.list (S.bx.map PyData.int),.int S.here]) sc_law_machine.nd rfl (Or.inl rfl) (by show 1 < 2;decide) rfl D0 (by walk_at "rm") rfl CM.at_ (Aa (C8 (AT (Ao (ds:=[.list (S.pg.map A6),.list (S.mem.map PyData.int),.list (S.bx.map PyData.int),.tuple [.bool S.tz,.bool S.tl],.int S.here]) (evv 0) Ab (Aj (by decide) rfl)) rfl T.b_list)) (Aa (C8 (AT (Ao (ds:=[.list (S.pg.map A6),.list (S.mem.map PyData.int),.list (S.bx.map PyData.int),.tuple [.bool S.tz,.bool S.tl],.int S.here]) (evv 0) Ab (Aj (by decide) rfl)) rfl T.b_list)) (Aa (C8 (AT (Ao (ds:=[.list (S.pg.map A6),.list (S.mem.map PyData.int),.list (S.bx.map PyData.int),.tuple [.bool S.tz,.bool S.tl],.int S.here]) (evv 0) Ab (Aj (by decide) rfl)) rfl T.b_list)) (Aa (Ao (ds:=[.list (S.pg.map A6),.list (S.mem.map PyData.int),.list (S.bx.map PyData.int),.tuple [.bool S.tz,.bool S.tl],.int S.here]) (evv 0) Ab (Aj (by decide) rfl)) Ad)))) ⟨mk0 S,ok0,rfl,rfl,rfl,rfl,rfl,rfl,rfl,rfl⟩) ?_
 exact Pn (Qa (lf2:=lfM S) (df2:=dfM S) (LB (ds:=[.list (S.bx.map PyData.int),.tuple [.bool S.tz,.bool S.tl],.int S.here,.int 3]) CM.cl D_put (by walk_at "rm") (pv 1) (fun R hC=>Bc (Dq (C8 (AT (Ao (ds:=[.list (S.pg.map A6),.list (S.mem.map PyData.int),.list (S.bx.map PyData.int),.tuple [.bool S.tz,.bool S.tl],.int S.here]) (evv 0) Ab (Aj (by decide) rfl)) rfl T.b_list))) (Bc (Dq (Ao (ds:=[.list (S.pg.map A6),.list (S.mem.map PyData.int),.list (S.bx.map PyData.int),.tuple [.bool S.tz,.bool S.tl],.int S.here]) (evv 0) Ab (Aj (by decide) rfl))) (Bc (Dq (Ao (ds:=[.list (S.pg.map A6),.list (S.mem.map PyData.int),.list (S.bx.map PyData.int),.tuple [.bool S.tz,.bool S.tl],.int S.here]) (evv 0) Ab (Aj (by decide) rfl))) (Bc (Dq Ab) Eu)))) ⟨mk0 S,S.bx,S.tz,S.tl,S.here,3,rfl,rfl,rfl,rfl,rfl⟩) (by rw [LC h1 h2 h3]) (by rw [LC h1 h2 h3])) (Q6 (pv 1))
def Hs (mst:Int) (ns:List Int):Int:=if (if (ns.length:Int) - 4 < mst then (ns.length:Int) - 4 else mst) > 1 then (if (ns.length:Int) - 4 < mst then (ns.length:Int) - 4 else mst) else 1
theorem FH {mst:Int} (hm:1≤mst∧mst≤50) (ns:List Int):1≤Hs mst ns∧Hs mst ns≤50:=by
 unfold Hs
 repeat' split
 all_goals omega
def manyN (mst:Int) (ns:List Int):Nat:=if Bb ns 2 % 9=4 then 0 else (Hs mst ns).toNat
theorem JK {mst:Int} (hm:1≤mst∧mst≤50) (ns:List Int):manyN mst ns≤50:=by
 have:=FH hm ns
 unfold manyN
 split <;> omega
def BT (ms:List Nat) (mst:Int) (ns:List Int):List PyData:=(List.range (manyN mst ns)).map fun k=>rowM ms (Bb ns (4 + k))
def Ct (mst:Int) (ns:List Int):List PyData:=(List.range (manyN mst ns + 1)).map fun k=>FA (Bb ns (3 + k) / 31)
theorem Nm (ms:List Nat) {mst:Int} (hmst:1≤mst∧mst≤50) (ns cs:List Int) {pl:Int} (h0:0≤pl) (h1:pl < 4096) (hc:∀c∈cs,0≤c∧c < 4096) (h16:16≤cs.length) (h128:cs.length≤128):PieceOk pl (textOf cs (Bb ns 2)) (BT ms mst ns) (Ct mst ns):=by
 obtain ⟨t1,t2,t3⟩:=MB hc h16 h128 (Bb ns 2)
 have hm:=JK hmst ns
 refine ⟨h0,h1,t2,t3,t1,?_,?_,fun r hr=>?_,fun y hy=>?_⟩
 ·unfold BT;rw [List.length_map,List.length_range];omega
 ·unfold BT Ct;rw [List.length_map,List.length_range,List.length_map,List.length_range]
 ·obtain ⟨k,_,rfl⟩:=List.mem_map.mp hr
  exact P0 _ _
 ·obtain ⟨k,_,rfl⟩:=List.mem_map.mp hy
  exact Jz _
def LN (ds:List PyData) (d:PyData):Prop:=∃(ns:List Int) (pg:List (Bool×Bool×Bool)) (cs bx:List Int) (b1 b2:Bool) (pl mst:Int) (ms:List Nat),ds=[.list (ns.map PyData.int),stD pg cs bx b1 b2 pl,.list (ms.map menS),.int mst]∧(1≤mst∧mst≤50)∧(0 < ms.length∧ms.length≤13∧∀j∈ms,j < 13)∧ns.length≤63∧16≤cs.length∧cs.length≤128∧d=.list (Ba pl (textOf cs (Bb ns 2)) (BT ms mst ns) (Ct mst ns))
theorem Je (T:TxtP K mg w.params) {f:Addr} {fd:FuncData} (D_law_cell:DFn P w K mg base 1 "_law_cell" G7) (D_law_row:DFn P w K mg base 3 "_law_row" Ql) (D_law_way:DFn P w K mg base 2 "_law_way" Ou) (D_law_text:DFn P w K mg base 1 "_law_text" Kr) (F:Fun K "_law_piece" "_law_piece" Dt f fd) (hm:mg "_law_piece"=some (.ref f)):DFn P w K mg base 4 "_law_piece" LN:=by
 refine F.data hm (F.binds fun _ _ _ _ _ _ us hl=>match us,hl with | [_,_,_,_],_=>rfl) sc_law_piece (fun ds d ⟨_,_,_,_,_,_,_,_,_,e,_⟩=>by rw [e];rfl) fun cdv A outer s H E ds d hr ⟨ns,pg,cs,bx,b1,b2,pl,mst,ms,e,hmst,hms,hns,h16,h128,e2⟩=>?_
 subst e e2
 have hlm:((List.map PyData.int ns).length:Int)=ns.length:=by rw [List.length_map]
 have hmr:=FH hmst ns
 have hmn:=JK hmst ns
 refine Ac (A2 (i:=4) (d:=.int (Hs mst ns)) sc_law_piece.nd rfl (Or.inl rfl) (Ap (At "max" (Aa Ab (Aa (At "min" (Aa (evv 3) (Aa (Ae (At "len" (Aa (evv 0) Ad) (by walk_at "cd") rfl T.b_len (by decide +kernel)) Ab (by walk_at "od")) Ad)) (by walk_at "cd") rfl T.b_min (by decide +kernel)) Ad)) (by walk_at "cd") rfl T.b_max (by decide +kernel)) (by rw [hlm];rfl))) ?_
 refine Ac (G1:=[some (.list (ns.map PyData.int)),some (stD pg cs bx b1 b2 pl),some (.list (ms.map menS)),some (.int mst),some (.int ((manyN mst ns:Nat):Int)),none,none]) ?_ ?_
 ·by_cases hc:Bb ns 2 % 9=4
  ·have e0:manyN mst ns=0:=by unfold manyN;rw [if_pos hc]
   rw [e0]
   exact Am (k:=true) (Al (Ae (An D_law_cell (by walk_at "rm") rfl (Aa (evv 0) (Aa Ab Ad)) ⟨ns,2,rfl,hns,by decide,rfl⟩) Ab (Bp (by decide))) Ab (BL (by walk_at "un") rfl rfl (by walk_at "dp") (by rw [hc];rfl)) (Ak _)) (fun _=>Ac (A2 (i:=4) sc_law_piece.nd rfl (Or.inl rfl) (Ap Ab rfl)) Af) (fun h=>by cases h)
  ·have e0:((manyN mst ns:Nat):Int)=Hs mst ns:=by unfold manyN;rw [if_neg hc];omega
   rw [e0]
   exact Am (k:=false) (Al (Ae (An D_law_cell (by walk_at "rm") rfl (Aa (evv 0) (Aa Ab Ad)) ⟨ns,2,rfl,hns,by decide,rfl⟩) Ab (Bp (by decide))) Ab (BL (by walk_at "un") rfl rfl (by walk_at "dp") (beq_eq_false_iff_ne.mpr hc)) (Ak _)) (fun h=>by cases h) (fun _=>Af)
 have hrl:(BT ms mst ns).length=manyN mst ns:=by unfold BT;rw [List.length_map,List.length_range]
 refine Ac (A2 (i:=5) (d:=.tuple (BT ms mst ns)) sc_law_piece.nd rfl (Or.inl rfl) (Ap (A8 "tuple" (Aa (Bi (ix:=[0,2]) (N:=["k","script","menu"]) (B:=bind1) (as:=List.range ((4 + ((manyN mst ns:Nat):Int)) - 4).toNat) (D:=fun (i:Nat)=>PyData.int (4 + (i:Int))) (fun _=>true) (fun (k:Nat)=>rowM ms (Bb ns (4 + k))) rfl (of_decide_eq_true (by kernel_rfl)) (AI (by decide))
  (Mz Ab (Ae Ab (evv 4) (by walk_at "od")) ⟨by decide,by decide,by omega,by omega⟩ rfl T.b_range) (by rw [List.length_range,sizeLine_eq];omega) (fun _ _=>BF _) (fun _ _ _ _ _=>Av (i:=0) (show List.Nodup (["k","script","menu"]:List Str) by decide +kernel) rfl (Or.inl rfl)) (fun a ha cl C s H fp=>BU) ?el) Ad) CN rfl T.b_tuple (by decide +kernel)) ?eq)) ?_
 case el=>
  intro k hk hP cl C s H fp
  have hk':k < 50:=by have:=List.mem_range.mp hk;omega
  exact An D_law_row (by walk_at "rm") rfl (Aa (An D_law_cell (by walk_at "rm") rfl (Aa (evv 1) (Aa (evv 0) Ad)) ⟨ns,4 + k,by rw [show (4:Int) + (k:Int)=((4 + k:Nat):Int) by omega],hns,by omega,rfl⟩) (Aa (evv 2) Ad)) ⟨_,ms,hms.1,hms.2.1,hms.2.2,rfl,rfl⟩
 case eq=>
  rw [AA,show ((4 + ((manyN mst ns:Nat):Int)) - 4).toNat=manyN mst ns by omega]
  rfl
 refine Ac (A2 (i:=6) (d:=.tuple (Ct mst ns)) sc_law_piece.nd rfl (Or.inl rfl) (Ap (A8 "tuple" (Aa (Bi (ix:=[0]) (N:=["k","script"]) (B:=bind1) (as:=List.range (((manyN mst ns:Nat):Int) + 1).toNat) (D:=fun (i:Nat)=>PyData.int (0 + (i:Int))) (fun _=>true) (fun (k:Nat)=>FA (Bb ns (3 + k) / 31)) rfl (of_decide_eq_true (by kernel_rfl)) (AI (by decide))
  (Fu (Ap (Ae (At "len" (Aa (evv 5) Ad) (by walk_at "cd") rfl T.b_len (by decide +kernel)) Ab (by walk_at "od")) (by rw [hrl])) (by omega) (by omega) rfl T.b_range) (by rw [List.length_range,sizeLine_eq];omega) (fun _ _=>BF _) (fun _ _ _ _ _=>Av (i:=0) (show List.Nodup (["k","script"]:List Str) by decide +kernel) rfl (Or.inl rfl)) (fun a ha cl C s H fp=>BU) ?el2) Ad) CN rfl T.b_tuple (by decide +kernel)) ?eq2)) ?_
 case el2=>
  intro k hk hP cl C s H fp
  have hk':k < 51:=by have:=List.mem_range.mp hk;omega
  exact An D_law_way (by walk_at "rm") rfl (Aa (Ae (An D_law_cell (by walk_at "rm") rfl (Aa (evv 1) (Aa (Ae Ab (evv 0) (by walk_at "od")) Ad)) ⟨ns,3 + k,by rw [show (3:Int) + (0 + (k:Int))=((3 + k:Nat):Int) by omega],hns,by omega,rfl⟩) Ab (EQ ⟨by decide,by decide⟩)) Ad) ⟨_,rfl,rfl⟩
 case eq2=>
  rw [AA,show (((manyN mst ns:Nat):Int) + 1).toNat=manyN mst ns + 1 by omega]
  rfl
 exact Ag (Ar (Ay (Aa (Ao (ds:=[.list (pg.map A6),.list (cs.map PyData.int),.list (bx.map PyData.int),.tuple [.bool b1,.bool b2],.int pl]) (evv 1) Ab (Aj (by decide) rfl)) (Aa (An D_law_text (by walk_at "rm") rfl (Aa (Ao (ds:=[.list (pg.map A6),.list (cs.map PyData.int),.list (bx.map PyData.int),.tuple [.bool b1,.bool b2],.int pl]) (evv 1) Ab (Aj (by decide) rfl)) (Aa (An D_law_cell (by walk_at "rm") rfl (Aa (evv 0) (Aa Ab Ad)) ⟨ns,2,rfl,hns,by decide,rfl⟩) Ad)) ⟨cs,_,rfl,h16,h128,rfl⟩) (Aa (evv 5) (Aa (evv 6) Ad)))) (by walk_at "sz")))
theorem Lj {l:List PyData} {n:Nat} (h:∀d∈l,LayD d n):LayD (.list l) (n + 1):=by
 obtain ⟨h1,h2⟩:=Nv h
 refine ⟨by simpa [PyData.canLay0] using h1,?_⟩
 simp [PyData.depth]
 omega
theorem lay_ints (l:List Int):LayD (.list (l.map PyData.int)) 2:=Lj fun d hd=>by
 obtain ⟨z,_,rfl⟩:=List.mem_map.mp hd
 exact By z 0
theorem GT (a b:Bool):LayD (.tuple [.bool a,.bool b]) 2:=FZ fun d hd=>by
 simp only [List.mem_cons,List.not_mem_nil,or_false] at hd
 rcases hd with rfl | rfl <;> exact JQ _ 0
theorem Ge (pg:List (Bool×Bool×Bool)):LayD (.list (pg.map A6)) 3:=Lj fun d hd=>by
 obtain ⟨z,_,rfl⟩:=List.mem_map.mp hd
 refine FZ fun d hd=>?_
 simp only [List.mem_cons,List.not_mem_nil,or_false] at hd
 rcases hd with rfl | rfl | rfl <;> exact JQ _ 0
theorem Gi (S:MS):LayD (staD S) 3:=FZ fun d hd=>by
 simp only [List.mem_cons,List.not_mem_nil,or_false] at hd
 rcases hd with rfl | rfl | rfl | rfl | rfl | rfl
 ·exact lay_ints _
 ·exact GT _ _
 ·exact By _ 1
 ·exact lay_ints _
 ·exact lay_ints _
 ·exact By _ 1
theorem Py {a b:Int} {s:Str} (h:PyData.canLay0 (.str s)=true):LayD (.tuple [.int a,.int b,.str s]) 2:=FZ fun d hd=>by
 simp only [List.mem_cons,List.not_mem_nil,or_false] at hd
 rcases hd with rfl | rfl | rfl
 ·exact By _ 0
 ·exact By _ 0
 ·exact ⟨h,by simp [PyData.depth]⟩
def N_ (ds:List PyData) (d:PyData):Prop:=(∃i:Int,ds=[.int i])∧d=.bool true
theorem S5 (T:TxtP K mg w.params) {f:Addr} {fd:FuncData} (F:Fun K "_law_whole" "_law_whole" DN f fd) (hm:mg "_law_whole"=some (.ref f)):DFn P w K mg base 1 "_law_whole" N_:=by
 refine F.data hm (F.binds fun _ _ _ _ _ _ us hl=>match us,hl with | [_],_=>rfl) Iw (fun ds d ⟨⟨_,e⟩,_⟩=>by rw [e];rfl) fun cdv A outer s H E ds d hr ⟨⟨i,e⟩,e2⟩=>?_
 subst e e2
 exact Ag (Ar (Ap (AZ (B9 (n:="int") (evv 0) rfl T.b_isinstance rfl T.b_int (by decide +kernel) (by rfl)) (fun _=>(BA (KF (B9 (n:="bool") (evv 0) rfl T.b_isinstance rfl T.b_bool (by decide +kernel) (by rfl))))) (by walk_at "bf")) rfl))
def Ik (ds:List PyData) (d:PyData):Prop:=∃(S:MS) (st:Int) (tx:List (Int×Int)) (ways:List PyData) (rows:List RR) (last:Option Int),RideOk S tx ways rows∧S.done=3∧PieceOk st tx (rows.map RR.D) ways∧(∀q∈tx,0≤q.1)∧ds=[(stD S.pg S.mem S.bx S.tz S.tl S.here),(.list (Ba st tx (rows.map RR.D) ways)),AQ last]∧d=.bool true
theorem Jd (T:Txt mg) (TP:TxtP K mg w.params) {C:Addr} (CM:ClsM K mg C) {CP:Addr} (CQ:ClsP K mg CP) (D_rode:DFn P w K mg base 3 "_law_rode" KI) (N_machine:NFn P w K mg base 7 C "_law_machine" Oc) (O_piece:OIFn P w K mg base 9 CP Se) (Y_ridden:YDFn P w K mg base 5 C "ridden" (K0 CP)) (D_whole:DFn P w K mg base 1 "_law_whole" N_) (D_worth:DFn P w K mg base 1 "_law_worth" Cs) (D_tt:DFn P w K mg base 2 "_law_told_truth" Of)
  (M_stored:MFn P w K mg base 1 C "stored" (fun ds d=>∃S:MS,ds=[mcD C S]∧d=.list (S.sto.map PyData.int))) (M_state:MFn P w K mg base 2 C "state" (fun ds d=>∃S:MS,ds=[mcD C S]∧d=staD S)) (M_cells:MFn P w K mg base 1 C "cells" (fun ds d=>∃S:MS,ds=[mcD C S]∧d=.list (S.mem.map PyData.int))) (M_boxes:MFn P w K mg base 1 C "boxes" (fun ds d=>∃S:MS,ds=[mcD C S]∧d=.list (S.bx.map PyData.int))) (M_truths:MFn P w K mg base 1 C "truths" (fun ds d=>∃S:MS,ds=[mcD C S]∧d=.tuple [.bool S.tz,.bool S.tl])) (M_place:MFn P w K mg base 1 C "place" (fun ds d=>∃S:MS,ds=[mcD C S]∧d=.int S.here)) (M_told:MFn P w K mg base 1 C "told" (fun ds d=>∃S:MS,ds=[mcD C S]∧d=.list (S.told.map PyData.int))) (M_done:MFn P w K mg base 1 C "done" (fun ds d=>∃S:MS,ds=[mcD C S]∧d=.int S.done)) (M_pages:MFn P w K mg base 1 C "pages" (fun ds d=>∃S:MS,ds=[mcD C S]∧d=.list (S.pg.map A6)))
  {f:Addr} {fd:FuncData} (F:Fun K "_law_right" "_law_right" Du f fd) (hm:mg "_law_right"=some (.ref f)):DFn P w K mg base 11 "_law_right" Ik:=by
 refine F.data hm (F.binds fun _ _ _ _ _ _ us hl=>match us,hl with | [_,_,_],_=>rfl) sc_law_right (fun ds d ⟨_,_,_,_,_,_,_,_,_,_,e,_⟩=>by rw [e];rfl) fun cdv A outer s H E ds d hr ⟨S,st,tx,ways,rows,last,ok,hd3,okp,htx,e1,e2⟩=>?_
 subst e1 e2
 obtain ⟨hwo,hwl,mm,hmm,hxo⟩:=KR (pg:=S.pg) (tx:=tx) (ways:=ways) (last:=last) ok.wok rows 0 ⟨AS S,S.mem,S.told,S.sto,none⟩ ok.rok ok.x0 (by rw [ok.wl];omega)
 obtain ⟨ww,hway,okw⟩:=Rq hwo
 obtain ⟨out,eo⟩:∃out,out=outR S tx ways last rows:=⟨_,rfl⟩
 change PyData.canLay0 (.str (outR S tx ways last rows).why)=true at hwl
 change (outR S tx ways last rows).way=ww.D at hway
 change RDok S.pg mm (outR S tx ways last rows).x at hxo
 have hride:∀R:OR,K0 CP (lfM S) (dfM S) [(pcD CP st tx (rows.map RR.D) ways),AQ last] (.tuple [.int (outR S tx ways last rows).k,.int ww.dn,.str (outR S tx ways last rows).why]) (lfM (BH (mOf S (outR S tx ways last rows).x) ww (outR S tx ways last rows).x.sp)) (dfM (BH (mOf S (outR S tx ways last rows).x) ww (outR S tx ways last rows).x.sp)):=fun _=>⟨S,st,tx,ways,rows,last,ww,ok,rfl,rfl,rfl,hway,okw,rfl,rfl,rfl⟩
 have hrode:KI [(stD S.pg S.mem S.bx S.tz S.tl S.here),(.list (Ba st tx (rows.map RR.D) ways)),AQ last] (dueD (outR S tx ways last rows)):=⟨S,st,tx,ways,rows,last,ok,htx,rfl,rfl⟩
 rw [←eo] at hwl hway hxo hride hrode
 obtain ⟨S1,eS⟩:∃S1,S1=BH (mOf S out.x) ww out.x.sp:=⟨_,rfl⟩
 rw [←eS] at hride
 have hsp:=hxo.sp.1
 refine Ac (A2 (i:=3) (d:=dueD out) sc_law_right.nd rfl (by first | exact Or.inl rfl | exact Or.inr rfl) (An D_rode (by walk_at "rm") rfl (Aa (evv 0) (Aa (evv 1) (Aa (evv 2) Ad))) hrode)) ?_
 refine Ac (A2 (i:=4) (d:=ww.D) sc_law_right.nd rfl (Or.inl rfl) (Ap (Ao (ds:=[.int out.k,.str out.why,out.way,.list (out.x.sp.map PyData.int),.list (out.x.mem.map PyData.int),.list (out.x.told.map PyData.int),.list (out.x.sto.map PyData.int)]) (evv 3) Ab (Aj (by decide) rfl)) hway)) ?_
 have hmk:Oc [(stD S.pg S.mem S.bx S.tz S.tl S.here)] (lfM S) (dfM S):=⟨S,ok.ms,ok.t0,ok.s0,hd3,rfl,rfl,rfl⟩
 refine MO (β:=OR) (Lo':=fun R=>LZ [(R.L,MZ K R S)]) (Io':=fun R=>TZ [(R.L,MZ K R S)]) (ro:=fun R=>[(5,R.a)]) (Go:=fun _=>[some (stD S.pg S.mem S.bx S.tz S.tl S.here),some (.list (Ba st tx (rows.map RR.D) ways)),some (AQ last),some (dueD out),some ww.D,none,none,none,none]) (fun R=>R.C=C) (L4 (β:=OR) (its:=[]) (P:=fun R=>R.C=C) (Lo:=OR.L) (Io:=fun R=>Oz K R (lfM S) (dfM S)) (ad:=OR.a) (j:=5) AE sc_law_right.nd rfl (by show 5∉[];decide) (Or.inl rfl) rfl (FE Bl N_machine (by walk_at "rm") rfl (Aa (evv 0) Ad) hmk)) fun R hC=>?_
 refine Cb (β:=OR) (Lo:=fun R6=>LZ [(R.L,MZ K R S),(R6.L,MZ K R6 S)]) (Io:=fun R6=>TZ [(R.L,MZ K R S),(R6.L,MZ K R6 S)]) (ro:=fun R6=>[(6,R6.a),(5,R.a)]) (Go:=fun _=>[some (stD S.pg S.mem S.bx S.tz S.tl S.here),some (.list (Ba st tx (rows.map RR.D) ways)),some (AQ last),some (dueD out),some ww.D,none,none,none,none]) (fun R6=>R6.C=C) (L4 (β:=OR) (its:=[(R.L,MZ K R S)]) (P:=fun R=>R.C=C) (Lo:=OR.L) (Io:=fun R=>Oz K R (lfM S) (dfM S)) (ad:=OR.a) (j:=6) (A1 Bj AE) sc_law_right.nd rfl (by show 6∉[5];decide) (Or.inl rfl) rfl (FE Bl N_machine (by walk_at "rm") rfl (Aa (evv 0) Ad) hmk)) fun R6 hC6=>?_
 have g2:Gds [(R.L,MZ K R S),(R6.L,MZ K R6 S)]:=A1 Bj (A1 Bj AE)
 refine AK (G1:=[some (stD S.pg S.mem S.bx S.tz S.tl S.here),some (.list (Ba st tx (rows.map RR.D) ways)),some (AQ last),some (dueD out),some ww.D,none,none,(some (pcD CP st tx (rows.map RR.D) ways)),none]) (Bs (i:=7) (d:=(pcD CP st tx (rows.map RR.D) ways)) sc_law_right.nd rfl (by show 7∉[6,5];decide) (Or.inl rfl) (R9 g2.fr (OE O_piece (by walk_at "rm") rfl CQ.at_ (Aa (Ao (ds:=Ba st tx (rows.map RR.D) ways) (evv 1) Ab (Aj (by decide) rfl)) (Aa (Ao (ds:=Ba st tx (rows.map RR.D) ways) (evv 1) Ab (Aj (by decide) rfl)) (Aa (Ao (ds:=Ba st tx (rows.map RR.D) ways) (evv 1) Ab (Aj (by decide) rfl)) (Aa (Ao (ds:=Ba st tx (rows.map RR.D) ways) (evv 1) Ab (Aj (by decide) rfl)) Ad)))) ⟨st,tx,rows.map RR.D,ways,okp,rfl,rfl,rfl⟩))) ?_
 have m5:((5:Nat),R.a)∈[(6,R6.a),(5,R.a)]:=List.mem_of_getElem? (i:=1) rfl
 have m6:((6:Nat),R6.a)∈[(6,R6.a),(5,R.a)]:=List.mem_of_getElem? (i:=0) rfl
 subst hC
 refine Cb (β:=OR) (Lo:=fun R'=>LZ ([]++(R'.L,MZ K R' S1)::[(R6.L,MZ K R6 S)])) (Io:=fun R'=>TZ ([]++(R'.L,MZ K R' S1)::[(R6.L,MZ K R6 S)])) (ro:=fun _=>[(6,R6.a),(5,R.a)]) (Go:=fun _=>[some (stD S.pg S.mem S.bx S.tz S.tl S.here),some (.list (Ba st tx (rows.map RR.D) ways)),some (AQ last),some (dueD out),some ww.D,none,none,(some (pcD CP st tx (rows.map RR.D) ways)),(some (.tuple [.int out.k,.int ww.dn,.str out.why]))]) (fun R'=>R'.C=R.C∧R'.a=R.a) (Po (A:=[]) (B:=[(R6.L,MZ K R6 S)]) (R:=R) (lf:=lfM S) (df:=dfM S) (lf':=lfM S1) (df':=dfM S1) (j:=8) (d:=(.tuple [.int out.k,.int ww.dn,.str out.why])) sc_law_right.nd rfl (by show 8∉[6,5];decide) (Or.inl rfl) (Dm (A:=[]) (B:=[(R6.L,MZ K R6 S)]) g2 (fun R'=>A1 Bj (A1 Bj AE)) Y_ridden (by walk_at "rm") rfl m5 (pv 5) (Bc (BG (pv 7) rfl) (Bc (BG (pv 2) rfl) Eu)) (hride R) rfl)) fun R' ⟨eC,eR⟩=>?_
 refine Gj (A:=[]) (B:=[(R6.L,MZ K R6 S)]) (it:=(R'.L,MZ K R' S1)) (i:=5) (ad:=R.a) (d:=mcD R.C S1) (rs1:=[(6,R6.a)]) rfl (A1 Bj (A1 Bj AE)) m5 (fun q hq=>by rw [List.mem_singleton.mp hq];exact m6) (fun H i=>by rw [←eR,←eC];exact i.dv) ?_
 show PSs _ _ (zV K (LZ ([]++(R6.L,MZ K R6 S)::[])) (TZ ([]++(R6.L,MZ K R6 S)::[])) [(6,R6.a)] [some (stD S.pg S.mem S.bx S.tz S.tl S.here),some (.list (Ba st tx (rows.map RR.D) ways)),some (AQ last),some (dueD out),some ww.D,(some (mcD R.C S1)),none,(some (pcD CP st tx (rows.map RR.D) ways)),(some (.tuple [.int out.k,.int ww.dn,.str out.why]))] _ _)
 have g1:∀(R:OR) (S:MS),Gds [(R.L,MZ K R S)]:=fun R S=>A1 Bj AE
 have lf_:=Py (a:=out.k) (b:=ww.dn) hwl
 have esto:S1.sto=out.x.sto:=by rw [eS];rfl
 have emem:S1.mem=out.x.mem:=by rw [eS];rfl
 have etold:S1.told=out.x.told:=by rw [eS];rfl
 have ebx:S1.bx=ww.bs.map (Bz out.x.sp):=by rw [eS];rfl
 have etz:S1.tz=A_ out.x.sp ww.t1:=by rw [eS];rfl
 have etl:S1.tl=A_ out.x.sp ww.t2:=by rw [eS];rfl
 have ehe:S1.here=Bz out.x.sp ww.pl:=by rw [eS];rfl
 have edo:S1.done=3 + ww.dn:=by rw [eS,←hd3];rfl
 have epg:S1.pg=S.pg:=by rw [eS];rfl
 refine C_ (AN (g1 R6 S).ok (As (AX (BB (k:=false) (k':=false) (As (AD (k:=true) (AB (B9 (n:="tuple") (evv 8) rfl T.b_isinstance rfl T.b_tuple (by decide +kernel) (by rfl)))) rfl) (fun _=>BB (k:=false) (k':=false) (Al (evv 8) (AG (ds:=[.int out.k,.int ww.dn,.str out.why]) (Aa (Ao (ds:=[.int out.k,.str out.why,out.way,.list (out.x.sp.map PyData.int),.list (out.x.mem.map PyData.int),.list (out.x.told.map PyData.int),.list (out.x.sto.map PyData.int)]) (evv 3) Ab (Aj (by decide) rfl)) (Aa (Aq (ds:=[.int ww.dn,.tuple (ww.bs.map rcD),.tuple [trD ww.t1,trD ww.t2],rcD ww.pl]) (evv 4) Ab (Aj (by decide) rfl)) (Aa (Ao (ds:=[.int out.k,.str out.why,out.way,.list (out.x.sp.map PyData.int),.list (out.x.mem.map PyData.int),.list (out.x.told.map PyData.int),.list (out.x.sto.map PyData.int)]) (evv 3) Ab (Aj (by decide) rfl)) Ad))) (by walk_at "sz")) (BI (by walk_at "un") lf_.1 lf_.1 (Nat.le_trans (Nat.min_le_left _ _) (Nat.le_trans lf_.2 (by decide))) (by rw [Br _ lf_.1];rfl)) (Ak _)) (fun _=>BR (Al (Ap (AJ CM.cl M_stored (by walk_at "rm") (evv 5) ⟨S1,rfl,rfl⟩) (by rw [esto])) (Ao (ds:=[.int out.k,.str out.why,out.way,.list (out.x.sp.map PyData.int),.list (out.x.mem.map PyData.int),.list (out.x.told.map PyData.int),.list (out.x.sto.map PyData.int)]) (evv 3) Ab (Aj (by decide) rfl)) (BI (by walk_at "un") (lay_ints out.x.sto).1 (lay_ints out.x.sto).1 (Nat.le_trans (Nat.min_le_left _ _) (Nat.le_trans (lay_ints out.x.sto).2 (by decide))) (by rw [Br _ (lay_ints out.x.sto).1];rfl)) (Ak _)))))) rfl)) ?_
 have m6':((6:Nat),R6.a)∈[(6,R6.a)]:=List.mem_cons_self
 refine Qu (A:=[]) (B:=[]) (R:=R6) (lf:=lfM S) (df:=dfM S) (lf':=lfM S1) (df':=dfM S1) (fun R'=>A1 (Bj (S:=S1)) AE) (Dm (A:=[]) (B:=[]) (d:=(.tuple [.int out.k,.int ww.dn,.str out.why])) (A1 Bj AE) (fun R'=>A1 (Bj (S:=S1)) AE) (by rw [hC6];exact Y_ridden) (by walk_at "rm") rfl m6' (pv 6) (Bc (BG (pv 7) rfl) (Bc (BG (pv 2) rfl) Eu)) (hride R6) rfl) (evv 8) (BI (by walk_at "un") lf_.1 lf_.1 (Nat.le_trans (Nat.min_le_left _ _) (Nat.le_trans lf_.2 (by decide))) (by rw [Br _ lf_.1];rfl)) (Ak _) (fun R' eC' eR'=>?st) (fun R' eC' eR'=>?_)
 case st=>
  exact QT (g1 R' S1).ok (Cq (i:=6) (a:=R6.a) (d1:=mcD R.C S1) m6' fun H t=>by rw [←eR',←hC6,←eC'];exact (tz_one.mp t).dv) (Al (AJ CM.cl M_state (by walk_at "rm") (evv 6) ⟨S1,rfl,rfl⟩) (AJ CM.cl M_state (by walk_at "rm") (evv 5) ⟨S1,rfl,rfl⟩) (BI (by walk_at "un") (Gi S1).1 (Gi S1).1 (Nat.le_trans (Nat.min_le_left _ _) (Nat.le_trans (Gi S1).2 (by decide))) (by rw [Br _ (Gi S1).1];rfl)) (Ak _))
 refine GB (Cq (i:=6) (a:=R6.a) (d1:=mcD R.C S1) m6' fun H t=>by rw [←eR',←hC6,←eC'];exact (tz_one.mp t).dv) ?_
 refine Ac (Am (k:=false) (As (AX (BB (k:=false) (k':=false) (As (AD (k:=true) (AB (An D_whole (by walk_at "rm") rfl (Aa (Aq (ds:=[.int out.k,.int ww.dn,.str out.why]) (evv 8) Ab (Aj (by decide) rfl)) Ad) ⟨⟨_,rfl⟩,rfl⟩))) rfl) (fun _=>BB (k:=false) (k':=false) (As (AD (k:=true) (AB (An D_whole (by walk_at "rm") rfl (Aa (Aq (ds:=[.int out.k,.int ww.dn,.str out.why]) (evv 8) Ab (Aj (by decide) rfl)) Ad) ⟨⟨_,rfl⟩,rfl⟩))) rfl) (fun _=>BR (Al (Ap (AJ CM.cl M_cells (by walk_at "rm") (evv 5) ⟨S1,rfl,rfl⟩) (by rw [emem])) (Ao (ds:=[.int out.k,.str out.why,out.way,.list (out.x.sp.map PyData.int),.list (out.x.mem.map PyData.int),.list (out.x.told.map PyData.int),.list (out.x.sto.map PyData.int)]) (evv 3) Ab (Aj (by decide) rfl)) (BI (by walk_at "un") (lay_ints out.x.mem).1 (lay_ints out.x.mem).1 (Nat.le_trans (Nat.min_le_left _ _) (Nat.le_trans (lay_ints out.x.mem).2 (by decide))) (by rw [Br _ (lay_ints out.x.mem).1];rfl)) (Ak _)))))) rfl) (fun h=>by cases h) (fun _=>Af)) ?_
 refine Ac (Am (k:=false) (Al (Ap (AJ CM.cl M_boxes (by walk_at "rm") (evv 5) ⟨S1,rfl,rfl⟩) (by rw [ebx])) (Ap (Bi (ix:=[3]) (N:=["recipe","due"]) (B:=bind1) (as:=ww.bs) (D:=rcD) (fun _=>true) (fun r=>PyData.int (Bz out.x.sp r)) rfl (of_decide_eq_true (by kernel_rfl)) (AI (by decide)) (BW (Aq (ds:=[.int ww.dn,.tuple (ww.bs.map rcD),.tuple [trD ww.t1,trD ww.t2],rcD ww.pl]) (evv 4) Ab (Aj (by decide) rfl))) (by rw [okw.bl,sizeLine_eq];decide) (fun _ _=>BF _) (fun _ _ _ _ _=>Av (i:=0) (show List.Nodup (["recipe","due"]:List Str) by decide +kernel) rfl (Or.inl rfl)) (fun a ha cl C s H fp=>BU) ?el1) ?eq1) (BI (by walk_at "un") (lay_ints (ww.bs.map (Bz out.x.sp))).1 (lay_ints (ww.bs.map (Bz out.x.sp))).1 (Nat.le_trans (Nat.min_le_left _ _) (Nat.le_trans (lay_ints (ww.bs.map (Bz out.x.sp))).2 (by decide))) (by rw [Br _ (lay_ints (ww.bs.map (Bz out.x.sp))).1];rfl)) (Ak _)) (fun h=>by cases h) (fun _=>Af)) ?_
 case el1=>
  intro r hr1 hP cl C s H fp
  exact An D_worth (by walk_at "rm") rfl (Aa (evv 0) (Aa (Ao (ds:=[.int out.k,.str out.why,out.way,.list (out.x.sp.map PyData.int),.list (out.x.mem.map PyData.int),.list (out.x.told.map PyData.int),.list (out.x.sto.map PyData.int)]) (evv 1) Ab (Aj (by decide) rfl)) Ad)) (Gc (okw.b r hr1) hsp)
 case eq1=>rw [AA,List.map_map];rfl
 refine Ac (Am (k:=false) (Al (Ap (AJ CM.cl M_truths (by walk_at "rm") (evv 5) ⟨S1,rfl,rfl⟩) (by rw [etz,etl])) (AG (ds:=[.bool (A_ out.x.sp ww.t1),.bool (A_ out.x.sp ww.t2)]) (Aa (An D_tt (by walk_at "rm") rfl (Aa (Aq (ds:=[trD ww.t1,trD ww.t2]) (Aq (ds:=[.int ww.dn,.tuple (ww.bs.map rcD),.tuple [trD ww.t1,trD ww.t2],rcD ww.pl]) (evv 4) Ab (Aj (by decide) rfl)) Ab (Aj (by decide) rfl)) (Aa (Ao (ds:=[.int out.k,.str out.why,out.way,.list (out.x.sp.map PyData.int),.list (out.x.mem.map PyData.int),.list (out.x.told.map PyData.int),.list (out.x.sto.map PyData.int)]) (evv 3) Ab (Aj (by decide) rfl)) Ad)) (Ii okw.t1 hsp)) (Aa (An D_tt (by walk_at "rm") rfl (Aa (Aq (ds:=[trD ww.t1,trD ww.t2]) (Aq (ds:=[.int ww.dn,.tuple (ww.bs.map rcD),.tuple [trD ww.t1,trD ww.t2],rcD ww.pl]) (evv 4) Ab (Aj (by decide) rfl)) Ab (Aj (by decide) rfl)) (Aa (Ao (ds:=[.int out.k,.str out.why,out.way,.list (out.x.sp.map PyData.int),.list (out.x.mem.map PyData.int),.list (out.x.told.map PyData.int),.list (out.x.sto.map PyData.int)]) (evv 3) Ab (Aj (by decide) rfl)) Ad)) (Ii okw.t2 hsp)) Ad)) (by walk_at "sz")) (BI (by walk_at "un") (GT (A_ out.x.sp ww.t1) (A_ out.x.sp ww.t2)).1 (GT (A_ out.x.sp ww.t1) (A_ out.x.sp ww.t2)).1 (Nat.le_trans (Nat.min_le_left _ _) (Nat.le_trans (GT (A_ out.x.sp ww.t1) (A_ out.x.sp ww.t2)).2 (by decide))) (by rw [Br _ (GT (A_ out.x.sp ww.t1) (A_ out.x.sp ww.t2)).1];rfl)) (Ak _)) (fun h=>by cases h) (fun _=>Af)) ?_
 refine Ac (Am (k:=false) (As (AX (BB (k:=false) (k':=false) (Al (Ap (AJ CM.cl M_place (by walk_at "rm") (evv 5) ⟨S1,rfl,rfl⟩) (by rw [ehe])) (An D_worth (by walk_at "rm") rfl (Aa (Aq (ds:=[.int ww.dn,.tuple (ww.bs.map rcD),.tuple [trD ww.t1,trD ww.t2],rcD ww.pl]) (evv 4) Ab (Aj (by decide) rfl)) (Aa (Ao (ds:=[.int out.k,.str out.why,out.way,.list (out.x.sp.map PyData.int),.list (out.x.mem.map PyData.int),.list (out.x.told.map PyData.int),.list (out.x.sto.map PyData.int)]) (evv 3) Ab (Aj (by decide) rfl)) Ad)) (Gc okw.p hsp)) (BI (by walk_at "un") (By (Bz out.x.sp ww.pl) 0).1 (By (Bz out.x.sp ww.pl) 0).1 (Nat.le_trans (Nat.min_le_left _ _) (Nat.le_trans (By (Bz out.x.sp ww.pl) 0).2 (by decide))) (by rw [Br _ (By (Bz out.x.sp ww.pl) 0).1];rfl)) (Ak _)) (fun _=>BR (Al (Ap (AJ CM.cl M_told (by walk_at "rm") (evv 5) ⟨S1,rfl,rfl⟩) (by rw [etold])) (Ao (ds:=[.int out.k,.str out.why,out.way,.list (out.x.sp.map PyData.int),.list (out.x.mem.map PyData.int),.list (out.x.told.map PyData.int),.list (out.x.sto.map PyData.int)]) (evv 3) Ab (Aj (by decide) rfl)) (BI (by walk_at "un") (lay_ints out.x.told).1 (lay_ints out.x.told).1 (Nat.le_trans (Nat.min_le_left _ _) (Nat.le_trans (lay_ints out.x.told).2 (by decide))) (by rw [Br _ (lay_ints out.x.told).1];rfl)) (Ak _))))) rfl) (fun h=>by cases h) (fun _=>Af)) ?_
 refine Ac (Am (k:=false) (Al (Ap (At "len" (ds:=[.list []]) (Aa (Ap (Bi (ix:=[]) (N:=["truth"]) (B:=bind1) (as:=[S1.tz,S1.tl]) (D:=PyData.bool) (fun _=>false) (fun b=>PyData.bool b) rfl (of_decide_eq_true (by kernel_rfl)) (AI (by decide)) (BW (AJ CM.cl M_truths (by walk_at "rm") (evv 5) ⟨S1,rfl,rfl⟩)) (by rw [sizeLine_eq];show 2≤16777216;decide) (fun _ _=>BF _) (fun _ _ _ _ _=>Av (i:=0) (show List.Nodup (["truth"]:List Str) by decide +kernel) rfl (Or.inl rfl)) ?ht ?el2) rfl) Ad) Gm rfl T.b_len (by decide +kernel)) rfl) Ab Qo (Ak _)) (fun h=>by cases h) (fun _=>Af)) ?_
 case ht=>
  intro b hb cl C s H fp
  exact Sk (As (AD (k:=true) (AB (B9 (n:="bool") (evv 0) rfl T.b_isinstance rfl T.b_bool (by decide +kernel) (by rfl)))) rfl)
 case el2=>intro b hb hP;cases hP
 exact Ag (Ar (AZ (k:=true) (AC (Ap (AJ CM.cl M_done (by walk_at "rm") (evv 5) ⟨S1,rfl,rfl⟩) (by rw [edo])) (Ae Ab (Aq (ds:=[.int ww.dn,.tuple (ww.bs.map rcD),.tuple [trD ww.t1,trD ww.t2],rcD ww.pl]) (evv 4) Ab (Aj (by decide) rfl)) Bk) (BL (by walk_at "un") (By (3 + ww.dn) 0).1 (By (3 + ww.dn) 0).1 (Nat.le_trans (Nat.min_le_left _ _) (Nat.le_trans (By (3 + ww.dn) 0).2 (by decide))) (Br _ (By (3 + ww.dn) 0).1)) (Ak _)) (fun _=>BA (AC (Ap (AJ CM.cl M_pages (by walk_at "rm") (evv 5) ⟨S1,rfl,rfl⟩) (by rw [epg])) (Ao (ds:=[.list (S.pg.map A6),.list (S.mem.map PyData.int),.list (S.bx.map PyData.int),.tuple [.bool S.tz,.bool S.tl],.int S.here]) (evv 0) Ab (Aj (by decide) rfl)) (BL (by walk_at "un") (Ge S.pg).1 (Ge S.pg).1 (Nat.le_trans (Nat.min_le_left _ _) (Nat.le_trans (Ge S.pg).2 (by decide))) (Br _ (Ge S.pg).1)) (Ak _))) (fun h=>by cases h)))
theorem Lx:∀rows:List PyData,(∀r∈rows,RowOk r)→∃rs:List RR,rows=rs.map RR.D∧∀r∈rs,r.ok
 | [],_=>⟨[],rfl,fun r h=>by cases h⟩
 | d::ds,h=>by
   obtain ⟨rs,e,hr⟩:=Lx ds fun r hr=>h r (List.mem_cons_of_mem _ hr)
   obtain ⟨r,e1,h1⟩:=RA (h d List.mem_cons_self)
   exact ⟨r::rs,by rw [List.map_cons,e,e1],fun q hq=>by
    rcases List.mem_cons.mp hq with rfl | hq
    ·exact h1
    ·exact hr q hq⟩
theorem HP {b l:Int}:∀(ps:List (Int×Int)) (a:Int),-1≤a→Bw b l a ps→∀q∈ps,0≤q.1
 | [],_,_,_=>fun q hq=>by cases hq
 | p::ps,a,ha,⟨x1,x2,x3,x4,x5⟩=>fun q hq=>by
   rcases List.mem_cons.mp hq with rfl | hq
   ·omega
   ·exact HP ps p.1 (by omega) x5 q hq
theorem Ox {pg:List (Bool×Bool×Bool)} {cs bx:List Int} {b1 b2:Bool} {pl st:Int} {tx:List (Int×Int)} {rows ways:List PyData} (h:StOk pg cs bx pl) (hp:PieceOk st tx rows ways) (last:Option Int):Ik [stD pg cs bx b1 b2 pl,.list (Ba st tx rows ways),AQ last] (.bool true):=by
 obtain ⟨rs,rfl,hr⟩:=Lx rows hp.rok
 have r60:=hp.r60
 have wl:=hp.wl
 rw [List.length_map] at r60 wl
 exact ⟨⟨pg,cs,bx,pl,b1,b2,[],[],3⟩,st,tx,ways,rs,last,⟨⟨h.g1,h.g8,h.cl,h.cr,h.bl,h.br,h.p0,h.p1⟩,rfl,rfl,by have:=hp.p60;omega,hr,r60,hp.wok,wl⟩,rfl,hp,HP tx _ (by decide) hp.pok,rfl,rfl⟩
def whoL (cs:List Int) (n:Nat):List (Int×Int):=(List.range n).map fun (k:Nat)=>((k:Int),cs.getD k 0)
theorem Kv {cs:List Int} (hc:∀c∈cs,0≤c∧c < 4096):∀n:Nat,n≤cs.length→n≤60→Bw 4096 0 (-1) (whoL cs n)∧FL (-1) (whoL cs n) < (n:Int)∧(whoL cs n).length=n
 | 0,_,_=>⟨trivial,(by decide:(-1:Int) < ((0:Nat):Int)),rfl⟩
 | n + 1,hn,h60=>by
   obtain ⟨h1,h2,h3⟩:=Kv hc n (by omega) (by omega)
   have hg:0≤cs.getD n 0∧cs.getD n 0 < 4096:=by
    have hl:n < cs.length:=by omega
    rw [List.getD_eq_getElem?_getD,List.getElem?_eq_getElem hl]
    exact hc _ (List.getElem_mem hl)
   have e:whoL cs (n + 1)=whoL cs n++[((n:Int),cs.getD n 0)]:=by unfold whoL;rw [List.range_succ,List.map_append];rfl
   rw [e]
   refine ⟨C4 (by show (n:Int) < 4096;omega) hg.1 hg.2 _ _ h1 h2,?_,by rw [List.length_append,h3];rfl⟩
   rw [CW]
   show (n:Int) < ((n + 1:Nat):Int)
   omega
theorem PieceOk.text {st:Int} {ps qs:List (Int×Int)} {rows ways:List PyData} (h:PieceOk st ps rows ways) (h1:Bw 4096 0 (-1) qs) (h2:1≤qs.length) (h3:qs.length≤60):PieceOk st qs rows ways:=⟨h.s0,h.s1,h2,h3,h1,h.r60,h.wl,h.rok,h.wok⟩
theorem Rh (T:Txt mg) {f:Addr} {fd:FuncData} (RN:RNFn P w K mg base 2 "_law_state" Ni JW) (D_cell:DFn P w K mg base 1 "_law_cell" G7) (D_law_piece:DFn P w K mg base 4 "_law_piece" LN) (D_right:DFn P w K mg base 11 "_law_right" Ik) (F:Fun K "law" "law" Os f fd):FnOk P w K mg base CX0 20 f fd ["script"] (spD K K_):=by
 refine F.dataOk sc_law (fun ds d ⟨_,e,_⟩=>by rw [e];rfl) fun cdv A outer s H E ds d hr ⟨ns,e,hns,e2⟩=>?_
 subst e e2
 refine Ot (i:=1) sc_law.nd rfl (by first | exact Or.inl rfl | exact Or.inr rfl) rfl RN (by walk_at "rm") rfl (Aa (evv 0) Ad) ⟨ns,rfl,hns⟩ ?_
 rintro ws p ⟨pg0,cs,bx,b1,b2,pl,hst0,rfl⟩
 have h1:((1:Nat),p)∈[(1,p)]:=List.mem_cons_self
 obtain ⟨pg,epg⟩:∃pg:List (Bool×Bool×Bool),pg=pg0.map fun q=>(q.1,true,q.2.2):=⟨_,rfl⟩
 have e0:pg.map A6=(pg0.filter fun _=>true).map fun q=>A6 (q.1,true,q.2.2):=by rw [AA,epg,List.map_map];rfl
 have g80:=hst0.g8
 refine AK (I1:=KL K p [.list (pg.map A6),.list (cs.map PyData.int),.list (bx.map PyData.int),.tuple [.bool b1,.bool b2],.int pl]) (QR (z:=0) (d:=.list (pg.map A6)) h1 (pv 1) (Nf PQ (Cq h1 fun H t=>t.dv) ?cmp ?nl) Ab (by decide) (by show (0:Int) < 5;decide)) ?_
 case cmp=>
  rw [e0]
  exact Nh (ix:=[]) (N:=["page"]) (B:=bind1) (as:=pg0) (D:=A6) (fun _=>true) (fun q=>A6 (q.1,true,q.2.2)) rfl (of_decide_eq_true (by kernel_rfl)) (AI (by decide)) (Ij (Ao (ds:=[.list (pg0.map A6),.list (cs.map PyData.int),.list (bx.map PyData.int),.tuple [.bool b1,.bool b2],.int pl]) (evv 1) Ab (Aj (by decide) rfl))) (by rw [sizeLine_eq];omega) (fun _ _=>BF _) (fun _ _ _ _ _=>Av (i:=0) (show List.Nodup (["page"]:List Str) by decide +kernel) rfl (Or.inl rfl)) (fun a ha cl C s H fp=>BU) (fun q hq hP cl C s H fp=>AG (ds:=[.bool q.1,.bool true,.bool q.2.2]) (Aa (Aq (ds:=[.bool q.1,.bool q.2.1,.bool q.2.2]) (evv 0) Ab (Aj (by decide) rfl)) (Aa J6 (Aa (Aq (ds:=[.bool q.1,.bool q.2.1,.bool q.2.2]) (evv 0) Ab (Aj (by decide) rfl)) Ad))) (by walk_at "sz"))
 case nl=>exact Ck fun d hd=>by obtain ⟨q,_,rfl⟩:=List.mem_map.mp hd;rfl
 refine GB (Cq h1 fun H t=>t.dv) ?_
 have hst:StOk pg cs bx pl:=⟨by rw [epg,List.length_map];exact hst0.g1,by rw [epg,List.length_map];exact hst0.g8,by rw [epg,List.length_map];exact hst0.cl,hst0.cr,hst0.bl,hst0.br,hst0.p0,hst0.p1⟩
 have g1:=hst.g1
 have g8:=hst.g8
 have cl:=hst.cl
 have h16:16≤cs.length:=by omega
 have h128:cs.length≤128:=by omega
 refine Ng (i:=2) (R:=fun z=>z=.list (([10,10,12,9,2,0,8,3,12]:List Nat).map menS)) ?n1 ?n2 ?n3 ?n4 ?n5 (hs:=?n6) (hf:=?n7)
 case n1=>exact sc_law.nd
 case n2=>exact rfl
 case n3=>exact Or.inl rfl
 case n6=>exact rfl
 case n7=>first | exact .inl rfl | exact .inr rfl
 case n4=>
  with_reducible refine Rp (d:=.list [.str "store",.str "store",.str "test",.str "load",.str "cut",.str "set",.str "addn",.str "add",.str "test"]) ?_ ?_
  ·with_reducible refine Ay ?_ ?_
   ·with_reducible exact Dd (Dd (Dd (Dd (Dd (Dd (Dd (Dd (Dd Ad))))))))
   ·rw [sizeLine_eq]
    show 9≤16777216
    decide
  ·exact rfl
 intro dm hdm
 subst hdm
 have hpo:PieceOk pl (textOf cs (Bb ns 2)) (BT [10,10,12,9,2,0,8,3,12] 50 ns) (Ct 50 ns):=Nm [10,10,12,9,2,0,8,3,12] (by decide) ns cs hst.p0 hst.p1 hst.cr h16 h128
 refine Ac (A2 (i:=3) (d:=(.list (Ba pl (textOf cs (Bb ns 2)) (BT [10,10,12,9,2,0,8,3,12] 50 ns) (Ct 50 ns)))) sc_law.nd rfl (by first | exact Or.inl rfl | exact Or.inr rfl) (An D_law_piece (by walk_at "rm") rfl (Aa (evv 0) (Aa (evv 1) (Aa (evv 2) (Aa Ab Ad)))) ⟨ns,pg,cs,bx,b1,b2,pl,50,[10,10,12,9,2,0,8,3,12],rfl,by decide,by decide,hns,h16,h128,rfl⟩)) ?_
 obtain ⟨n,hn⟩:∃n:Nat,(if (cs.length:Int) < 60 then (cs.length:Int) else 60)=(n:Int):=⟨(if (cs.length:Int) < 60 then (cs.length:Int) else 60).toNat,by split <;> omega⟩
 have hn1:1≤n∧n≤cs.length∧n≤60:=by split at hn <;> omega
 obtain ⟨w1,w2,w3⟩:=Kv hst.cr n hn1.2.1 hn1.2.2
 obtain ⟨o1,_,o3⟩:=Kv hst.cr 1 (by omega) (by decide)
 refine Ac (A2 (i:=4) (d:=.tuple ((whoL cs n).map prD)) sc_law.nd rfl (by first | exact Or.inl rfl | exact Or.inr rfl) (Ap (A8 "tuple" (Aa (Bi (ix:=[1]) (N:=["k","state"]) (B:=bind1) (as:=List.range (n:Int).toNat) (D:=fun (i:Nat)=>PyData.int (0 + (i:Int))) (fun _=>true) (fun (k:Nat)=>prD ((k:Int),cs.getD k 0)) rfl (of_decide_eq_true (by kernel_rfl)) (AI (by decide)) (Fu (Ap (At "min" (ds:=[.int 60,.int (cs.length:Int)]) (Aa Ab (Aa (Ap (At "len" (Aa (Ao (ds:=[.list (pg.map A6),.list (cs.map PyData.int),.list (bx.map PyData.int),.tuple [.bool b1,.bool b2],.int pl]) (evv 1) Ab (Aj (by decide) rfl)) Ad) Gm rfl T.b_len (by decide +kernel)) (by rw [List.length_map])) Ad)) (Nn rfl) rfl T.b_min (by decide +kernel)) (congrArg PyData.int hn)) (by omega) (by omega) rfl T.b_range) (by rw [List.length_range,sizeLine_eq];omega) (fun _ _=>BF _) (fun _ _ _ _ _=>Av (i:=0) (show List.Nodup (["k","state"]:List Str) by decide +kernel) rfl (Or.inl rfl)) (fun a ha cl C s H fp=>BU) ?el) Ad) CN rfl T.b_tuple (by decide +kernel)) ?eq)) ?_
 case el=>
  intro k hk hP cl C s H fp
  have hk':k < n:=by have:=List.mem_range.mp hk;omega
  exact AG (ds:=[.int (k:Int),.int (cs.getD k 0)]) (Aa (Ap (evv 0) (by rw [Int.zero_add])) (Aa (Ap (Ao (Ao (ds:=[.list (pg.map A6),.list (cs.map PyData.int),.list (bx.map PyData.int),.tuple [.bool b1,.bool b2],.int pl]) (evv 1) Ab (Aj (by decide) rfl)) (Ap (evv 0) (show _=PyData.int (k:Int) by rw [Int.zero_add])) (AW (Int.natCast_nonneg k) (by omega))) (by rw [Int.toNat_natCast])) Ad)) (by walk_at "sz")
 case eq=>
  rw [AA,Int.toNat_natCast]
  unfold whoL
  rw [List.map_map]
  rfl
 refine Ac (G1:=[some (.list (ns.map PyData.int)),some (stD pg cs bx b1 b2 pl),some (.list (([10,10,12,9,2,0,8,3,12]:List Nat).map menS)),some (.list (Ba pl (textOf cs (Bb ns 2)) (BT [10,10,12,9,2,0,8,3,12] 50 ns) (Ct 50 ns))),some (.tuple ((whoL cs n).map prD)),none])
  (KQ (k:=0) (as:=[textOf cs (Bb ns 2),whoL cs 1,whoL cs n]) (D:=fun l=>PyData.tuple (l.map prD)) (g:=C2 5) (B:=Ku 5) (fun _=>[some (.list (ns.map PyData.int)),some (stD pg cs bx b1 b2 pl),some (.list (([10,10,12,9,2,0,8,3,12]:List Nat).map menS)),some (.list (Ba pl (textOf cs (Bb ns 2)) (BT [10,10,12,9,2,0,8,3,12] 50 ns) (Ct 50 ns))),some (.tuple ((whoL cs n).map prD)),none]) PassesOwn.never rfl (Ij (Ay (ds:=[.tuple ((textOf cs (Bb ns 2)).map prD),.tuple ((whoL cs 1).map prD),.tuple ((whoL cs n).map prD)]) (Aa (Ao (ds:=Ba pl (textOf cs (Bb ns 2)) (BT [10,10,12,9,2,0,8,3,12] 50 ns) (Ct 50 ns)) (evv 3) Ab (Aj (by decide) rfl)) (Aa (AG (ds:=[prD (0,cs.getD 0 0)]) (Aa (AG (ds:=[.int 0,.int (cs.getD 0 0)]) (Aa Ab (Aa (Ao (Ao (ds:=[.list (pg.map A6),.list (cs.map PyData.int),.list (bx.map PyData.int),.tuple [.bool b1,.bool b2],.int pl]) (evv 1) Ab (Aj (by decide) rfl)) Ab (AW (by decide) (by omega))) Ad)) (by walk_at "sz")) Ad) (by walk_at "sz")) (Aa (evv 4) Ad))) (by walk_at "sz"))) (Av (i:=5) sc_law.nd rfl (by first | exact Or.inl rfl | exact Or.inr rfl)) (fun _ _=>KW 5 _) ?b1) (Ag (Ar J6))
 intro i q hq
 have hok:PieceOk pl q (BT [10,10,12,9,2,0,8,3,12] 50 ns) (Ct 50 ns):=by
  have hm:=List.mem_of_getElem? hq
  simp only [List.mem_cons,List.not_mem_nil,or_false] at hm
  rcases hm with rfl | rfl | rfl
  ·exact hpo
  ·exact hpo.text o1 (by rw [o3];decide) (by rw [o3];decide)
  ·exact hpo.text w1 (by omega) (by omega)
 refine Ek (G1:=[some (.list (ns.map PyData.int)),some (stD pg cs bx b1 b2 pl),some (.list (([10,10,12,9,2,0,8,3,12]:List Nat).map menS)),some (.list (Ba pl (textOf cs (Bb ns 2)) (BT [10,10,12,9,2,0,8,3,12] 50 ns) (Ct 50 ns))),some (.tuple ((whoL cs n).map prD)),some (.tuple (q.map prD))]) ?_ rfl ?fg
 case fg=>
  intro j d e
  match j,e with
  | 0,e=>exact e
  | 1,e=>exact e
  | 2,e=>exact e
  | 3,e=>exact e
  | 4,e=>exact e
  | 5,e=>cases e
  | j + 6,e=>cases e
 exact Ac (Am (k:=false) (As (AD (k:=true) (AB (An D_right (by walk_at "rm") rfl (Aa (evv 1) (Aa (Ay (ds:=Ba pl q (BT [10,10,12,9,2,0,8,3,12] 50 ns) (Ct 50 ns)) (Aa (Ao (ds:=Ba pl (textOf cs (Bb ns 2)) (BT [10,10,12,9,2,0,8,3,12] 50 ns) (Ct 50 ns)) (evv 3) Ab (Aj (by decide) rfl)) (Aa (evv 5) (Aa (Ao (ds:=Ba pl (textOf cs (Bb ns 2)) (BT [10,10,12,9,2,0,8,3,12] 50 ns) (Ct 50 ns)) (evv 3) Ab (Aj (by decide) rfl)) (Aa (Ao (ds:=Ba pl (textOf cs (Bb ns 2)) (BT [10,10,12,9,2,0,8,3,12] 50 ns) (Ct 50 ns)) (evv 3) Ab (Aj (by decide) rfl)) Ad)))) (by walk_at "sz")) (Aa (Ap Fx (show PyData.none=AQ none from rfl)) Ad))) (Ox hst hok none)))) rfl) (fun h=>by cases h) (fun _=>Af)) Af
def C1 (K:PySem.W.Frag) (C:Addr) (m qual:Str) (st:Stmt):Prop:=∃f fd,Fun K m qual st f fd∧Meth K C m f
theorem mthIn_mk {K:PySem.W.Frag} {C f:Addr} {m qual:Str} {st:Stmt} {oc:Value} {od an:Option Addr} {osl:Array (Option Value)} {kV doc pm cdv ct:Value} (a:PySem.W.findIn K (.ref C) m=some (some (.ref f))) (i:PySem.W.isFn K (.ref f)=true) (l:K.lookup f=some ⟨oc,od,.func (PySem.W.fnOf m qual (Ca st) (AM st) (Ai st) .none kV doc pm an cdv ct),osl⟩) (c:PySem.W.codeIn K cdv qual=true) (k:PySem.W.keepIn K (.ref f)=true):C1 K C m qual st:=⟨f,_,K4 l c k,a,i,k⟩
def NI (K:PySem.W.Frag) (C:Addr) (qual:Str) (st:Stmt):Prop:=∃f fd,Fun K "__init__" qual st f fd∧Mk K C f
theorem iniIn_mk {K:PySem.W.Frag} {C f:Addr} {qual:Str} {st:Stmt} {oc:Value} {od an:Option Addr} {osl:Array (Option Value)} {kV doc pm cdv ct:Value} (a:PySem.W.findIn K (.ref C) "__init__"=some (some (.ref f))) (i:PySem.W.isFn K (.ref f)=true) (l:K.lookup f=some ⟨oc,od,.func (PySem.W.fnOf "__init__" qual (Ca st) (AM st) (Ai st) .none kV doc pm an cdv ct),osl⟩) (c:PySem.W.codeIn K cdv qual=true) (k:PySem.W.keepIn K (.ref f)=true) (m1:PySem.W.makesIn K C=true) (m2:PySem.W.keepIn K (.ref C)=true):NI K C qual st:=⟨f,_,K4 l c k,m1,a,i,m2⟩
def Qj (K:PySem.W.Frag) (x:Str) (st:Stmt):Prop:=∃f fd,FunD K #[.none] x x st f fd∧PySem.W.nsIn K mainGlobals x=some (some (.ref f))
theorem fnD_mk {K:PySem.W.Frag} {x:Str} {st:Stmt} {f T:Addr} {oc tc:Value} {od an:Option Addr} {osl tsl:Array (Option Value)} {kV doc pm cdv ct:Value} {its:Array Value} {n:Nat} (a:PySem.W.nsIn K mainGlobals x=some (some (.ref f))) (l:K.lookup f=some ⟨oc,od,.func (PySem.W.fnOf x x (Ca st) (AM st) (Ai st) (.ref T) kV doc pm an cdv ct),osl⟩) (c:PySem.W.codeIn K cdv x=true) (k:PySem.W.keepIn K (.ref f)=true) (lt:K.lookup T=some ⟨tc,none,.seq its n,tsl⟩) (hi:its=#[.none]):Qj K x st:=⟨f,_,⟨⟨oc,od,T,n,_,kV,doc,pm,an,cdv,ct,osl,rfl,l,c,lt,by rw [hi]⟩,k⟩,a⟩
theorem all_mk {l:PySem.W.OpenLaw} {w:World} {K:PySem.W.Frag} {h:Heap} {mg:Str→Option Value} {fa C CP:Addr} {t0 t1 t2 t3 t4 t5:Tok} (X:K.In h) (G:h.Ns mainGlobals mg) (hfa:mg "law"=some (.ref fa))
  (f1:∃f fd,FnIn K "is_below" Dc f fd)
  (f2:∃f fd,FnIn K "is_word" DR f fd)
  (f3:∃f fd,FnIn K "check_pages" CB f fd)
  (f4:∃f fd,FnIn K "are_words" Dy f fd)
  (f5:∃f fd,FnIn K "check_state" C9 f fd)
  (f6:∃f fd,FnIn K "has_right" Dx f fd)
  (f7:∃f fd,FnIn K "may_read" Ev f fd)
  (f8:∃f fd,FnIn K "may_write" DO f fd)
  (f9:∃f fd,FnIn K "result_of" Dv f fd)
  (f10:∃f fd,FnIn K "is_tuple" Eh f fd)
  (f11:∃f fd,FnIn K "are_pairs" DI f fd)
  (f12:∃f fd,FnIn K "is_recipe" Dl f fd)
  (f13:∃f fd,FnIn K "is_question" CA f fd)
  (f14:∃f fd,FnIn K "is_truth_recipe" BO f fd)
  (f15:∃f fd,FnIn K "is_way" GY f fd)
  (f16:∃f fd,FnIn K "is_test" Fm f fd)
  (f17:∃f fd,FnIn K "is_made_row" CH f fd)
  (f18:∃f fd,FnIn K "check_piece" C6 f fd)
  (f19:∃f fd,FnIn K "recipe_worth" Cu f fd)
  (f20:∃f fd,FnIn K "kind_tells" De f fd)
  (f21:∃f fd,FnIn K "truth_worth" CG f fd)
  (f22:∃f fd,FnIn K "first_spots" CF f fd)
  (f23:∃f fd,FnIn K "cell_of" EZ f fd)
  (f24:∃f fd,FnIn K "number_set" CT f fd)
  (f25:∃f fd,FnIn K "why_left" Em f fd)
  (f26:∃f fd,FnIn K "do_row" GC f fd)
  (f27:∃f fd,FnIn K "is_into" Ft f fd)
  (f28:∃f fd,FnIn K "lead_back" Dp f fd)
  (f29:∃f fd,FnIn K "_law_whole" DN f fd)
  (f30:∃f fd,FnIn K "_law_cell" Ep f fd)
  (f31:∃f fd,FnIn K "_law_recipe" CY f fd)
  (f32:∃f fd,FnIn K "_law_truth" DA f fd)
  (f33:∃f fd,FnIn K "_law_way" Fd f fd)
  (f34:∃f fd,FnIn K "_law_row" Fe f fd)
  (f35:∃f fd,FnIn K "_law_state" DK f fd)
  (f36:∃f fd,FnIn K "_law_text" En f fd)
  (f37:∃f fd,FnIn K "_law_piece" Dt f fd)
  (f38:∃f fd,FnIn K "_law_machine" C5 f fd)
  (f39:∃f fd,FnIn K "_law_worth" DE f fd)
  (f40:∃f fd,FnIn K "_law_holds" Dz f fd)
  (f41:∃f fd,FnIn K "_law_told_truth" BX f fd)
  (f42:∃f fd,FnIn K "_law_number" CS f fd)
  (f43:∃f fd,FnIn K "_law_may" Fw f fd)
  (f44:∃f fd,FnIn K "_law_barred" Db f fd)
  (f45:∃f fd,FnIn K "_law_rode" Eo f fd)
  (f46:∃f fd,FnIn K "_law_right" Du f fd)
  (f47:∃f fd,FnIn K "law" Os f fd)
  (r0:Qj K "ridden" GU)
  (z1:PySem.W.nsIn K mainGlobals "len"=some none)
  (z2:PySem.W.nsIn K mainGlobals "isinstance"=some none)
  (z3:PySem.W.nsIn K mainGlobals "int"=some none)
  (z4:PySem.W.nsIn K mainGlobals "bool"=some none)
  (z5:PySem.W.nsIn K mainGlobals "str"=some none)
  (z6:PySem.W.nsIn K mainGlobals "all"=some none)
  (z7:PySem.W.nsIn K mainGlobals "zip"=some none)
  (z8:PySem.W.nsIn K mainGlobals "sum"=some none)
  (z9:PySem.W.nsIn K mainGlobals "tuple"=some none)
  (z10:PySem.W.nsIn K mainGlobals "list"=some none)
  (z11:PySem.W.nsIn K mainGlobals "range"=some none)
  (z12:PySem.W.nsIn K mainGlobals "max"=some none)
  (z13:PySem.W.nsIn K mainGlobals "min"=some none)
  (z14:PySem.W.nsIn K mainGlobals "enumerate"=some none)
  (i0:PySem.W.nsIn K mainGlobals "PAGE_CELLS"=some (some (.int 16 t0)))
  (i1:PySem.W.nsIn K mainGlobals "SPOTS"=some (some (.int 12 t1)))
  (i2:PySem.W.nsIn K mainGlobals "MOST_CELLS"=some (some (.int 60 t2)))
  (i3:PySem.W.nsIn K mainGlobals "MOST_ROWS"=some (some (.int 60 t3)))
  (i4:PySem.W.nsIn K mainGlobals "MOST_DONE"=some (some (.int 99 t4)))
  (i5:PySem.W.nsIn K mainGlobals "NUMBERS"=some (some (.int 16777216 t5)))
  (p0:PySem.W.nsIn K mainGlobals "Machine"=some (some (.ref C))) (p1:PySem.W.plainGet K C Str.empty=true) (p2:PySem.W.hasDictIn K C=true) (p3:PySem.W.plainOver K C=true) (p4:PySem.W.findIn K (.ref C) "__setattr__"=some (some (.builtin "object.__setattr__"))) (p5:PySem.W.findIn K (.ref C) "rights"=some none) (p6:PySem.W.findIn K (.ref C) "memory"=some none) (p7:PySem.W.findIn K (.ref C) "box_words"=some none) (p8:PySem.W.findIn K (.ref C) "here"=some none) (p9:PySem.W.findIn K (.ref C) "truth_pair"=some none) (p10:PySem.W.findIn K (.ref C) "told_words"=some none) (p11:PySem.W.findIn K (.ref C) "stored_cells"=some none) (p12:PySem.W.findIn K (.ref C) "done_count"=some none)
  (q0:PySem.W.nsIn K mainGlobals "Piece"=some (some (.ref CP))) (q1:PySem.W.plainGet K CP Str.empty=true) (q2:PySem.W.hasDictIn K CP=true) (q3:PySem.W.plainOver K CP=true) (q4:PySem.W.findIn K (.ref CP) "__setattr__"=some (some (.builtin "object.__setattr__"))) (q5:PySem.W.findIn K (.ref CP) "start"=some none) (q6:PySem.W.findIn K (.ref CP) "text"=some none) (q7:PySem.W.findIn K (.ref CP) "rows"=some none) (q8:PySem.W.findIn K (.ref CP) "ways"=some none)
  (j0:NI K C "Machine.__init__" Cn) (j1:NI K CP "Piece.__init__" Df)
  (m1:C1 K C "pages" "Machine.pages" BE)
  (m2:C1 K C "cells" "Machine.cells" Ch)
  (m3:C1 K C "boxes" "Machine.boxes" Cg)
  (m4:C1 K C "truths" "Machine.truths" B_)
  (m5:C1 K C "place" "Machine.place" Ci)
  (m6:C1 K C "told" "Machine.told" Co)
  (m7:C1 K C "stored" "Machine.stored" BV)
  (m8:C1 K C "done" "Machine.done" Cy)
  (m9:C1 K C "state" "Machine.state" Cf)
  (m10:C1 K C "put" "Machine.put" C7)
  (m11:C1 K C "peek" "Machine.peek" Cz)
  (m12:C1 K C "poke" "Machine.poke" Cv)
  (m13:C1 K C "tell" "Machine.tell" Cr)
  (d1:DZ K mg w.params "MADE_PARTS" Fk) (d2:DZ K mg w.params "MADE_BOUNDS" Ew):
  ∃fd:FuncData,(∀(s:Shared) (v:Value),BindsTo s fd ⟨[v],[]⟩ [("script",v)])∧∀base:Heap,K.In base→base.Ns mainGlobals mg→FnOk l.prog w K mg base CX0 20 fa fd ["script"] (spD K K_):=by
 have T:Txt mg:=⟨PySem.W.mg_none_of X G z1,PySem.W.mg_none_of X G z2,PySem.W.mg_none_of X G z3,PySem.W.mg_none_of X G z4,PySem.W.mg_none_of X G z5,PySem.W.mg_none_of X G z6,PySem.W.mg_none_of X G z7,PySem.W.mg_none_of X G z8,PySem.W.mg_none_of X G z9,PySem.W.mg_none_of X G z10,PySem.W.mg_none_of X G z11,PySem.W.mg_none_of X G z12,PySem.W.mg_none_of X G z13,PySem.W.mg_none_of X G z14,⟨t0,PySem.W.mg_of X G i0⟩⟩
 have TP:TxtP K mg w.params:=⟨PySem.W.mg_none_of X G z1,PySem.W.mg_none_of X G z2,PySem.W.mg_none_of X G z3,PySem.W.mg_none_of X G z4,PySem.W.mg_none_of X G z5,PySem.W.mg_none_of X G z6,PySem.W.mg_none_of X G z7,PySem.W.mg_none_of X G z9,PySem.W.mg_none_of X G z11,PySem.W.mg_none_of X G z12,PySem.W.mg_none_of X G z13,PySem.W.mg_none_of X G z14,⟨t1,PySem.W.mg_of X G i1⟩,⟨t2,PySem.W.mg_of X G i2⟩,⟨t3,PySem.W.mg_of X G i3⟩,⟨t4,PySem.W.mg_of X G i4⟩,d1,d2⟩
 have TN:TxtN mg:=⟨⟨t5,PySem.W.mg_of X G i5⟩⟩
 have CM:ClsM K mg C:=⟨⟨p1,p2,p3,p4⟩,p5,p6,p7,p8,p9,p10,p11,p12,PySem.W.mg_of X G p0⟩
 have CQ:ClsP K mg CP:=⟨⟨q1,q2,q3,q4⟩,q5,q6,q7,q8,PySem.W.mg_of X G q0⟩
 obtain ⟨ai,bi,FI,MI⟩:=j0
 obtain ⟨aj,bj,FJ,MJ⟩:=j1
 obtain ⟨ar,br,FR,NR0⟩:=r0
 obtain ⟨am1,bm1,FM1,MM1⟩:=m1
 obtain ⟨am2,bm2,FM2,MM2⟩:=m2
 obtain ⟨am3,bm3,FM3,MM3⟩:=m3
 obtain ⟨am4,bm4,FM4,MM4⟩:=m4
 obtain ⟨am5,bm5,FM5,MM5⟩:=m5
 obtain ⟨am6,bm6,FM6,MM6⟩:=m6
 obtain ⟨am7,bm7,FM7,MM7⟩:=m7
 obtain ⟨am8,bm8,FM8,MM8⟩:=m8
 obtain ⟨am9,bm9,FM9,MM9⟩:=m9
 obtain ⟨am10,bm10,FM10,MM10⟩:=m10
 obtain ⟨am11,bm11,FM11,MM11⟩:=m11
 obtain ⟨am12,bm12,FM12,MM12⟩:=m12
 obtain ⟨am13,bm13,FM13,MM13⟩:=m13
 obtain ⟨a1,b1,F1⟩:=f1
 obtain ⟨a2,b2,F2⟩:=f2
 obtain ⟨a3,b3,F3⟩:=f3
 obtain ⟨a4,b4,F4⟩:=f4
 obtain ⟨a5,b5,F5⟩:=f5
 obtain ⟨a6,b6,F6⟩:=f6
 obtain ⟨a7,b7,F7⟩:=f7
 obtain ⟨a8,b8,F8⟩:=f8
 obtain ⟨a9,b9,F9⟩:=f9
 obtain ⟨a10,b10,F10⟩:=f10
 obtain ⟨a11,b11,F11⟩:=f11
 obtain ⟨a12,b12,F12⟩:=f12
 obtain ⟨a13,b13,F13⟩:=f13
 obtain ⟨a14,b14,F14⟩:=f14
 obtain ⟨a15,b15,F15⟩:=f15
 obtain ⟨a16,b16,F16⟩:=f16
 obtain ⟨a17,b17,F17⟩:=f17
 obtain ⟨a18,b18,F18⟩:=f18
 obtain ⟨a19,b19,F19⟩:=f19
 obtain ⟨a20,b20,F20⟩:=f20
 obtain ⟨a21,b21,F21⟩:=f21
 obtain ⟨a22,b22,F22⟩:=f22
 obtain ⟨a23,b23,F23⟩:=f23
 obtain ⟨a24,b24,F24⟩:=f24
 obtain ⟨a25,b25,F25⟩:=f25
 obtain ⟨a26,b26,F26⟩:=f26
 obtain ⟨a27,b27,F27⟩:=f27
 obtain ⟨a28,b28,F28⟩:=f28
 obtain ⟨a29,b29,F29⟩:=f29
 obtain ⟨a30,b30,F30⟩:=f30
 obtain ⟨a31,b31,F31⟩:=f31
 obtain ⟨a32,b32,F32⟩:=f32
 obtain ⟨a33,b33,F33⟩:=f33
 obtain ⟨a34,b34,F34⟩:=f34
 obtain ⟨a35,b35,F35⟩:=f35
 obtain ⟨a36,b36,F36⟩:=f36
 obtain ⟨a37,b37,F37⟩:=f37
 obtain ⟨a38,b38,F38⟩:=f38
 obtain ⟨a39,b39,F39⟩:=f39
 obtain ⟨a40,b40,F40⟩:=f40
 obtain ⟨a41,b41,F41⟩:=f41
 obtain ⟨a42,b42,F42⟩:=f42
 obtain ⟨a43,b43,F43⟩:=f43
 obtain ⟨a44,b44,F44⟩:=f44
 obtain ⟨a45,b45,F45⟩:=f45
 obtain ⟨a46,b46,F46⟩:=f46
 obtain ⟨a47,b47,F47⟩:=f47
 have e:=hfa.symm.trans (PySem.W.mg_of X G F47.ns)
 cases e
 have bs:∀(s:Shared) (v:Value),BindsTo s b47 ⟨[v],[]⟩ [("script",v)]:=by
  obtain ⟨oc,od,kV,doc,pm,an,cdv,ct,osl,rfl,_⟩:=F47.fn.ex
  exact fun s v=>.of_eq rfl
 refine ⟨b47,bs,fun base _ _=>?_⟩
 have B1:DFn l.prog w K mg base 1 "is_below" CU:=Kh T F1.fn (PySem.W.mg_of X G F1.ns)
 have B2:=Md B1 F2.fn (PySem.W.mg_of X G F2.ns)
 have B3:=Jl T B1 F6.fn (PySem.W.mg_of X G F6.ns)
 have B4:=Ky B3 F7.fn (PySem.W.mg_of X G F7.ns)
 have B5:=Kb B3 F8.fn (PySem.W.mg_of X G F8.ns)
 have B6:=JL T B2 F4.fn (PySem.W.mg_of X G F4.ns)
 have B7:=Hm (P:=l.prog) (w:=w) (base:=base) T F3.fn (PySem.W.mg_of X G F3.ns)
 have B8:=Hn T B7 B6 B2 F5.fn (PySem.W.mg_of X G F5.ns)
 have I0:=Ry T CM B8 FI MI
 have M4:MFn l.prog w K mg base 1 C "peek" (Nk C):=Qr CM FM11 MM11
 have M5:=Oy (P:=l.prog) (w:=w) (base:=base) T CM FM7 MM7
 have O1:OFn l.prog w K mg base 1 C "poke" (HC MU):=Rw CM FM12 MM12
 have O2:OFn l.prog w K mg base 1 C "tell" (HC N9):=Q5 CM FM13 MM13
 have N1:=Pc (P:=l.prog) (w:=w) (base:=base) T CM FM1 MM1
 have N2:=P1 (P:=l.prog) (w:=w) (base:=base) T CM FM2 MM2
 have N3:=ON (P:=l.prog) (w:=w) (base:=base) T CM FM3 MM3
 have N4:=NE (P:=l.prog) (w:=w) (base:=base) T CM FM4 MM4
 have N5:=P9 (P:=l.prog) (w:=w) (base:=base) T CM FM5 MM5
 have N6:=Q0 (P:=l.prog) (w:=w) (base:=base) T CM FM6 MM6
 have N7:=Rz (P:=l.prog) (w:=w) (base:=base) T CM FM8 MM8
 have N8:=OM CM N3 N4 N5 N2 N6 N7 FM9 MM9
 have Y1:=RV (P:=l.prog) (w:=w) (base:=base) T CM FM10 MM10
 have FP:=NN (P:=l.prog) (w:=w) (base:=base) T CM FM1 MM1
 have D1:DFn l.prog w K mg base 1 "is_below" DJ:=QD TP F1.fn (PySem.W.mg_of X G F1.ns)
 have D2:=Rm D1 F2.fn (PySem.W.mg_of X G F2.ns)
 have D3:DFn l.prog w K mg base 1 "is_tuple" BY:=Km TP F10.fn (PySem.W.mg_of X G F10.ns)
 have D4:=JJ TP D3 D1 D2 F11.fn (PySem.W.mg_of X G F11.ns)
 have D5:=Ka TP D3 D2 D4 F12.fn (PySem.W.mg_of X G F12.ns)
 have D6:=Hl TP D1 F13.fn (PySem.W.mg_of X G F13.ns)
 have D7:=EB TP D3 D1 D6 F14.fn (PySem.W.mg_of X G F14.ns)
 have D8:=O5 TP D3 D1 D5 D7 F15.fn (PySem.W.mg_of X G F15.ns)
 have D9:=Mw TP D6 D8 F16.fn (PySem.W.mg_of X G F16.ns)
 have D10:=Hh TP D1 D9 F17.fn (PySem.W.mg_of X G F17.ns)
 have D11:=Hg TP D2 D4 D8 D10 F18.fn (PySem.W.mg_of X G F18.ns)
 have OP:=OK TP CQ D11 FJ MJ
 have D12:DFn l.prog w K mg base 1 "_law_cell" G7:=Kj TP F30.fn (PySem.W.mg_of X G F30.ns)
 have D13:DFn l.prog w K mg base 1 "_law_recipe" NV:=Iy TP F31.fn (PySem.W.mg_of X G F31.ns)
 have D14:DFn l.prog w K mg base 1 "_law_truth" FV:=JV TP F32.fn (PySem.W.mg_of X G F32.ns)
 have D15:=Mx TP D13 D14 F33.fn (PySem.W.mg_of X G F33.ns)
 have D16:=LQ TP D15 F34.fn (PySem.W.mg_of X G F34.ns)
 have R17:=IN TP D12 F35.fn (PySem.W.mg_of X G F35.ns)
 have D18:DFn l.prog w K mg base 1 "_law_text" Kr:=KH TP F36.fn (PySem.W.mg_of X G F36.ns)
 have D19:=Je TP D12 D16 D15 D18 F37.fn (PySem.W.mg_of X G F37.ns)
 have E1:DFn l.prog w K mg base 1 "recipe_worth" Cs:=G9 T F19.fn (PySem.W.mg_of X G F19.ns)
 have E2:DFn l.prog w K mg base 1 "kind_tells" C3:=IJ F20.fn (PySem.W.mg_of X G F20.ns)
 have E3:=Hk E2 F21.fn (PySem.W.mg_of X G F21.ns)
 have E4:DFn l.prog w K mg base 1 "result_of" Kq:=IH F9.fn (PySem.W.mg_of X G F9.ns)
 have E5:DFn l.prog w K mg base 1 "cell_of" Dw:=Mf TP F23.fn (PySem.W.mg_of X G F23.ns)
 have E6:=Ie TN E4 F24.fn (PySem.W.mg_of X G F24.ns)
 have E7:=KN B4 B5 E5 E2 F25.fn (PySem.W.mg_of X G F25.ns)
 have E8:=Mn E5 F27.fn (PySem.W.mg_of X G F27.ns)
 have E9:=Hi TP CM N3 N4 F22.fn (PySem.W.mg_of X G F22.ns)
 have E10:=Mc CM O1 O2 M4 E5 E6 F26.fn (PySem.W.mg_of X G F26.ns)
 have E11:=J4 TP CM E1 E3 Y1 F28.fn (PySem.W.mg_of X G F28.ns)
 have E12:=O9 TP CM CQ FP E9 E7 E8 E10 E11 FR (PySem.W.mg_of X G NR0)
 have W1:DFn l.prog w K mg base 1 "_law_worth" Cs:=Jf T F39.fn (PySem.W.mg_of X G F39.ns)
 have W2:DFn l.prog w K mg base 1 "_law_holds" C3:=Jo F40.fn (PySem.W.mg_of X G F40.ns)
 have W3:=Fa W2 F41.fn (PySem.W.mg_of X G F41.ns)
 have W4:DFn l.prog w K mg base 1 "_law_number" G8:=II T F42.fn (PySem.W.mg_of X G F42.ns)
 have W5:DFn l.prog w K mg base 1 "_law_may" K6:=Ms T F43.fn (PySem.W.mg_of X G F43.ns)
 have W6:=IE W5 W2 F44.fn (PySem.W.mg_of X G F44.ns)
 have W7:=KD T W6 W4 F45.fn (PySem.W.mg_of X G F45.ns)
 have W8:=Mm T CM I0 Y1 F38.fn (PySem.W.mg_of X G F38.ns)
 have W9:DFn l.prog w K mg base 1 "_law_whole" N_:=S5 TP F29.fn (PySem.W.mg_of X G F29.ns)
 have W10:=Jd T TP CM CQ W7 W8 OP E12 W9 W1 W3 M5 N8 N2 N3 N4 N5 N6 N7 N1 F46.fn (PySem.W.mg_of X G F46.ns)
 exact Rh T R17 D12 D19 W10 F47.fn
end
end My
open PySem PySem.W PyProof.Rows
local macro_rules | `(tactic| walk_at "f")=>`(tactic| (refine' L2.fnIn_mk ?a ?l ?c ?k;(case a=>k_is);(case l=>k_is);(case c=>k_is);(case k=>k_is)))
local macro_rules | `(tactic| walk_at "m")=>`(tactic| (refine' My.mthIn_mk ?a ?i ?l ?c ?k;(case a=>k_is);(case i=>k_is);(case l=>k_is);(case c=>k_is);(case k=>k_is)))
set_option maxRecDepth 100000 in
set_option maxHeartbeats 0 in
theorem PySem.Challenge.cw_likewise_k32_left_at_stores_and_tests_holds : PySem.Challenge.rw_likewise_k32_left_at_stores_and_tests.Holds := by
 w_on;o_law;k_head;(case hw=>w_witness2)
 k_fill
 refine L2.walk_D (l:=PySem.Challenge.rw_likewise_k32_left_at_stores_and_tests) rfl rfl (fun w h Y=>PySem.W.kIn_of Y) ?F
 case F=>
  intro w mg fa h KX G hmg
  refine' My.all_mk KX G hmg ?f1 ?f2 ?f3 ?f4 ?f5 ?f6 ?f7 ?f8 ?f9 ?f10 ?f11 ?f12 ?f13 ?f14 ?f15 ?f16 ?f17 ?f18 ?f19 ?f20 ?f21 ?f22 ?f23 ?f24 ?f25 ?f26 ?f27 ?f28 ?f29 ?f30 ?f31 ?f32 ?f33 ?f34 ?f35 ?f36 ?f37 ?f38 ?f39 ?f40 ?f41 ?f42 ?f43 ?f44 ?f45 ?f46 ?f47 ?r0 ?z1 ?z2 ?z3 ?z4 ?z5 ?z6 ?z7 ?z8 ?z9 ?z10 ?z11 ?z12 ?z13 ?z14 ?i0 ?i1 ?i2 ?i3 ?i4 ?i5 ?p0 ?p1 ?p2 ?p3 ?p4 ?p5 ?p6 ?p7 ?p8 ?p9 ?p10 ?p11 ?p12 ?q0 ?q1 ?q2 ?q3 ?q4 ?q5 ?q6 ?q7 ?q8 ?j0 ?j1 ?m1 ?m2 ?m3 ?m4 ?m5 ?m6 ?m7 ?m8 ?m9 ?m10 ?m11 ?m12 ?m13 ?d1 ?d2
  (case f1=>walk_at "f")
  (case f2=>walk_at "f")
  (case f3=>walk_at "f")
  (case f4=>walk_at "f")
  (case f5=>walk_at "f")
  (case f6=>walk_at "f")
  (case f7=>walk_at "f")
  (case f8=>walk_at "f")
  (case f9=>walk_at "f")
  (case f10=>walk_at "f")
  (case f11=>walk_at "f")
  (case f12=>walk_at "f")
  (case f13=>walk_at "f")
  (case f14=>walk_at "f")
  (case f15=>walk_at "f")
  (case f16=>walk_at "f")
  (case f17=>walk_at "f")
  (case f18=>walk_at "f")
  (case f19=>walk_at "f")
  (case f20=>walk_at "f")
  (case f21=>walk_at "f")
  (case f22=>walk_at "f")
  (case f23=>walk_at "f")
  (case f24=>walk_at "f")
  (case f25=>walk_at "f")
  (case f26=>walk_at "f")
  (case f27=>walk_at "f")
  (case f28=>walk_at "f")
  (case f29=>walk_at "f")
  (case f30=>walk_at "f")
  (case f31=>walk_at "f")
  (case f32=>walk_at "f")
  (case f33=>walk_at "f")
  (case f34=>walk_at "f")
  (case f35=>walk_at "f")
  (case f36=>walk_at "f")
  (case f37=>walk_at "f")
  (case f38=>walk_at "f")
  (case f39=>walk_at "f")
  (case f40=>walk_at "f")
  (case f41=>walk_at "f")
  (case f42=>walk_at "f")
  (case f43=>walk_at "f")
  (case f44=>walk_at "f")
  (case f45=>walk_at "f")
  (case f46=>walk_at "f")
  (case f47=>walk_at "f")
  (case r0=>refine' My.fnD_mk ?a ?l ?c ?k ?lt ?hi;(case a=>k_is);(case l=>k_is);(case c=>k_is);(case k=>k_is);(case lt=>k_is);(case hi=>rfl))
  (case z1=>k_is)
  (case z2=>k_is)
  (case z3=>k_is)
  (case z4=>k_is)
  (case z5=>k_is)
  (case z6=>k_is)
  (case z7=>k_is)
  (case z8=>k_is)
  (case z9=>k_is)
  (case z10=>k_is)
  (case z11=>k_is)
  (case z12=>k_is)
  (case z13=>k_is)
  (case z14=>k_is)
  (case i0=>k_is)
  (case i1=>k_is)
  (case i2=>k_is)
  (case i3=>k_is)
  (case i4=>k_is)
  (case i5=>k_is)
  (case p0=>k_is)
  (case p1=>k_is)
  (case p2=>k_is)
  (case p3=>k_is)
  (case p4=>k_is)
  (case p5=>k_is)
  (case p6=>k_is)
  (case p7=>k_is)
  (case p8=>k_is)
  (case p9=>k_is)
  (case p10=>k_is)
  (case p11=>k_is)
  (case p12=>k_is)
  (case q0=>k_is)
  (case q1=>k_is)
  (case q2=>k_is)
  (case q3=>k_is)
  (case q4=>k_is)
  (case q5=>k_is)
  (case q6=>k_is)
  (case q7=>k_is)
  (case q8=>k_is)
  (case j0=>refine' My.iniIn_mk ?a ?i ?l ?c ?k ?mk1 ?mk2;(case a=>k_is);(case i=>k_is);(case l=>k_is);(case c=>k_is);(case k=>k_is);(case mk1=>k_is);(case mk2=>k_is))
  (case j1=>refine' My.iniIn_mk ?a ?i ?l ?c ?k ?mk1 ?mk2;(case a=>k_is);(case i=>k_is);(case l=>k_is);(case c=>k_is);(case k=>k_is);(case mk1=>k_is);(case mk2=>k_is))
  (case m1=>walk_at "m")
  (case m2=>walk_at "m")
  (case m3=>walk_at "m")
  (case m4=>walk_at "m")
  (case m5=>walk_at "m")
  (case m6=>walk_at "m")
  (case m7=>walk_at "m")
  (case m8=>walk_at "m")
  (case m9=>walk_at "m")
  (case m10=>walk_at "m")
  (case m11=>walk_at "m")
  (case m12=>walk_at "m")
  (case m13=>walk_at "m")
  (case d1=>refine' L2.gdict_mk KX G ?a ?l ?k ?t ?n;(case a=>k_is);(case l=>k_is);(case k=>k_keys);(case t=>rfl);(case n=>decide +kernel))
  (case d2=>refine' L2.gdict_mk KX G ?a ?l ?k ?t ?n;(case a=>k_is);(case l=>k_is);(case k=>k_keys);(case t=>rfl);(case n=>decide +kernel))
